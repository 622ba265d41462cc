import PyProof.Rows.All
import Wide.All
import OpenK.AllK
import Wide.FinOn
import HandS.ForMost
import HandS.IsInst
import HandS.Wide
import HandS.SetKeys
import HandS.SortInts
import HandS.Set
import HandS.Strs
import HandS.StrMore
import HandS.RevRange
import HandS.Flow
import HandS.Evl
import HandS.Exc
import HandS.ExcOwn
import HandS.ExcInit
import HandS.Walk
import HandS.DictComp
import HandS.Property
import HandS.Star
import HandS.CallSlots
import HandS.WordsExc
import HandS.NoneIn
import HandS.IterVal
import HandS.IterNext
import HandS.OwnIter
import HandS.TupAny
import HandS.SortOrd
import HandS.SortRule
import HandS.ExcIs
import HandS.ExcField
import HandS.HotCalls
import KE.SortData
import KE.SortKeyHeap
import HandS.Text
import PyProof.StrLawsRepr
import PyProof.ListStr
import PyProof.TupleOfStr
import PySem.Challenge.RW_markshome_k00_names_are_judged
set_option Elab.async false
set_option linter.all false
set_option maxRecDepth 100000
namespace K1
open PySem PySem.Spec PyProof.Rows L2
def topS (i : Nat) : Stmt := PySem.Challenge.pw_markshome_k00_names_are_judged.main.body.getD i (.Pass ⟨0, 0, 0, 0⟩)

/-- a def of the text: where it stands, how it binds, its name in the module -/
structure Df (K : PySem.W.Frag) (mg : Str → Option Value) (x : Str) (st : Stmt) (ps : List Str) (f : Addr) (fd : FuncData) : Prop where
  F : Fun K x x st f fd
  b : Binds K fd ps []
  g : mg x = some (.ref f)
/-- built-ins that the module does not name -/
structure Tb (mg : Str → Option Value) : Prop where
  m_int : mg "int" = none
  m_max : mg "max" = none
  m_min : mg "min" = none
  m_range : mg "range" = none
  m_reversed : mg "reversed" = none
  m_len : mg "len" = none
  m_list : mg "list" = none
  m_tuple : mg "tuple" = none
  m_str : mg "str" = none
  m_dict : mg "dict" = none
  m_bool : mg "bool" = none
  m_isinstance : mg "isinstance" = none
  m_all : mg "all" = none
  m_any : mg "any" = none
  m_sorted : mg "sorted" = none
  m_set : mg "set" = none
  m_repr : mg "repr" = none

/-! ### heaps: all but what stands at a is as it was -/
def Bt (a : Addr) (H H' : Hp) : Prop := ∀ b o, b ≠ a → H b = some o → H' b = some o
theorem Bt.refl (a : Addr) (H : Hp) : Bt a H H := fun _ _ _ h => h
theorem Bt.trans {a : Addr} {H H1 H2 : Hp} (x : Bt a H H1) (y : Bt a H1 H2) : Bt a H H2 := fun b o n h => y b o n (x b o n h)
theorem Bt.new {a p : Addr} {H : Hp} {o : HO} (h : H p = none) : Bt a H (upd H p o) := fun b u _ e => by
  rw [upd_ne (ne_of_none e h)]
  exact e
theorem Bt.at {a : Addr} {H : Hp} {o : HO} : Bt a H (upd H a o) := fun b u n e => by
  rw [upd_ne n]
  exact e
theorem Bt.ofSame {a : Addr} {H H' : Hp} (h : Same H H') : Bt a H H' := fun b o _ e => h b o e
theorem Bt.seq {a l : Addr} {K : PySem.W.Frag} {H H' : Hp} {xs : List V} (e : Bt a H H') (n : l ≠ a) (h : SqL K H l xs) : SqL K H' l xs := by
  rcases h with (h | ⟨o, h⟩) | h
  · exact .inl (.inl (e _ _ n h))
  · exact .inl (.inr ⟨o, e _ _ n h⟩)
  · exact .inr h

/-! ### the store of the law: [cells, place, state, count, held, left] -/
def stO (c : Addr) (p st ct hd lf : Int) : HO := .lst [.ref c, .int p, .int st, .int ct, .int hd, .int lf]
/-- a store at a, its cells at cc -/
def Sto (a cc : Addr) (H : Hp) : Prop := ∃ p st ct hd lf, H a = some (stO cc p st ct hd lf) ∧ cc ≠ a ∧ 0 ≤ p ∧ ∃ ns : List Int, H cc = some (.lst (ns.map V.int))
theorem Sto.keep {a cc : Addr} {H H' : Hp} (h : Sto a cc H) (k : Bt a H H') (k2 : ∀ o, H a = some o → H' a = some o) : Sto a cc H' := by
  obtain ⟨p, st, ct, hd, lf, h1, h2, h3, ns, h4⟩ := h
  exact ⟨p, st, ct, hd, lf, k2 _ h1, h2, h3, ns, k _ _ h2 h4⟩
theorem Sto.at {a cc : Addr} {H : Hp} (h : Sto a cc H) : ∃ o, H a = some o := by
  obtain ⟨p, st, ct, hd, lf, hA, _⟩ := h
  exact ⟨_, hA⟩
theorem Sto.ne {a cc p : Addr} {H : Hp} (h : Sto a cc H) (hp : H p = none) : p ≠ a := fun e => by
  obtain ⟨o, ho⟩ := h.at
  rw [← e, hp] at ho; cases ho
theorem Sto.nc {a cc p : Addr} {H : Hp} (h : Sto a cc H) (hp : H p = none) : p ≠ cc := fun e => by
  obtain ⟨q, st, ct, hd, lf, hA, _, _, ns, hc⟩ := h
  rw [← e, hp] at hc; cases hc
theorem Sto.new {a cc p : Addr} {H : Hp} {o : HO} (h : Sto a cc H) (hp : H p = none) : Sto a cc (upd H p o) :=
  h.keep (Bt.new hp) fun u e => by rw [upd_ne (h.ne hp).symm]; exact e
/-- a thing changed that was not there at first -/
theorem Sto.put {a cc p : Addr} {H H' : Hp} {o : HO} (h : Sto a cc H') (h0 : Sto a cc H) (hp : H p = none) : Sto a cc (upd H' p o) := by
  have n1 := h0.ne hp
  have n2 := h0.nc hp
  obtain ⟨q, st, ct, hd, lf, h1, h2, h3, ns, h4⟩ := h
  exact ⟨q, st, ct, hd, lf, by rw [upd_ne n1.symm]; exact h1, h2, h3, ns, by rw [upd_ne n2.symm]; exact h4⟩
theorem Bt.put {a p : Addr} {H H' : Hp} {o : HO} (h : Bt a H H') (hp : H p = none) : Bt a H (upd H' p o) := fun b u n e => by
  rw [upd_ne (ne_of_none e hp)]
  exact h b u n e
/-- what is not there behind was not there -/
theorem Bt.free {a p : Addr} {H H' : Hp} (h : Bt a H H') (n : p ≠ a) (e : H' p = none) : H p = none := by
  cases q : H p with
  | none => rfl
  | some o => rw [h p o n q] at e; cases e
section
theorem szl {n : Nat} (h : n ≤ 1000000) : n ≤ sizeLine := Nat.le_trans h (by decide)
theorem szt {n : Nat} (h : n ≤ 1000000) : n < sizeLine := Nat.lt_of_le_of_lt h (by decide)
theorem log_small {i : Int} (h0 : 0 ≤ i) (h1 : i < 1000000000000) : i.natAbs.log2 < 1920 := PySem.Flt.log2_lt_of (by decide) (Nat.lt_of_lt_of_le (by omega : i.natAbs < 2 ^ 60) (Nat.pow_le_pow_right (by decide) (by decide)))
theorem flat_str (ys : List Str) : (ys.map V.str).all flatV = true := by
  induction ys with
  | nil => rfl
  | cons y ys ih => rw [List.map_cons, List.all_cons, ih]; rfl
theorem num_len {i : Int} (h0 : 0 ≤ i) (h1 : i < 10 ^ 10) : (Str.ofString (toString i)).length ≤ 10 := toString_length_le h0 (by decide) h1
theorem str_len (z : Str) : z.cps.toList.length = z.length := Array.length_toList
theorem one_len (c : Nat) : (⟨#[c]⟩ : Str).length = 1 := rfl
theorem app_len (x y : Str) : (x ++ y).length = x.length + y.length := by
  rw [← str_len, ← str_len, ← str_len, Str.cps_append, Array.toList_append, List.length_append]
theorem atI_in {α : Type} {xs : List α} {r : Int} (h0 : 0 ≤ r) (h1 : r < xs.length) : ∃ x, atI xs r = some x ∧ x ∈ xs := by
  have e : r = ((r.toNat : Nat) : Int) := by omega
  have hl : r.toNat < xs.length := by omega
  generalize r.toNat = n at e hl
  subst e
  exact ⟨xs[n], atI_nat (List.getElem?_eq_getElem hl), List.getElem_mem _⟩
theorem atI_z {α : Type} {xs : List α} {j : Nat} {v : α} (h : xs[j]? = some v) : atI xs (0 + (j : Int)) = some v := by
  rw [Int.zero_add]; exact atI_nat h
theorem atI_s {α : Type} {xs : List α} {j : Nat} {v : α} (h : xs[j + 1]? = some v) : atI xs (0 + (j : Int) + 1) = some v := by
  rw [Int.zero_add]; exact atI_nat (j := j + 1) h
theorem get_map {α β : Type} (f : α → β) {l : List α} {i : Nat} {x : α} (h : l[i]? = some x) : (l.map f)[i]? = some (f x) := by
  rw [List.getElem?_map, h]; rfl
/-! ### rules that speak of the written part, with it named (for the inside of a comprehension) -/
section
variable {X : Cx} {K : PySem.W.Frag}
theorem k_slT (h : X.K = K) : SlR X (rSlT K) := h ▸ sl_tup
theorem k_slL (h : X.K = K) : SlR X (rSlL K) := h ▸ sl_list
theorem k_ixT (h : X.K = K) : IxR X (rIxT K) := h ▸ ix_tup
theorem k_ixL (h : X.K = K) : IxR X (rIxL K) := h ▸ ix_list
theorem k_ix (h : X.K = K) : IxR X (rIx K) := h ▸ ix_seq
theorem k_len (h : X.K = K) : CallR X (.builtin "len") (fun xs H Q => ∃ p ys, xs = [.ref p] ∧ (SqL K H p ys ∨ SqT K H p ys) ∧ Q (.int ys.length) H) := h ▸ call_len_seq
theorem k_list (h : X.K = K) : CallR X (.type "list") (fun xs H Q => ∃ p ys, xs = [.ref p] ∧ (SqL K H p ys ∨ SqT K H p ys) ∧ ∀ l, H l = none → Q (.ref l) (upd H l (.lst ys))) := h ▸ call_list_of
theorem k_tuple (h : X.K = K) : CallR X (.type "tuple") (fun xs H Q => ∃ p ys, xs = [.ref p] ∧ ((SqL K H p ys ∧ ∀ l, H l = none → Q (.ref l) (upd H l (.tup ys))) ∨ (SqT K H p ys ∧ Q (.ref p) H))) := h ▸ call_tuple_of
theorem k_isi (h : X.K = K) : CallR X (.builtin "isinstance") (rIsi K) := h ▸ call_isi
theorem k_isiT (h : X.K = K) : CallR X (.builtin "isinstance") (rIsiT K) := h ▸ call_isiT
theorem k_all (h : X.K = K) (hc : X.calm = true) : CallR X (.builtin "all") (rAll K) := h ▸ cr_all hc
theorem k_any (h : X.K = K) (hc : X.calm = true) : CallR X (.builtin "any") (rAny K) := h ▸ cr_any hc
theorem k_in (h : X.K = K) : OpR X (compareOp .In) (rIn K false) := h ▸ op_in_seq
theorem k_notIn (h : X.K = K) : OpR X (compareOp .NotIn) (rIn K true) := h ▸ op_notIn_seq
theorem k_eqD (h : X.K = K) (hu : X.A.units + 64 < cLine) : OpR X (compareOp .Eq) (rEqD K) := h ▸ op_eqD hu
theorem k_neD (h : X.K = K) (hu : X.A.units + 64 < cLine) : OpR X (compareOp .NotEq) (rNeD K) := h ▸ op_neD hu
end
theorem isi_ok {K : PySem.W.Frag} {H : Hp} {x : V} {t n : String} {r : Bool} {Q : VK} (ty : TyX K H x (.type t)) (h : kitB t n = some r) (q : Q (.bl r) H) : rIsi K [x, .ty n] H Q := ⟨_, _, _, _, _, rfl, .ty _, ty, kit_ty h, q⟩
theorem isiT_ok2 {K : PySem.W.Frag} {H : Hp} {x : V} {p : Addr} {t m n : String} {r1 r2 : Bool} {Q : VK} (hp : H p = some (.tup [.ty m, .ty n])) (ty : TyX K H x (.type t)) (h1 : kitB t m = some r1) (h2 : kitB t n = some r2) (q : Q (.bl (r1 || r2)) H) : rIsiT K [x, .ref p] H Q :=
  ⟨_, _, _, _, _, _, rfl, hp, .cons (.ty _) (.cons (.ty _) .nil), ty, kitAny_cons (kit_ty h1) (fun e => kitAny_cons (r := r1 || r2) (kit_ty h2) (fun e2 => by rw [e, e2]; exact kitAny_nil) (fun e2 => by rw [e2, Bool.or_true])) (fun e => by rw [e, Bool.true_or]), q⟩
theorem if_true {A B : Prop} (h : A) : if true = true then A else B := iteT h
/-! ### tests -/
theorem if_d {p A B : Prop} [Decidable p] (h1 : p → A) (h2 : ¬ p → B) : if decide p = true then A else B := by
  by_cases c : p
  · rw [decide_eq_true c]; exact iteT (h1 c)
  · rw [decide_eq_false c]; exact iteF (h2 c)
theorem if_I {a b : Int} {A B : Prop} (h1 : a = b → A) (h2 : a ≠ b → B) : if decide (V.int a = V.int b) = true then A else B :=
  if_d (fun c => h1 (V.int.inj c)) fun c => h2 fun e => c (congrArg V.int e)
theorem if_S {a b : Str} {A B : Prop} (h1 : a = b → A) (h2 : a ≠ b → B) : if decide (V.str a = V.str b) = true then A else B :=
  if_d (fun c => h1 (V.str.inj c)) fun c => h2 fun e => c (congrArg V.str e)
theorem if_n {b : Bool} {A B : Prop} (h : if b = true then B else A) : if (!b) = true then A else B := by
  cases b with
  | true => exact iteF (by rw [if_pos rfl] at h; exact h)
  | false => exact iteT (by rw [if_neg Bool.false_ne_true] at h; exact h)
theorem if_b {b : Bool} {A B : Prop} (h1 : b = true → A) (h2 : b = false → B) : if b = true then A else B := by
  cases b with
  | true => exact iteT (h1 rfl)
  | false => exact iteF (h2 rfl)
end
end K1

namespace K1
open PySem PySem.Spec PyProof.Rows L2
/-! the steps of a reading -/
local macro_rules | `(tactic| walk_at "side") => `(tactic| first | rfl | decide | omega | assumption | exact flat_str _ | exact log_small (by omega) (by omega) | exact szl (by first | omega | assumption | (simp only [app_len, one_len]; omega)) | exact ⟨by decide, by decide, by decide⟩ | exact .inl ⟨Int.lt_of_lt_of_le (by decide : (-(2 ^ 64) : Int) < 0) (Int.fmod_nonneg_of_pos _ (by decide)), Int.lt_trans (Int.fmod_lt_of_pos _ (by decide)) (by decide)⟩ | exact .inr ⟨by decide, by decide⟩ | exact .inl ⟨by decide, by decide⟩ | (refine .inl ⟨?_, ?_⟩ <;> omega) | (refine .inr ⟨?_, ?_⟩ <;> omega))
local macro_rules | `(tactic| walk_at "at1") => `(tactic| first | assumption | exact upd_same | exact .inl (.inl upd_same) | exact .inl (.inl (by assumption)))
local macro_rules | `(tactic| walk_at "rd1") => `(tactic| first
  | refine ⟨_, rfl, ?_⟩
  | refine .inl ⟨_, rfl, ?_⟩
  | refine .inr ⟨_, rfl, ?_⟩
  | refine ⟨_, _, rfl, rfl, ?_⟩
  | refine ⟨_, _, rfl, ?_⟩
  | refine And.intro (by walk_at "side") ?_
  | refine ⟨_, _, _, _, rfl, rfl, .inl (.inl upd_same), rfl, ?_⟩
  | refine ⟨_, _, _, _, rfl, rfl, upd_same, rfl, ?_⟩
  | refine ⟨_, _, rfl, .inl (.inl (.inl upd_same)), ?_⟩
  | (refine' ⟨_, _, _, _, rfl, rfl, ?h, ?ca, ?k⟩; (case h => walk_at "at1"); (case ca => rfl))
  | (refine' ⟨_, _, rfl, .inl ?h, ?k⟩; (case h => walk_at "at1"))
  | refine ⟨_, _, _, rfl, ?_⟩
  | refine ⟨_, (by assumption : Sto _ _ _), ?_⟩
  | refine ⟨_, Sto.new (by assumption) (by assumption), ?_⟩
  | refine ⟨_, _, _, _, true, rfl, .ty _, .base (.str _), kit_ty (by decide +kernel), ?_⟩
  | refine ⟨_, _, _, _, false, rfl, .ty _, .base (.str _), kit_ty (by decide +kernel), ?_⟩
  | refine ⟨_, _, _, _, true, rfl, .ty _, .base (.int _), kit_ty (by decide +kernel), ?_⟩
  | refine ⟨_, _, _, _, false, rfl, .ty _, .base (.int _), kit_ty (by decide +kernel), ?_⟩
  | refine ⟨_, _, _, _, true, rfl, .ty _, .base (.lst (by assumption)), kit_ty (by decide +kernel), ?_⟩
  | refine ⟨_, _, _, _, false, rfl, .ty _, .base (.lst (by assumption)), kit_ty (by decide +kernel), ?_⟩
  | fail)
local macro_rules | `(tactic| walk_at "rd") => `(tactic| repeat walk_at "rd1")

section
variable {P : Program} {w : World} {K : PySem.W.Frag} {mg : Str → Option Value} {base : Heap}
/-! ### _law_mixed -/
abbrev s__law_mixed : Stmt := topS 6
abbrev N__law_mixed : List Str := ["state", "turn", "many", "number", "k", "first", "second", "third"]
theorem sc__law_mixed : FnScope N__law_mixed ["state", "turn", "many"] (defScope s__law_mixed) := ⟨rfl, rfl, rfl, by decide +kernel, rfl, by decide +kernel, by decide +kernel⟩
def sp__law_mixed (_ : PySem.W.Frag) : Sp := fun vs H Q _ => ∃ st tn many : Int, vs = [.int st, .int tn, .int many] ∧ ∀ r : Int, 0 ≤ r → r < max 1 many → Q (.int r) H
theorem fm_lo {a b : Int} (h : 0 < b) : 0 ≤ a.fmod b := Int.fmod_nonneg_of_pos a h
theorem fm_hi {a b : Int} (h : 0 < b) : a.fmod b < b := Int.fmod_lt_of_pos a h
theorem ok__law_mixed {f__law_mixed : Addr} {fd__law_mixed : FuncData} (T : Tb mg) (D__law_mixed : Df K mg "_law_mixed" s__law_mixed ["state", "turn", "many"] f__law_mixed fd__law_mixed)  : FnOk P w K mg base CX0 1 f__law_mixed fd__law_mixed ["state", "turn", "many"] (sp__law_mixed K) := by
  refine D__law_mixed.F.ok sc__law_mixed (fun vs H Q E h => ?_) (fun cdv A outer s H vs Q E hr h => ?_)
  · obtain ⟨st, tn, many, rfl, _⟩ := h
    rfl
  · obtain ⟨st, tn, many, rfl, q⟩ := h
    refine ⟨_, (pss_cons (ps_set (i := 3) sc__law_mixed.nd rfl (.inl rfl) pe_int)
  (pss_cons (ps_for PassesOwn.never rfl (pi_range1 (by rfl) T.m_range (pa_cons (pe_op op_add pe_int (pe_op op_mul pe_int (pe_callTy call_int1 (by rfl) T.m_int (by decide +kernel) (pa_cons (pe_cmpR op_gt (pv 2) (pe_op op_pow pe_int pe_int) (nomark _)) pa_nil)))) pa_nil)) (pg_name (i := 4) sc__law_mixed.nd rfl (.inl rfl))
   (pss_cons (ps_set (i := 5) sc__law_mixed.nd rfl (.inl rfl) (pe_op op_modN (pe_callTy call_int1 (by rfl) T.m_int (by decide +kernel) (pa_cons (pe_op op_add (pe_op op_add (pe_op op_add (pe_op op_mul (pv 0) pe_int) (pe_op op_mul (pv 1) pe_int)) (pe_op op_mul (pv 4) pe_int)) pe_int) pa_nil)) pe_int))
  (pss_cons (ps_set (i := 6) sc__law_mixed.nd rfl (.inl rfl) (pe_op op_modN (pe_callTy call_int1 (by rfl) T.m_int (by decide +kernel) (pa_cons (pe_op op_add (pe_op op_add (pe_op op_mul (pv 5) (pv 5)) (pe_op op_mul (pv 1) pe_int)) pe_int) pa_nil)) pe_int))
  (pss_cons (ps_set (i := 7) sc__law_mixed.nd rfl (.inl rfl) (pe_op op_modN (pe_callTy call_int1 (by rfl) T.m_int (by decide +kernel) (pa_cons (pe_op op_add (pe_op op_mul (pv 6) (pe_op op_add (pv 6) pe_int)) (pv 5)) pa_nil)) pe_int))
  (pss_one (ps_set (i := 3) sc__law_mixed.nd rfl (.inl rfl) (pe_op op_add (pe_op op_mul (pv 3) pe_int) (pv 7))))))))
  (pss_one (ps_ret (pe_op op_modN (pe_callTy call_int1 (by rfl) T.m_int (by decide +kernel) (pa_cons (pv 3) pa_nil)) (pe_callB (call_max2 rfl) (by rfl) T.m_max (by decide +kernel) (pa_cons pe_int (pa_cons (pv 2) pa_nil)))))))), ?_⟩
    refine ⟨_, rfl, _, _, rfl, rfl, ⟨by decide, by decide, by decide⟩, _, _, rfl, rfl, .inr ⟨_, rfl, ?_⟩⟩
    refine ⟨_, _, rfl, rfl, .inl ⟨by decide, by decide⟩, _, _, rfl, rfl, _, rfl, ?_, ?_, ?_⟩
    · split <;> decide
    · split <;> decide
    refine for_range (lo := 0) (fun i σ H' => H' = H ∧ ∃ (n : Int) (x4 x5 x6 x7 : Option V), σ = [some (.int st), some (.int tn), some (.int many), some (.int n), x4, x5, x6, x7]) ⟨rfl, 0, none, none, none, none, rfl⟩ ?_ ?_
    · rintro i σ H' hi ⟨rfl, n, x4, x5, x6, x7, rfl⟩
      walk_at "rd"
      exact ⟨_, _, _, _, _, rfl⟩
    · rintro σ H' ⟨rfl, n, x4, x5, x6, x7, rfl⟩
      walk_at "rd"
      have e : (if many > 1 then many else 1) = max 1 many := by split <;> omega
      rw [e]
      exact q _ (fm_lo (by omega)) (fm_hi (by omega))
end
end K1

namespace K1
open PySem PySem.Spec PyProof.Rows L2
/-! the steps of a reading -/
local macro_rules | `(tactic| walk_at "side") => `(tactic| first | rfl | decide | omega | assumption | exact flat_str _ | exact log_small (by omega) (by omega) | exact szl (by first | omega | assumption | (simp only [app_len, one_len]; omega)) | exact ⟨by decide, by decide, by decide⟩ | exact .inl ⟨Int.lt_of_lt_of_le (by decide : (-(2 ^ 64) : Int) < 0) (Int.fmod_nonneg_of_pos _ (by decide)), Int.lt_trans (Int.fmod_lt_of_pos _ (by decide)) (by decide)⟩ | exact .inr ⟨by decide, by decide⟩ | exact .inl ⟨by decide, by decide⟩ | (refine .inl ⟨?_, ?_⟩ <;> omega) | (refine .inr ⟨?_, ?_⟩ <;> omega))
local macro_rules | `(tactic| walk_at "at1") => `(tactic| first | assumption | exact upd_same | exact .inl (.inl upd_same) | exact .inl (.inl (by assumption)))
local macro_rules | `(tactic| walk_at "rd1") => `(tactic| first
  | refine ⟨_, rfl, ?_⟩
  | refine .inl ⟨_, rfl, ?_⟩
  | refine .inr ⟨_, rfl, ?_⟩
  | refine ⟨_, _, rfl, rfl, ?_⟩
  | refine ⟨_, _, rfl, ?_⟩
  | refine And.intro (by walk_at "side") ?_
  | refine ⟨_, _, _, _, rfl, rfl, .inl (.inl upd_same), rfl, ?_⟩
  | refine ⟨_, _, _, _, rfl, rfl, upd_same, rfl, ?_⟩
  | refine ⟨_, _, rfl, .inl (.inl (.inl upd_same)), ?_⟩
  | (refine' ⟨_, _, _, _, rfl, rfl, ?h, ?ca, ?k⟩; (case h => walk_at "at1"); (case ca => rfl))
  | (refine' ⟨_, _, rfl, .inl ?h, ?k⟩; (case h => walk_at "at1"))
  | refine ⟨_, _, _, rfl, ?_⟩
  | refine ⟨_, (by assumption : Sto _ _ _), ?_⟩
  | refine ⟨_, Sto.new (by assumption) (by assumption), ?_⟩
  | refine ⟨_, _, _, _, true, rfl, .ty _, .base (.str _), kit_ty (by decide +kernel), ?_⟩
  | refine ⟨_, _, _, _, false, rfl, .ty _, .base (.str _), kit_ty (by decide +kernel), ?_⟩
  | refine ⟨_, _, _, _, true, rfl, .ty _, .base (.int _), kit_ty (by decide +kernel), ?_⟩
  | refine ⟨_, _, _, _, false, rfl, .ty _, .base (.int _), kit_ty (by decide +kernel), ?_⟩
  | refine ⟨_, _, _, _, true, rfl, .ty _, .base (.lst (by assumption)), kit_ty (by decide +kernel), ?_⟩
  | refine ⟨_, _, _, _, false, rfl, .ty _, .base (.lst (by assumption)), kit_ty (by decide +kernel), ?_⟩
  | fail)
local macro_rules | `(tactic| walk_at "rd") => `(tactic| repeat walk_at "rd1")

section
variable {P : Program} {w : World} {K : PySem.W.Frag} {mg : Str → Option Value} {base : Heap}
/-! ### _law_store -/
abbrev s__law_store : Stmt := topS 7
abbrev N__law_store : List Str := ["script", "state", "cell"]
theorem sc__law_store : FnScope N__law_store ["script"] (defScope s__law_store) := ⟨rfl, rfl, rfl, by decide +kernel, rfl, by decide +kernel, by decide +kernel⟩
def sp__law_store (K : PySem.W.Frag) : Sp := fun vs H Q _ => ∃ (s : Addr) (ns : List Int), vs = [.ref s] ∧ SqL K H s (ns.map V.int) ∧ ns.length ≤ 63 ∧ ∀ a cc H', Same H H' → H a = none → H cc = none → Sto a cc H' → Q (.ref a) H'
theorem map_at {α β : Type} (f : α → β) {l : List α} {i : Nat} {y : β} (h : (l.map f)[i]? = some y) : ∃ x, l[i]? = some x ∧ y = f x := by
  rw [List.getElem?_map] at h
  cases e : l[i]? with
  | none => rw [e] at h; cases h
  | some x => rw [e] at h; exact ⟨x, rfl, (Option.some.inj h).symm⟩
theorem same_upd {H : Hp} {p : Addr} {o : HO} (h : H p = none) : Same H (upd H p o) := fun b x e => by
  rw [upd_ne (ne_of_none e h)]
  exact e
theorem same_app {H H' : Hp} {D : Addr} {o : HO} (e : Same H H') (h : H D = none) : Same H (upd H' D o) := fun b x q => by
  rw [upd_ne (ne_of_none q h)]
  exact e b x q
theorem take_map {α β : Type} (f : α → β) {l : List α} {i : Nat} {x : α} (h : l[i]? = some x) : (l.take (i + 1)).map f = (l.take i).map f ++ [f x] := by
  rw [List.take_add_one, h, List.map_append]
  rfl
theorem ok__law_store {f__law_store : Addr} {fd__law_store : FuncData} {f__law_mixed : Addr} {fd__law_mixed : FuncData} (T : Tb mg) (D__law_store : Df K mg "_law_store" s__law_store ["script"] f__law_store fd__law_store) (D__law_mixed : Df K mg "_law_mixed" s__law_mixed ["state", "turn", "many"] f__law_mixed fd__law_mixed) (G__law_mixed : FnOk P w K mg base CX0 1 f__law_mixed fd__law_mixed ["state", "turn", "many"] (sp__law_mixed K)) : FnOk P w K mg base CX0 2 f__law_store fd__law_store ["script"] (sp__law_store K) := by
  refine D__law_store.F.ok sc__law_store (fun vs H Q E h => ?_) (fun cdv A outer s H vs Q E hr h => ?_)
  · obtain ⟨s, ns, rfl, _⟩ := h
    rfl
  · obtain ⟨s, ns, rfl, hS, hl, q⟩ := h
    refine ⟨_, (pss_cons (ps_set (i := 1) sc__law_store.nd rfl (.inl rfl) pe_int)
  (pss_cons (ps_for PassesOwn.never rfl (pi_list (pv 0)) (pg_name (i := 2) sc__law_store.nd rfl (.inl rfl))
   (pss_one (ps_set (i := 1) sc__law_store.nd rfl (.inl rfl) (pe_call G__law_mixed (hr.mono (by decide)) (by rfl) D__law_mixed.g D__law_mixed.F.kp D__law_mixed.b .nil pass0 (pa_cons (pe_op op_add (pv 1) (pe_op op_modN (pe_callTy call_int1 (by rfl) T.m_int (by decide +kernel) (pa_cons (pv 2) pa_nil)) pe_int)) (pa_cons pe_int (pa_cons pe_int pa_nil)))))))
  (pss_one (ps_ret (pe_lst (pa_cons (pe_lc (own := [("cell", 2)]) (g := gName 2) (tt := tYes) rfl sc__law_store.nd (pi_list (pv 0)) (blkOk_by (N := N__law_store) (sc := defScope s__law_store) (by decide +kernel))
    (fun _ _ _ _ _ => (pg_name (i := 2) sc__law_store.nd rfl (Or.inl rfl))) (fun _ _ _ _ _ => pts_nil) (fun _ _ _ _ _ => (pe_callTy call_int1 (by rfl) T.m_int (by decide +kernel) (pa_cons (pv 2) pa_nil)))) (pa_cons pe_int (pa_cons (pv 1) (pa_cons pe_int (pa_cons pe_int (pa_cons pe_int pa_nil))))))))))), ?_⟩
    refine ⟨.ref s, rfl, s, rfl, ⟨_, hS⟩, ?_⟩
    refine for_list (K := K) (xs := ns.map V.int) (fun i σ H' => H' = H ∧ ∃ (n : Int) (x : Option V), σ = [some (.ref s), some (.int n), x]) ⟨rfl, _, _, rfl⟩ (fun i σ H' _ h => by rw [h.1]; exact hS) ?_ ?_
    · rintro i x σ H' hx ⟨rfl, n, x2, rfl⟩
      obtain ⟨v, hv, rfl⟩ := map_at _ hx
      walk_at "rd"
      intro r h0 h1
      exact ⟨rfl, _, _, rfl⟩
    · rintro σ H' ⟨rfl, n, x2, rfl⟩
      refine ⟨.ref s, rfl, s, rfl, ⟨_, hS⟩, fun D hD => lc_list (K := K) (a := s) (xs := ns.map V.int) (fun i H2 => Same H' H2 ∧ H2 D = some (.lst ((ns.take i).map V.int)))
        ⟨same_upd hD, upd_same⟩ (fun i H2 _ h => h.1.seq hS) ?_ ?_⟩
      · rintro i x H2 hx ⟨sm, hd⟩
        obtain ⟨v, hv, rfl⟩ := map_at _ hx
        refine ⟨rfl, ?_⟩
        walk_at "rd"
        have h63 : ((ns.take i).map V.int).length < sizeLine := by
          rw [List.length_map, List.length_take]
          exact Nat.lt_of_le_of_lt (Nat.min_le_right _ _) (small1000 (by omega))
        refine ⟨_, hd, h63, same_app sm hD, ?_⟩
        rw [upd_same, take_map _ hv]
      · rintro H2 ⟨sm, hd⟩
        rw [List.length_map, List.take_length] at hd
        walk_at "rd"
        refine ⟨by show 6 ≤ sizeLine; decide, fun p hp => ?_⟩
        exact q p D _ (fun b o e => same_upd hp b o (sm b o e)) (sm.free hp) hD ⟨0, n, 0, 0, 0, upd_same, ne_of_none hd hp, Int.le_refl _, ns, by rw [upd_ne (ne_of_none hd hp)]; exact hd⟩
/-! ### _law_advance -/
abbrev s__law_advance : Stmt := topS 8
abbrev N__law_advance : List Str := ["store", "cells", "place", "cell"]
theorem sc__law_advance : FnScope N__law_advance ["store"] (defScope s__law_advance) := ⟨rfl, rfl, rfl, by decide +kernel, rfl, by decide +kernel, by decide +kernel⟩
def sp__law_advance (_ : PySem.W.Frag) : Sp := fun vs H Q _ => ∃ a : Addr, vs = [.ref a] ∧ ∃ cc, Sto a cc H ∧ ∀ H', Bt a H H' → Sto a cc H' → Q .non H'
theorem bt_at {a : Addr} {H H1 : Hp} {o : HO} (h : Bt a H H1) : Bt a H (upd H1 a o) := h.trans Bt.at
theorem sto_end {a cc : Addr} {H H' : Hp} {p st ct hd lf : Int} {ns : List Int} (hne : cc ≠ a) (hp : 0 ≤ p) (hc : H cc = some (.lst (ns.map V.int))) (b : Bt a H H') (e : H' a = some (stO cc p st ct hd lf)) : Sto a cc H' :=
  ⟨p, st, ct, hd, lf, e, hne, hp, ns, b _ _ hne hc⟩
theorem ok__law_advance {f__law_advance : Addr} {fd__law_advance : FuncData} {f__law_mixed : Addr} {fd__law_mixed : FuncData} (T : Tb mg) (D__law_advance : Df K mg "_law_advance" s__law_advance ["store"] f__law_advance fd__law_advance) (D__law_mixed : Df K mg "_law_mixed" s__law_mixed ["state", "turn", "many"] f__law_mixed fd__law_mixed) (G__law_mixed : FnOk P w K mg base CX0 1 f__law_mixed fd__law_mixed ["state", "turn", "many"] (sp__law_mixed K)) : FnOk P w K mg base CX0 2 f__law_advance fd__law_advance ["store"] (sp__law_advance K) := by
  refine D__law_advance.F.ok sc__law_advance (fun vs H Q E h => ?_) (fun cdv A outer s H vs Q E hr h => ?_)
  · obtain ⟨a, rfl, _⟩ := h
    rfl
  · obtain ⟨a, rfl, cc, ⟨p, st, ct, hd, lf, hA, hne, hp, ns, hc⟩, q⟩ := h
    refine ⟨_, (pss_cons (ps_set (i := 1) sc__law_advance.nd rfl (.inl rfl) (pe_ix ix_list (pv 0) pe_int (fun _ _ => rfl)))
  (pss_cons (ps_set (i := 2) sc__law_advance.nd rfl (.inl rfl) (pe_ix ix_list (pv 0) pe_int (fun _ _ => rfl)))
  (pss_one (ps_if (pt_cmpR op_lt (pv 2) (pe_callB call_len_seq (by rfl) T.m_len (by decide +kernel) (pa_cons (pv 1) pa_nil)) (nomark _))
   (pss_cons (ps_set (i := 3) sc__law_advance.nd rfl (.inl rfl) (pe_ix ix_list (pv 1) (pv 2) (fun _ _ => rfl)))
  (pss_cons (ps_asg (pe_op op_add (pv 2) pe_int) (pg_sub (pv 0) pe_int set_list))
  (pss_cons (ps_asg (pe_call G__law_mixed (hr.mono (by decide)) (by rfl) D__law_mixed.g D__law_mixed.F.kp D__law_mixed.b .nil pass0 (pa_cons (pe_op op_add (pe_ix ix_list (pv 0) pe_int (fun _ _ => rfl)) (pe_op op_modN (pe_callTy call_int1 (by rfl) T.m_int (by decide +kernel) (pa_cons (pv 3) pa_nil)) pe_int)) (pa_cons (pe_op op_add (pv 2) pe_int) (pa_cons pe_int pa_nil)))) (pg_sub (pv 0) pe_int set_list))
  (pss_cons (ps_asg pe_int (pg_sub (pv 0) pe_int set_list))
  (pss_cons (ps_asg pe_int (pg_sub (pv 0) pe_int set_list))
  (pss_one (ps_if (pt_cmpR op_ge (pv 3) (pe_op op_pow pe_int pe_int) (nomark _))
   (pss_cons (ps_asg (pv 3) (pg_sub (pv 0) pe_int set_list))
  (pss_one (ps_asg pe_int (pg_sub (pv 0) pe_int set_list))))
   pss_nil)))))))
   pss_nil)))), ?_⟩
    unfold stO at hA
    walk_at "rd"
    refine if_d (fun lt => ?_) (fun _ => ?_)
    · rw [List.length_map] at lt
      obtain ⟨x, hx⟩ : ∃ x, ns[p.toNat]? = some x := ⟨ns[p.toNat]'(by omega), List.getElem?_eq_getElem _⟩
      have hat : atI (ns.map V.int) p = some (.int x) := by
        have e : p = ((p.toNat : Nat) : Int) := by omega
        rw [e]
        exact atI_nat (by rw [List.getElem?_map, hx]; rfl)
      refine ⟨_, rfl, _, rfl, cc, _, p, _, rfl, rfl, .inl (.inl hc), hat, ?_⟩
      walk_at "rd"
      intro r h0 h1
      walk_at "rd"
      refine if_d (fun _ => ?_) (fun _ => ?_)
      · walk_at "rd"
        exact q _ (bt_at (bt_at (bt_at (bt_at (bt_at Bt.at))))) (sto_end hne (by omega) hc (bt_at (bt_at (bt_at (bt_at (bt_at Bt.at))))) upd_same)
      · walk_at "rd"
        exact q _ (bt_at (bt_at (bt_at Bt.at))) (sto_end hne (by omega) hc (bt_at (bt_at (bt_at Bt.at))) upd_same)
    · walk_at "rd"
      exact q H (Bt.refl a H) ⟨p, st, ct, hd, lf, hA, hne, hp, ns, hc⟩
/-! ### _law_take -/
abbrev s__law_take : Stmt := topS 9
abbrev N__law_take : List Str := ["store", "many", "size", "number"]
theorem sc__law_take : FnScope N__law_take ["store", "many"] (defScope s__law_take) := ⟨rfl, rfl, rfl, by decide +kernel, rfl, by decide +kernel, by decide +kernel⟩
def sp__law_take (_ : PySem.W.Frag) : Sp := fun vs H Q _ => ∃ (a : Addr) (many : Int), vs = [.ref a, .int many] ∧ many < 2 ^ 250 ∧ ∃ cc, Sto a cc H ∧ ∀ H' (r : Int), Bt a H H' → Sto a cc H' → 0 ≤ r → r < max 1 many → Q (.int r) H'
theorem ok__law_take {f__law_take : Addr} {fd__law_take : FuncData} {f__law_advance : Addr} {fd__law_advance : FuncData} {f__law_mixed : Addr} {fd__law_mixed : FuncData} (T : Tb mg) (D__law_take : Df K mg "_law_take" s__law_take ["store", "many"] f__law_take fd__law_take) (D__law_advance : Df K mg "_law_advance" s__law_advance ["store"] f__law_advance fd__law_advance) (D__law_mixed : Df K mg "_law_mixed" s__law_mixed ["state", "turn", "many"] f__law_mixed fd__law_mixed) (G__law_advance : FnOk P w K mg base CX0 2 f__law_advance fd__law_advance ["store"] (sp__law_advance K)) (G__law_mixed : FnOk P w K mg base CX0 1 f__law_mixed fd__law_mixed ["state", "turn", "many"] (sp__law_mixed K)) : FnOk P w K mg base CX0 3 f__law_take fd__law_take ["store", "many"] (sp__law_take K) := by
  refine D__law_take.F.ok sc__law_take (fun vs H Q E h => ?_) (fun cdv A outer s H vs Q E hr h => ?_)
  · obtain ⟨a, many, rfl, _⟩ := h
    rfl
  · obtain ⟨a, many, rfl, hm, cc, hs, q⟩ := h
    refine ⟨_, (pss_cons (ps_set (i := 2) sc__law_take.nd rfl (.inl rfl) (pe_callB (call_max2 rfl) (by rfl) T.m_max (by decide +kernel) (pa_cons pe_int (pa_cons (pv 1) pa_nil))))
  (Evl.pss_cut (ps_if (PW.pt (pw_or (pt_cmpR op_le (pe_ix ix_list (pv 0) pe_int (fun _ _ => rfl)) pe_int (nomark _)) (pw_or1 (pt_cmpR op_le (pe_ix ix_list (pv 0) pe_int (fun _ _ => rfl)) pe_int (nomark _)))))
   (pss_one (ps_expr (pe_call G__law_advance (hr.mono (by decide)) (by rfl) D__law_advance.g D__law_advance.F.kp D__law_advance.b .nil pass0 (pa_cons (pv 0) pa_nil))))
   pss_nil)
  (pss_cons (ps_if (PW.pt (pw_and (pt_cmpR op_gt (pe_ix ix_list (pv 0) pe_int (fun _ _ => rfl)) pe_int (nomark _)) (pw_and1 (pt_cmpR op_gt (pe_ix ix_list (pv 0) pe_int (fun _ _ => rfl)) pe_int (nomark _)))))
   (pss_cons (ps_set (i := 3) sc__law_take.nd rfl (.inl rfl) (pe_ix ix_list (pv 0) pe_int (fun _ _ => rfl)))
  (pss_cons (ps_asg (pe_op op_fdivW (pv 3) (pv 2)) (pg_sub (pv 0) pe_int set_list))
  (pss_cons (ps_asg (pe_op op_sub (pe_ix ix_list (pv 0) pe_int (fun _ _ => rfl)) pe_int) (pg_sub (pv 0) pe_int set_list))
  (pss_one (ps_ret (pe_op op_modN (pe_callTy call_int1 (by rfl) T.m_int (by decide +kernel) (pa_cons (pv 3) pa_nil)) (pv 2)))))))
   pss_nil)
  (pss_cons (ps_asg (pe_op op_add (pe_ix ix_list (pv 0) pe_int (fun _ _ => rfl)) pe_int) (pg_sub (pv 0) pe_int set_list))
  (pss_one (ps_ret (pe_call G__law_mixed (hr.mono (by decide)) (by rfl) D__law_mixed.g D__law_mixed.F.kp D__law_mixed.b .nil pass0 (pa_cons (pe_ix ix_list (pv 0) pe_int (fun _ _ => rfl)) (pa_cons (pe_ix ix_list (pv 0) pe_int (fun _ _ => rfl)) (pa_cons (pv 2) pa_nil)))))))))), ?_⟩
    have e1 : (if many > 1 then many else 1) = max 1 many := by split <;> omega
    walk_at "rd"
    rw [e1]
    have h1 : 1 ≤ max 1 many := by omega
    have h2 : max 1 many < 2 ^ 250 := by omega
    clear e1 hm
    generalize max 1 many = size at h1 h2 q ⊢
    obtain ⟨p, st, ct, hd, lf, hA, hne, hp, ns, hc⟩ := hs
    unfold stO at hA
    refine ⟨fun σ' H' => σ' = [some (.ref a), some (.int many), some (.int size), none] ∧ Bt a H H' ∧ Sto a cc H', ?_, ?_⟩
    · have hs : Sto a cc H := ⟨p, st, ct, hd, lf, hA, hne, hp, ns, hc⟩
      walk_at "rd"
      refine if_d (fun _ => ?_) (fun _ => ?_)
      · walk_at "rd"
        exact fun H' b s' => ⟨rfl, b, s'⟩
      · walk_at "rd"
        refine if_d (fun _ => ?_) (fun _ => ?_)
        · walk_at "rd"
          exact fun H' b s' => ⟨rfl, b, s'⟩
        · exact ⟨rfl, Bt.refl a H, hs⟩
    · rintro σ' H1 ⟨rfl, b, p, st, ct, hd, lf, hA, hne, hp, ns, hc⟩
      unfold stO at hA
      have out : ∀ (H' : Hp) (st' ct' hd' lf' : Int) (r : Int), Bt a H1 H' → H' a = some (stO cc p st' ct' hd' lf') → 0 ≤ r → r < size → Q (.int r) H' := fun H' st' ct' hd' lf' r b' e r0 r1 =>
        q H' r (b.trans b') (sto_end hne hp hc b' e) r0 r1
      walk_at "rd"
      refine if_d (fun c4 => ?_) (fun _ => ?_)
      · walk_at "rd"
        refine if_d (fun _ => ?_) (fun _ => ?_)
        · walk_at "rd"
          refine ⟨wide_div (by omega) (b := 250) (by omega) (by decide) (by decide), ?_⟩
          walk_at "rd"
          exact out _ _ _ _ _ _ (bt_at Bt.at) upd_same (fm_lo (by omega)) (fm_hi (by omega))
        · walk_at "rd"
          intro r r0 r1
          exact out _ _ _ _ _ r Bt.at upd_same r0 (by omega)
      · walk_at "rd"
        intro r r0 r1
        exact out _ _ _ _ _ r Bt.at upd_same r0 (by omega)
end
end K1

namespace UL
open PySem PySem.Spec PyProof.Rows L2

/-- what a value is, without addresses -/
inductive U where
  | non | bl (b : Bool) | int (i : Int) | str (x : Str)
  | lst (xs : List U) | tup (xs : List U)
  | dct (ks : List (L2.Key × U))
  | dcn (ks : List (Option L2.Key)) (us : List U)
  | ins (c : Str) (fs : List (Str × U))
  | sto
  | ty (n : String) | cls (c : Str)
  | exc (c : Str) (fs : List (Str × U))
/-- the written part, the module's names, the law's store -/
structure Wd where
  K : PySem.W.Frag
  mg : Str → Option Value
  st : Option (Addr × Addr)
  hot : Option (Addr × Addr × Addr)
  dn : Addr → List (Option L2.Key × V) → HO
/-- a dict whose keys are None, ints and texts -/
def DN (P : Program) (w : World) (a : Addr) (kvs : List (Option L2.Key × V)) : HO := .ext fun h => kvs.length ≤ sizeLine ∧ (a == sysModules) = false ∧ ∃ vs, KV kvs vs ∧ h.DictOf (noneKind P w) a vs

mutual
inductive rep (W : Wd) (F : Hp) : V → U → Prop
  | non : rep W F .non .non
  | bl (b : Bool) : rep W F (.bl b) (.bl b)
  | int (i : Int) : rep W F (.int i) (.int i)
  | str (z : Str) : rep W F (.str z) (.str z)
  | lst {p : Addr} {vs : List V} {us : List U} : F p = some (.lst vs) → reps W F vs us → rep W F (.ref p) (.lst us)
  | tup {p : Addr} {vs : List V} {us : List U} : SqT W.K F p vs → reps W F vs us → rep W F (.ref p) (.tup us)
  | dct {p : Addr} {kvs : List (L2.Key × V)} {kus : List (L2.Key × U)} : F p = some (.dK kvs) → repk W F kvs kus → rep W F (.ref p) (.dct kus)
  | dcn {p : Addr} {o : Obj} {ks : List (Option L2.Key)} {vs : List V} {us : List U} : F p = some (.frz o (W.dn p (ks.zip vs))) → ks.length = us.length → reps W F vs us → rep W F (.ref p) (.dcn ks us)
  | ins {p C dx : Addr} {c : Str} {fvs : List (Str × V)} {fus : List (Str × U)} : W.mg c = some (.ref C) → F p = some (.ins C dx fvs) → repf W F fvs fus → rep W F (.ref p) (.ins c fus)
  | sto {a cc : Addr} : W.st = some (a, cc) → rep W F (.ref a) .sto
  | ty (n : String) : rep W F (.ty n) (.ty n)
  | cls {C : Addr} {c : Str} : W.mg c = some (.ref C) → rep W F (.ref C) (.cls c)
  | exc {a C d : Addr} {c : Str} {fvs : List (Str × V)} {fus : List (Str × U)} : W.hot = some (a, C, d) → W.mg c = some (.ref C) → F d = some (.xd fvs) → repf W F fvs fus → rep W F (.ref a) (.exc c fus)
inductive reps (W : Wd) (F : Hp) : List V → List U → Prop
  | nil : reps W F [] []
  | cons {v : V} {u : U} {vs : List V} {us : List U} : rep W F v u → reps W F vs us → reps W F (v :: vs) (u :: us)
inductive repk (W : Wd) (F : Hp) : List (L2.Key × V) → List (L2.Key × U) → Prop
  | nil : repk W F [] []
  | cons {k : L2.Key} {v : V} {u : U} {vs : List (L2.Key × V)} {us : List (L2.Key × U)} : rep W F v u → repk W F vs us → repk W F ((k, v) :: vs) ((k, u) :: us)
inductive repf (W : Wd) (F : Hp) : List (Str × V) → List (Str × U) → Prop
  | nil : repf W F [] []
  | cons {k : Str} {v : V} {u : U} {vs : List (Str × V)} {us : List (Str × U)} : rep W F v u → repf W F vs us → repf W F ((k, v) :: vs) ((k, u) :: us)
end

section
variable {W : Wd} {F F' : Hp}
theorem Same.seqT {K : PySem.W.Frag} {H H' : Hp} {a : Addr} {xs : List V} (e : Same H H') (h : SqT K H a xs) : SqT K H' a xs := by
  rcases h with (h | ⟨o, h⟩) | h
  · exact .inl (.inl (e _ _ h))
  · exact .inl (.inr ⟨o, e _ _ h⟩)
  · exact .inr h
mutual
theorem rep.mono (s : Same F F') : ∀ {v : V} {u : U}, rep W F v u → rep W F' v u
  | _, _, .non => .non
  | _, _, .bl b => .bl b
  | _, _, .int i => .int i
  | _, _, .str z => .str z
  | _, _, .lst h r => .lst (s _ _ h) (reps.mono s r)
  | _, _, .tup h r => .tup (Same.seqT s h) (reps.mono s r)
  | _, _, .dct h r => .dct (s _ _ h) (repk.mono s r)
  | _, _, .dcn h l r => .dcn (s _ _ h) l (reps.mono s r)
  | _, _, .ins m h r => .ins m (s _ _ h) (repf.mono s r)
  | _, _, .sto h => .sto h
  | _, _, .ty n => .ty n
  | _, _, .cls h => .cls h
  | _, _, .exc h m x r => .exc h m (s _ _ x) (repf.mono s r)
theorem reps.mono (s : Same F F') : ∀ {v : List V} {u : List U}, reps W F v u → reps W F' v u
  | _, _, .nil => .nil
  | _, _, .cons h r => .cons (rep.mono s h) (reps.mono s r)
theorem repk.mono (s : Same F F') : ∀ {v : List (L2.Key × V)} {u : List (L2.Key × U)}, repk W F v u → repk W F' v u
  | _, _, .nil => .nil
  | _, _, .cons h r => .cons (rep.mono s h) (repk.mono s r)
theorem repf.mono (s : Same F F') : ∀ {v : List (Str × V)} {u : List (Str × U)}, repf W F v u → repf W F' v u
  | _, _, .nil => .nil
  | _, _, .cons h r => .cons (rep.mono s h) (repf.mono s r)
end
/-- while an exception is handled -/
abbrev Wd.hotW (W : Wd) (h : Option (Addr × Addr × Addr)) : Wd := { W with hot := h }
mutual
theorem rep.heat {h : Option (Addr × Addr × Addr)} (n : W.hot = none) : ∀ {v : V} {u : U}, rep W F v u → rep (W.hotW h) F v u
  | _, _, .non => .non
  | _, _, .bl b => .bl b
  | _, _, .int i => .int i
  | _, _, .str z => .str z
  | _, _, .lst x r => .lst x (reps.heat n r)
  | _, _, .tup x r => .tup x (reps.heat n r)
  | _, _, .dct x r => .dct x (repk.heat n r)
  | _, _, .dcn x l r => .dcn x l (reps.heat n r)
  | _, _, .ins m x r => .ins m x (repf.heat n r)
  | _, _, .sto h => .sto h
  | _, _, .ty n => .ty n
  | _, _, .cls h => .cls h
  | _, _, .exc q _ _ _ => by rw [n] at q; cases q
theorem reps.heat {h : Option (Addr × Addr × Addr)} (n : W.hot = none) : ∀ {v : List V} {u : List U}, reps W F v u → reps (W.hotW h) F v u
  | _, _, .nil => .nil
  | _, _, .cons x r => .cons (rep.heat n x) (reps.heat n r)
theorem repk.heat {h : Option (Addr × Addr × Addr)} (n : W.hot = none) : ∀ {v : List (L2.Key × V)} {u : List (L2.Key × U)}, repk W F v u → repk (W.hotW h) F v u
  | _, _, .nil => .nil
  | _, _, .cons x r => .cons (rep.heat n x) (repk.heat n r)
theorem repf.heat {h : Option (Addr × Addr × Addr)} (n : W.hot = none) : ∀ {v : List (Str × V)} {u : List (Str × U)}, repf W F v u → repf (W.hotW h) F v u
  | _, _, .nil => .nil
  | _, _, .cons x r => .cons (rep.heat n x) (repf.heat n r)
end
/-! no exception in it -/
mutual
def noX : U → Bool
  | .exc _ _ => false
  | .lst xs => noXs xs
  | .tup xs => noXs xs
  | .dct ks => noXk ks
  | .dcn _ us => noXs us
  | .ins _ fs => noXf fs
  | _ => true
def noXs : List U → Bool
  | [] => true
  | u :: us => noX u && noXs us
def noXk : List (L2.Key × U) → Bool
  | [] => true
  | u :: us => noX u.2 && noXk us
def noXf : List (Str × U) → Bool
  | [] => true
  | u :: us => noX u.2 && noXf us
end
mutual
theorem rep.cool : ∀ {v : V} {u : U}, rep W F v u → noX u = true → rep (W.hotW none) F v u
  | _, _, .non, _ => .non
  | _, _, .bl b, _ => .bl b
  | _, _, .int i, _ => .int i
  | _, _, .str z, _ => .str z
  | _, _, .lst x r, e => .lst x (reps.cool r (by unfold noX at e; exact e))
  | _, _, .tup x r, e => .tup x (reps.cool r (by unfold noX at e; exact e))
  | _, _, .dct x r, e => .dct x (repk.cool r (by unfold noX at e; exact e))
  | _, _, .dcn x l r, e => .dcn x l (reps.cool r (by unfold noX at e; exact e))
  | _, _, .ins m x r, e => .ins m x (repf.cool r (by unfold noX at e; exact e))
  | _, _, .sto h, _ => .sto h
  | _, _, .ty n, _ => .ty n
  | _, _, .cls h, _ => .cls h
  | _, _, .exc q _ _ _, e => by unfold noX at e; cases e
theorem reps.cool : ∀ {v : List V} {u : List U}, reps W F v u → noXs u = true → reps (W.hotW none) F v u
  | _, _, .nil, _ => .nil
  | _, _, .cons x r, e => by
    unfold noXs at e
    rw [Bool.and_eq_true] at e
    exact .cons (rep.cool x e.1) (reps.cool r e.2)
theorem repk.cool : ∀ {v : List (L2.Key × V)} {u : List (L2.Key × U)}, repk W F v u → noXk u = true → repk (W.hotW none) F v u
  | _, _, .nil, _ => .nil
  | _, _, .cons x r, e => by
    unfold noXk at e
    rw [Bool.and_eq_true] at e
    exact .cons (rep.cool x e.1) (repk.cool r e.2)
theorem repf.cool : ∀ {v : List (Str × V)} {u : List (Str × U)}, repf W F v u → noXf u = true → repf (W.hotW none) F v u
  | _, _, .nil, _ => .nil
  | _, _, .cons x r, e => by
    unfold noXf at e
    rw [Bool.and_eq_true] at e
    exact .cons (rep.cool x e.1) (repf.cool r e.2)
end
theorem reps.length {vs : List V} {us : List U} (h : reps W F vs us) : vs.length = us.length := by
  induction vs generalizing us with
  | nil => cases h; rfl
  | cons v vs ih => cases h with | cons _ h => simp [ih h]
theorem reps.append {vs ws : List V} {us zs : List U} (h : reps W F vs us) (k : reps W F ws zs) : reps W F (vs ++ ws) (us ++ zs) := by
  induction vs generalizing us with
  | nil => cases h; exact k
  | cons v vs ih => cases h with | cons a h => exact .cons a (ih h)
theorem reps.get : ∀ {vs : List V} {us : List U} {i : Nat} {v : V}, reps W F vs us → vs[i]? = some v → ∃ u, us[i]? = some u ∧ rep W F v u
  | _, _, _, _, .nil, e => by simp at e
  | _, _, 0, _, .cons a _, e => by simp at e; subst e; exact ⟨_, rfl, a⟩
  | _, _, i + 1, v, .cons _ h, e => by
    obtain ⟨u, h1, h2⟩ := reps.get (i := i) (v := v) h (by simpa using e)
    exact ⟨u, by simpa using h1, h2⟩
theorem reps.get' : ∀ {vs : List V} {us : List U} {i : Nat} {u : U}, reps W F vs us → us[i]? = some u → ∃ v, vs[i]? = some v ∧ rep W F v u
  | _, _, _, _, .nil, e => by simp at e
  | _, _, 0, _, .cons a _, e => by simp at e; subst e; exact ⟨_, rfl, a⟩
  | _, _, i + 1, v, .cons _ h, e => by
    obtain ⟨u, h1, h2⟩ := reps.get' (i := i) (u := v) h (by simpa using e)
    exact ⟨u, by simpa using h1, h2⟩
theorem reps.drop {vs : List V} {us : List U} (n : Nat) (h : reps W F vs us) : reps W F (vs.drop n) (us.drop n) := by
  induction n generalizing vs us with
  | zero => exact h
  | succ n ih =>
    cases h with
    | nil => exact .nil
    | cons _ h => exact ih h
theorem reps.take {vs : List V} {us : List U} (n : Nat) (h : reps W F vs us) : reps W F (vs.take n) (us.take n) := by
  induction n generalizing vs us with
  | zero => exact .nil
  | succ n ih =>
    cases h with
    | nil => exact .nil
    | cons a h => exact .cons a (ih h)
theorem reps.dropLast {vs : List V} {us : List U} (h : reps W F vs us) : reps W F vs.dropLast us.dropLast := by
  rw [List.dropLast_eq_take, List.dropLast_eq_take, h.length]
  exact h.take _
theorem reps.set {vs : List V} {us : List U} {v : V} {u : U} (h : reps W F vs us) (a : rep W F v u) (i : Nat) : reps W F (vs.set i v) (us.set i u) := by
  induction vs generalizing us i with
  | nil => cases h; exact .nil
  | cons w vs ih =>
    cases h with
    | cons b h =>
      cases i with
      | zero => exact .cons a h
      | succ i => exact .cons b (ih h i)
end

/-! ### pools -/
/-- from (F, H) to (F', H'): all but the store is kept, the pool grows by new things -/
structure Grow (st : Option (Addr × Addr)) (F H F' H' : Hp) : Prop where
  keep : ∀ b o, (∀ a cc, st = some (a, cc) → b ≠ a) → H b = some o → H' b = some o
  pool : Same F F'
  new : ∀ b o, F' b = some o → F b = some o ∨ H b = none
def stO (c : Addr) (p st ct hd lf : Int) : HO := .lst [.ref c, .int p, .int st, .int ct, .int hd, .int lf]
/-- what a def may lean on: the pool F within the heap H; the store beside it -/
structure Pool (W : Wd) (F H : Hp) : Prop where
  sub : Same F H
  sto : ∀ a cc, W.st = some (a, cc) → F a = none ∧ (∃ ns : List Int, F cc = some (.lst (ns.map V.int))) ∧ ∃ p st ct hd lf, 0 ≤ p ∧ H a = some (stO cc p st ct hd lf)
theorem Grow.refl {st : Option (Addr × Addr)} {F H : Hp} : Grow st F H F H := ⟨fun _ _ _ h => h, Same.refl F, fun _ _ h => .inl h⟩
theorem Grow.trans {W : Wd} {F H F1 H1 F2 H2 : Hp} (g : Grow W.st F H F1 H1) (h : Grow W.st F1 H1 F2 H2) (p1 : Pool W F1 H1) : Grow W.st F H F2 H2 where
  keep := fun b o n e => h.keep b o n (g.keep b o n e)
  pool := g.pool.trans h.pool
  new := fun b o e => by
    rcases h.new b o e with e1 | e1
    · exact g.new b o e1
    · right
      cases q : H b with
      | none => rfl
      | some u =>
        cases hs : W.st with
        | none => rw [g.keep b u (fun a cc z => by rw [hs] at z; cases z) q] at e1; cases e1
        | some ac =>
          obtain ⟨a, cc⟩ := ac
          by_cases hb : b = a
          · subst hb
            obtain ⟨_, _, _, _, _, _, _, _, k⟩ := p1.sto b cc hs
            rw [k] at e1; cases e1
          · rw [g.keep b u (fun a' cc' z => by rw [hs] at z; cases z; exact hb) q] at e1; cases e1
theorem Pool.neStore {W : Wd} {F H : Hp} {p : Addr} (P : Pool W F H) (hp : H p = none) : ∀ a cc, W.st = some (a, cc) → p ≠ a := fun a cc e z => by
  obtain ⟨_, _, _, _, _, _, _, _, k⟩ := P.sto a cc e
  rw [← z, hp] at k; cases k
/-- a new thing, into the pool -/
theorem Grow.new1 {W : Wd} {F H : Hp} {p : Addr} {o : HO} (P : Pool W F H) (hp : H p = none) : Grow W.st F H (upd F p o) (upd H p o) where
  keep := fun b u _ e => by rw [upd_ne (ne_of_none e hp)]; exact e
  pool := fun b u e => by rw [upd_ne (ne_of_none (P.sub b u e) hp)]; exact e
  new := fun b u e => by
    by_cases hb : b = p
    · right; rw [hb]; exact hp
    · rw [upd_ne hb] at e; exact .inl e
theorem Pool.new1 {W : Wd} {F H : Hp} {p : Addr} {o : HO} (P : Pool W F H) (hp : H p = none) : Pool W (upd F p o) (upd H p o) where
  sub := fun b u e => by
    by_cases hb : b = p
    · subst hb; rw [upd_same] at e ⊢; exact e
    · rw [upd_ne hb] at e ⊢; exact P.sub b u e
  sto := fun a cc e => by
    obtain ⟨h1, ⟨ns, h2⟩, q, st, ct, hd, lf, h3, h4⟩ := P.sto a cc e
    have na := P.neStore hp a cc e
    have nc : cc ≠ p := ne_of_none (P.sub _ _ h2) hp
    exact ⟨by rw [upd_ne na.symm]; exact h1, ⟨ns, by rw [upd_ne nc]; exact h2⟩, q, st, ct, hd, lf, h3, by rw [upd_ne na.symm]; exact h4⟩
def Ext (W : Wd) (F H F' H' : Hp) : Prop := Grow W.st F H F' H' ∧ Pool W F' H'
theorem Ext.refl {W : Wd} {F H : Hp} (P : Pool W F H) : Ext W F H F H := ⟨.refl, P⟩
theorem Ext.new {W : Wd} {F H : Hp} {p : Addr} {o : HO} (P : Pool W F H) (hp : H p = none) : Ext W F H (upd F p o) (upd H p o) := ⟨.new1 P hp, P.new1 hp⟩
theorem Ext.trans {W : Wd} {F H F1 H1 F2 H2 : Hp} (a : Ext W F H F1 H1) (b : Ext W F1 H1 F2 H2) : Ext W F H F2 H2 := ⟨a.1.trans b.1 a.2, b.2⟩
theorem Ext.same {W : Wd} {F H F1 H1 : Hp} (a : Ext W F H F1 H1) : Same F F1 := a.1.pool

/-! ### things that one slot owns, with what is in them -/
inductive T where
  | fz (u : U) | l (ts : List T) | t (ts : List T) | d (ks : List (L2.Key × T)) | n (ks : List (Option L2.Key)) (us : List U)
mutual
inductive prep (W : Wd) (F H : Hp) : List Addr → V → T → Prop
  | fz {v : V} {u : U} : rep W F v u → prep W F H [] v (.fz u)
  | l {p : Addr} {X : List Addr} {vs : List V} {ts : List T} : H p = some (.lst vs) → preps W F H X vs ts → prep W F H (p :: X) (.ref p) (.l ts)
  | t {p : Addr} {X : List Addr} {vs : List V} {ts : List T} : SqT W.K H p vs → preps W F H X vs ts → prep W F H X (.ref p) (.t ts)
  | d {p : Addr} {X : List Addr} {kvs : List (L2.Key × V)} {kts : List (L2.Key × T)} : H p = some (.dK kvs) → prepk W F H X kvs kts → prep W F H (p :: X) (.ref p) (.d kts)
  | n {p : Addr} {φ : Heap → Prop} {ks : List (Option L2.Key)} {vs : List V} {us : List U} : H p = some (.ext φ) → W.dn p (ks.zip vs) = .ext φ → ks.length = us.length → reps W F vs us → prep W F H [p] (.ref p) (.n ks us)
inductive preps (W : Wd) (F H : Hp) : List Addr → List V → List T → Prop
  | nil : preps W F H [] [] []
  | cons {X Y : List Addr} {v : V} {t : T} {vs : List V} {ts : List T} : prep W F H X v t → preps W F H Y vs ts → preps W F H (X ++ Y) (v :: vs) (t :: ts)
inductive prepk (W : Wd) (F H : Hp) : List Addr → List (L2.Key × V) → List (L2.Key × T) → Prop
  | nil : prepk W F H [] [] []
  | cons {X Y : List Addr} {k : L2.Key} {v : V} {t : T} {vs : List (L2.Key × V)} {ts : List (L2.Key × T)} : prep W F H X v t → prepk W F H Y vs ts → prepk W F H (X ++ Y) ((k, v) :: vs) ((k, t) :: ts)
end
/-- what never changes -/
def Fix (o : HO) : Prop := (∃ xs, o = .tup xs) ∨ ∃ a u, o = .frz a u
section
variable {W : Wd} {F F' H H' : Hp}
theorem fix_seqT {K : PySem.W.Frag} {p : Addr} {vs : List V} (k : ∀ b o, H b = some o → Fix o → H' b = some o) (h : SqT K H p vs) : SqT K H' p vs := by
  rcases h with (h | ⟨o, h⟩) | h
  · exact .inl (.inl (k _ _ h (.inl ⟨_, rfl⟩)))
  · exact .inl (.inr ⟨o, k _ _ h (.inr ⟨_, _, rfl⟩)⟩)
  · exact .inr h
mutual
theorem prep.mono (s : Same F F') (k : ∀ b o, H b = some o → Fix o → H' b = some o) : ∀ {X : List Addr} {v : V} {t : T}, prep W F H X v t → (∀ p ∈ X, ∀ o, H p = some o → H' p = some o) → prep W F' H' X v t
  | _, _, _, .fz r, _ => .fz (r.mono s)
  | _, _, _, .l h r, e => .l (e _ List.mem_cons_self _ h) (preps.mono s k r fun p hp => e p (List.mem_cons_of_mem _ hp))
  | _, _, _, .t h r, e => .t (fix_seqT k h) (preps.mono s k r e)
  | _, _, _, .d h r, e => .d (e _ List.mem_cons_self _ h) (prepk.mono s k r fun p hp => e p (List.mem_cons_of_mem _ hp))
  | _, _, _, .n h q l r, e => .n (e _ List.mem_cons_self _ h) q l (r.mono s)
theorem preps.mono (s : Same F F') (k : ∀ b o, H b = some o → Fix o → H' b = some o) : ∀ {X : List Addr} {v : List V} {t : List T}, preps W F H X v t → (∀ p ∈ X, ∀ o, H p = some o → H' p = some o) → preps W F' H' X v t
  | _, _, _, .nil, _ => .nil
  | _, _, _, .cons h r, e => .cons (prep.mono s k h fun p hp => e p (List.mem_append_left _ hp)) (preps.mono s k r fun p hp => e p (List.mem_append_right _ hp))
theorem prepk.mono (s : Same F F') (k : ∀ b o, H b = some o → Fix o → H' b = some o) : ∀ {X : List Addr} {v : List (L2.Key × V)} {t : List (L2.Key × T)}, prepk W F H X v t → (∀ p ∈ X, ∀ o, H p = some o → H' p = some o) → prepk W F' H' X v t
  | _, _, _, .nil, _ => .nil
  | _, _, _, .cons h r, e => .cons (prep.mono s k h fun p hp => e p (List.mem_append_left _ hp)) (prepk.mono s k r fun p hp => e p (List.mem_append_right _ hp))
end
mutual
theorem prep.heat {h : Option (Addr × Addr × Addr)} (n : W.hot = none) : ∀ {X : List Addr} {v : V} {t : T}, prep W F H X v t → prep (W.hotW h) F H X v t
  | _, _, _, .fz r => .fz (r.heat n)
  | _, _, _, .l h r => .l h (preps.heat n r)
  | _, _, _, .t h r => .t h (preps.heat n r)
  | _, _, _, .d h r => .d h (prepk.heat n r)
  | _, _, _, .n h q l r => .n h q l (r.heat n)
theorem preps.heat {h : Option (Addr × Addr × Addr)} (n : W.hot = none) : ∀ {X : List Addr} {v : List V} {t : List T}, preps W F H X v t → preps (W.hotW h) F H X v t
  | _, _, _, .nil => .nil
  | _, _, _, .cons h r => .cons (prep.heat n h) (preps.heat n r)
theorem prepk.heat {h : Option (Addr × Addr × Addr)} (n : W.hot = none) : ∀ {X : List Addr} {v : List (L2.Key × V)} {t : List (L2.Key × T)}, prepk W F H X v t → prepk (W.hotW h) F H X v t
  | _, _, _, .nil => .nil
  | _, _, _, .cons h r => .cons (prep.heat n h) (prepk.heat n r)
end
/-- its own things are there -/
def Obl (o : HO) : Prop := (∃ xs, o = .lst xs) ∨ (∃ ks, o = .dK ks) ∨ ∃ φ, o = .ext φ
mutual
theorem prep.alive : ∀ {X : List Addr} {v : V} {t : T}, prep W F H X v t → ∀ p ∈ X, ∃ o, H p = some o ∧ Obl o
  | _, _, _, .fz _, p, hp => by simp at hp
  | _, _, _, .l h r, p, hp => by
    rcases List.mem_cons.mp hp with e | hp
    · subst e; exact ⟨_, h, .inl ⟨_, rfl⟩⟩
    · exact preps.alive r p hp
  | _, _, _, .t _ r, p, hp => preps.alive r p hp
  | _, _, _, .d h r, p, hp => by
    rcases List.mem_cons.mp hp with e | hp
    · subst e; exact ⟨_, h, .inr (.inl ⟨_, rfl⟩)⟩
    · exact prepk.alive r p hp
  | _, _, _, .n h _ _ _, p, hp => by
    rw [List.mem_singleton] at hp
    subst hp; exact ⟨_, h, .inr (.inr ⟨_, rfl⟩)⟩
theorem preps.alive : ∀ {X : List Addr} {v : List V} {t : List T}, preps W F H X v t → ∀ p ∈ X, ∃ o, H p = some o ∧ Obl o
  | _, _, _, .nil, p, hp => by simp at hp
  | _, _, _, .cons h r, p, hp => (List.mem_append.mp hp).elim (prep.alive h p) (preps.alive r p)
theorem prepk.alive : ∀ {X : List Addr} {v : List (L2.Key × V)} {t : List (L2.Key × T)}, prepk W F H X v t → ∀ p ∈ X, ∃ o, H p = some o ∧ Obl o
  | _, _, _, .nil, p, hp => by simp at hp
  | _, _, _, .cons h r, p, hp => (List.mem_append.mp hp).elim (prep.alive h p) (prepk.alive r p)
end
end

/-! ### a def's slots -/
inductive Slot where
  | no | val (u : U) | own (xs : List U) | mk (c : Str) (fs : List (Str × U)) | pas (t : T)
structure Uc where
  W : Wd
  F0 : Hp
  H0 : Hp
  wx : WX
  fr : Bool
  me : Addr × Addr
def SlotOk (c : Uc) (F H : Hp) : Option V → Slot → Prop
  | _, .no => True
  | some v, .val u => rep c.W F v u
  | some v, .own xs => ∃ p vs, v = .ref p ∧ F p = none ∧ c.H0 p = none ∧ H p = some (.lst vs) ∧ reps c.W F vs xs ∧ ∀ a cc, c.W.st = some (a, cc) → p ≠ a
  | some v, .mk cn fs => ∃ p C dx fvs, v = .ref p ∧ (c.W.mg cn = some (.ref C) ∧ (p, dx) = c.me) ∧ F p = none ∧ c.H0 p = none ∧ H p = some (.ins C dx fvs) ∧ repf c.W F fvs fs ∧ ∀ a cc, c.W.st = some (a, cc) → p ≠ a
  | some _, .pas _ => True
  | none, _ => False
/-- no slot's own list and not the pool's -/
structure FreeAt (c : Uc) (F : Hp) (σ : List (Option V)) (env : List Slot) (p : Addr) : Prop where
  f : F p = none
  h : c.H0 p = none
  s : ∀ a cc, c.W.st = some (a, cc) → p ≠ a
  o : ∀ (j : Nat) xs, env[j]? = some (.own xs) → σ[j]? ≠ some (some (.ref p))
/-- what the slots own stands apart -/
def FtOk (c : Uc) (F : Hp) (σ : List (Option V)) (env : List Slot) (H : Hp) (av : List Addr) : Prop := ∃ A : Nat → List Addr,
  (∀ (i : Nat) t, env[i]? = some (.pas t) → ∃ v, σ[i]? = some (some v) ∧ prep c.W F H (A i) v t) ∧ (∀ i : Nat, (∀ t, env[i]? ≠ some (.pas t)) → A i = []) ∧
  (∀ i, (A i).Nodup) ∧ (∀ i j, i ≠ j → ∀ p ∈ A i, p ∉ A j) ∧ (∀ i, ∀ p ∈ A i, FreeAt c F σ env p) ∧ ∀ i, ∀ p ∈ A i, p ∉ av
theorem FtOk.none {c : Uc} {F : Hp} {σ : List (Option V)} {env : List Slot} {H : Hp} {av : List Addr} (h : ∀ (i : Nat) t, env[i]? ≠ some (.pas t)) : FtOk c F σ env H av :=
  ⟨fun _ => [], fun i t e => absurd e (h i t), fun _ _ => rfl, fun _ => List.nodup_nil, fun _ _ _ p hp => by simp at hp, fun _ p hp => by simp at hp, fun _ p hp => by simp at hp⟩
def selA (env : List Slot) (A : Nat → List Addr) (i : Nat) : List Addr := match env[i]? with
  | some (.pas _) => A i
  | _ => []
theorem selA_at {env : List Slot} {A : Nat → List Addr} {i : Nat} {t : T} (e : env[i]? = some (.pas t)) : selA env A i = A i := by unfold selA; rw [e]
theorem selA_in {env : List Slot} {A : Nat → List Addr} {i : Nat} {p : Addr} (h : p ∈ selA env A i) : p ∈ A i := by
  unfold selA at h
  split at h
  · exact h
  · simp at h
theorem FtOk.step {c c' : Uc} {F F' : Hp} {σ σ' : List (Option V)} {env env' : List Slot} {H H' : Hp} {av av' : List Addr} (h : FtOk c F σ env H av) (ew : c'.W = c.W) (h1 : ∀ (i : Nat) t, env'[i]? = some (.pas t) → env[i]? = some (.pas t) ∧ σ'[i]? = σ[i]?) (sm : Same F F')
    (kt : ∀ b o, H b = some o → Fix o → H' b = some o) (kf : ∀ b o, H b = some o → Obl o → FreeAt c F σ env b → b ∉ av → H' b = some o ∧ FreeAt c' F' σ' env' b ∧ b ∉ av') : FtOk c' F' σ' env' H' av' := by
  obtain ⟨A, a1, a2, a3, a4, a5, a6⟩ := h
  have live : ∀ (i : Nat), ∀ p ∈ A i, ∃ o, H p = some o ∧ Obl o := fun i p hp => by
    by_cases q : ∃ t, env[i]? = some (.pas t)
    · obtain ⟨t, e⟩ := q
      obtain ⟨v, _, r⟩ := a1 i t e
      exact r.alive p hp
    · rw [a2 i (fun t e => q ⟨t, e⟩)] at hp; simp at hp
  have ksp : ∀ (i : Nat), ∀ p ∈ A i, ∀ o, H p = some o → H' p = some o := fun i p hp o e => by
    obtain ⟨o', e', ob⟩ := live i p hp
    rw [e] at e'; cases e'
    exact (kf p o e ob (a5 i p hp) (a6 i p hp)).1
  refine ⟨selA env' A, fun i t e => ?_, fun i n => ?_, fun i => ?_, fun i j n p hp hq => a4 i j n p (selA_in hp) (selA_in hq), fun i p hp => ?_, fun i p hp => ?_⟩
  · obtain ⟨e1, e2⟩ := h1 i t e
    obtain ⟨v, ev, r⟩ := a1 i t e1
    refine ⟨v, by rw [e2]; exact ev, ?_⟩
    rw [selA_at e, ew]
    exact r.mono sm kt (ksp i)
  · unfold selA
    split
    · rename_i t e; exact absurd e (n t)
    · rfl
  · unfold selA
    split
    · exact a3 i
    · exact List.nodup_nil
  · obtain ⟨o, e, ob⟩ := live i p (selA_in hp)
    exact (kf p o e ob (a5 i p (selA_in hp)) (a6 i p (selA_in hp))).2.1
  · obtain ⟨o, e, ob⟩ := live i p (selA_in hp)
    exact (kf p o e ob (a5 i p (selA_in hp)) (a6 i p (selA_in hp))).2.2
structure Rel (c : Uc) (F : Hp) (σ : List (Option V)) (env : List Slot) (H : Hp) : Prop where
  pool : Pool c.W F H
  base : Grow c.W.st c.F0 c.H0 F H
  len : σ.length = env.length
  slot : ∀ (i : Nat) s, env[i]? = some s → ∃ o, σ[i]? = some o ∧ SlotOk c F H o s
  dist : ∀ (i j : Nat) p xs ys, i ≠ j → env[i]? = some (.own xs) → env[j]? = some (.own ys) → σ[i]? = some (some (.ref p)) → σ[j]? ≠ some (some (.ref p))
  one : ∀ (i : Nat) cn fs, env[i]? = some (.mk cn fs) → i = 0
  fp : FtOk c F σ env H []
theorem Pool.fix {W : Wd} {F H : Hp} (P : Pool W F H) {b : Addr} {o : HO} (e : H b = some o) (f : Fix o) : ∀ a cc, W.st = some (a, cc) → b ≠ a := fun a cc hs z => by
  obtain ⟨_, _, _, _, _, _, _, _, k⟩ := P.sto a cc hs
  rw [z, k] at e; cases e
  rcases f with ⟨_, f⟩ | ⟨_, _, f⟩ <;> cases f
theorem Rel.fix {c : Uc} {F : Hp} {σ : List (Option V)} {env : List Slot} {H : Hp} (R : Rel c F σ env H) {b : Addr} {o : HO} (e : H b = some o) (f : Fix o) : ∀ (j : Nat) xs, env[j]? = some (.own xs) → σ[j]? ≠ some (some (.ref b)) := fun j xs ej sj => by
  obtain ⟨q, h1, h2⟩ := R.slot j _ ej
  rw [sj] at h1; cases h1
  obtain ⟨p, vs, hp, _, _, h5, _⟩ := h2
  cases hp
  rw [e] at h5; cases h5
  rcases f with ⟨_, f⟩ | ⟨_, _, f⟩ <;> cases f
/-- what the slots own, behind a step that changes own lists and the store alone -/
theorem Rel.fpNext' {c c' : Uc} {F F' : Hp} {σ σ' : List (Option V)} {env env' : List Slot} {H H' : Hp} {av av' : List Addr} (R : Rel c F σ env H) (fp : FtOk c F σ env H av) (ew : c'.W = c.W) (eh : c'.H0 = c.H0) (h1 : ∀ (i : Nat) t, env'[i]? = some (.pas t) → env[i]? = some (.pas t) ∧ σ'[i]? = σ[i]?) (sm : Same F F')
    (kp : ∀ b o, H b = some o → (∀ a cc, c.W.st = some (a, cc) → b ≠ a) → (∀ (j : Nat) xs, env[j]? = some (.own xs) → σ[j]? ≠ some (some (.ref b))) → (Obl o → b ∉ av) → H' b = some o)
    (nw : ∀ b o, F' b = some o → F b = some o ∨ H b = none ∨ (∃ (j : Nat) (xs : List U), env[j]? = some (.own xs) ∧ σ[j]? = some (some (.ref b))) ∨ b ∈ av)
    (ow : ∀ (j : Nat) xs b, env'[j]? = some (.own xs) → σ'[j]? = some (some (.ref b)) → H b = none ∨ (∃ (j : Nat) (xs : List U), env[j]? = some (.own xs) ∧ σ[j]? = some (some (.ref b))) ∨ b ∈ av) (av_ : ∀ b ∈ av', b ∈ av ∨ H b = none) : FtOk c' F' σ' env' H' av' :=
  fp.step ew h1 sm (fun b o e f => kp b o e (R.pool.fix e f) (R.fix e f) fun ob => by
    rcases f with ⟨_, rfl⟩ | ⟨_, _, rfl⟩ <;> rcases ob with ⟨_, ob⟩ | ⟨_, ob⟩ | ⟨_, ob⟩ <;> cases ob) fun b o e ob fa na => ⟨kp b o e fa.s fa.o (fun _ => na), by
    refine ⟨?_, by rw [eh]; exact fa.h, by rw [ew]; exact fa.s, fun j xs ej sj => ?_⟩
    · cases q : F' b with
      | none => rfl
      | some o' =>
        rcases nw b o' q with z | z | ⟨j, xs, z1, z2⟩ | z
        · rw [fa.f] at z; cases z
        · rw [e] at z; cases z
        · exact absurd z2 (fa.o j xs z1)
        · exact absurd z na
    · rcases ow j xs b ej sj with z | ⟨j', xs', z1, z2⟩ | z
      · rw [e] at z; cases z
      · exact fa.o j' xs' z1 z2
      · exact na z, fun z => by
    rcases av_ b z with z | z
    · exact na z
    · rw [e] at z; cases z⟩
theorem Rel.fpNext {c c' : Uc} {F F' : Hp} {σ σ' : List (Option V)} {env env' : List Slot} {H H' : Hp} (R : Rel c F σ env H) (ew : c'.W = c.W) (eh : c'.H0 = c.H0) (h1 : ∀ (i : Nat) t, env'[i]? = some (.pas t) → env[i]? = some (.pas t) ∧ σ'[i]? = σ[i]?) (sm : Same F F')
    (kp : ∀ b o, H b = some o → (∀ a cc, c.W.st = some (a, cc) → b ≠ a) → (∀ (j : Nat) xs, env[j]? = some (.own xs) → σ[j]? ≠ some (some (.ref b))) → H' b = some o)
    (nw : ∀ b o, F' b = some o → F b = some o ∨ H b = none ∨ ∃ (j : Nat) (xs : List U), env[j]? = some (.own xs) ∧ σ[j]? = some (some (.ref b)))
    (ow : ∀ (j : Nat) xs b, env'[j]? = some (.own xs) → σ'[j]? = some (some (.ref b)) → H b = none ∨ ∃ (j : Nat) (xs : List U), env[j]? = some (.own xs) ∧ σ[j]? = some (some (.ref b))) : FtOk c' F' σ' env' H' [] :=
  R.fpNext' R.fp ew eh h1 sm (fun b o e n f _ => kp b o e n f) (fun b o e => (nw b o e).imp id fun z => z.imp id .inl) (fun j xs b e f => (ow j xs b e f).imp id .inl) fun b z => by simp at z
/-- an expression's value: data, or the own list of a slot -/
inductive Y where
  | val (u : U) | own (i : Nat)
def YOk (c : Uc) (F : Hp) (σ : L2.St) (v : V) : Y → Prop
  | .val u => rep c.W F v u
  | .own i => σ[i]? = some (some v)
inductive YsOk (c : Uc) (F : Hp) (σ : L2.St) : List V → List Y → Prop
  | nil : YsOk c F σ [] []
  | cons {v : V} {y : Y} {vs : List V} {ys : List Y} : YOk c F σ v y → YsOk c F σ vs ys → YsOk c F σ (v :: vs) (y :: ys)
theorem YOk.mono {c : Uc} {F F' : Hp} {σ : L2.St} {v : V} {y : Y} (s : Same F F') (h : YOk c F σ v y) : YOk c F' σ v y := by
  cases y with
  | val u => exact rep.mono s h
  | own i => exact h
theorem YsOk.mono {c : Uc} {F F' : Hp} {σ : L2.St} {vs : List V} {ys : List Y} (s : Same F F') (h : YsOk c F σ vs ys) : YsOk c F' σ vs ys := by
  induction h with
  | nil => exact .nil
  | cons a _ ih => exact .cons (a.mono s) ih
/-- what may be read: data of the pool, or a list that is tracked beside it, its items in the pool -/
inductive View (W : Wd) (F H : Hp) : V → U → Prop
  | pool {v : V} {u : U} : rep W F v u → View W F H v u
  | own {p : Addr} {vs : List V} {us : List U} : H p = some (.lst vs) → reps W F vs us → (∀ a cc, W.st = some (a, cc) → p ≠ a) → View W F H (.ref p) (.lst us)
inductive Views (W : Wd) (F H : Hp) : List V → List U → Prop
  | nil : Views W F H [] []
  | cons {v : V} {u : U} {vs : List V} {us : List U} : View W F H v u → Views W F H vs us → Views W F H (v :: vs) (u :: us)
/-- what a value is read as -/
def toU (env : List Slot) : Y → Option U
  | .val u => some u
  | .own i => match env[i]? with
    | some (.own xs) => some (.lst xs)
    | _ => none
def toUs (env : List Slot) : List Y → Option (List U)
  | [] => some []
  | y :: ys => match toU env y with
    | some u => (match toUs env ys with | some us => some (u :: us) | none => none)
    | none => none
theorem Rel.view {c : Uc} {F : Hp} {σ : L2.St} {env : List Slot} {H : Hp} {v : V} {y : Y} {u : U} (R : Rel c F σ env H) (o : YOk c F σ v y) (e : toU env y = some u) : View c.W F H v u := by
  cases y with
  | val w => cases e; exact .pool o
  | own i =>
    replace e : (match env[i]? with | some (.own xs) => some (U.lst xs) | _ => none) = some u := e
    cases hi : env[i]? with
    | none => rw [hi] at e; cases e
    | some s =>
      rw [hi] at e
      cases s with
      | no => cases e
      | val w => cases e
      | mk _ _ => cases e
      | pas _ => cases e
      | own xs =>
        cases e
        obtain ⟨q, h1, h2⟩ := R.slot i _ hi
        have o' : σ[i]? = some (some v) := o
        rw [o'] at h1
        cases h1
        obtain ⟨p, vs, rfl, _, _, h3, h4, h5⟩ := h2
        exact .own h3 h4 h5
theorem Rel.views {c : Uc} {F : Hp} {σ : L2.St} {env : List Slot} {H : Hp} (R : Rel c F σ env H) : ∀ {vs : List V} {ys : List Y} {us : List U}, YsOk c F σ vs ys → toUs env ys = some us → Views c.W F H vs us
  | _, _, _, .nil, e => by cases e; exact .nil
  | _, _, us, .cons a r, e => by
    rename_i v y vs ys
    unfold toUs at e
    cases h1 : toU env y with
    | none => rw [h1] at e; cases e
    | some u =>
      rw [h1] at e
      cases h2 : toUs env ys with
      | none => simp only [h2] at e; cases e
      | some ws =>
        simp only [h2] at e
        cases e
        exact .cons (R.view a h1) (R.views r h2)
theorem View.rep {W : Wd} {F H : Hp} {v : V} {u : U} (P : Same F H) (h : View W F H v u) : rep W H v u := by
  cases h with
  | pool r => exact r.mono P
  | own h r _ => exact .lst h (r.mono P)
theorem View.list {W : Wd} {F H : Hp} {v : V} {us : List U} (P : Same F H) (h : View W F H v (.lst us)) : ∃ p vs, v = .ref p ∧ H p = some (.lst vs) ∧ reps W F vs us := by
  cases h with
  | pool r => cases r with | lst h r => exact ⟨_, _, rfl, P _ _ h, r⟩
  | own h r _ => exact ⟨_, _, rfl, h, r⟩
theorem View.tupl {W : Wd} {F H : Hp} {v : V} {us : List U} (P : Same F H) (h : View W F H v (.tup us)) : ∃ p vs, v = .ref p ∧ SqT W.K F p vs ∧ reps W F vs us := by
  cases h with
  | pool r => cases r with | tup h r => exact ⟨_, _, rfl, h, r⟩
theorem View.int {W : Wd} {F H : Hp} {v : V} {i : Int} (h : View W F H v (.int i)) : v = .int i := by
  cases h with | pool r => cases r; rfl
theorem View.str {W : Wd} {F H : Hp} {v : V} {i : Str} (h : View W F H v (.str i)) : v = .str i := by
  cases h with | pool r => cases r; rfl
theorem View.bl {W : Wd} {F H : Hp} {v : V} {i : Bool} (h : View W F H v (.bl i)) : v = .bl i := by
  cases h with | pool r => cases r; rfl
/-- the pool has grown -/
theorem Rel.ext {c : Uc} {F F' : Hp} {σ : L2.St} {env : List Slot} {H H' : Hp} (R : Rel c F σ env H) (x : Ext c.W F H F' H') : Rel c F' σ env H' where
  pool := x.2
  base := R.base.trans x.1 R.pool
  len := R.len
  slot := fun i s e => by
    obtain ⟨o, h1, h2⟩ := R.slot i s e
    refine ⟨o, h1, ?_⟩
    cases s with
    | no => cases o <;> trivial
    | val u =>
      cases o with
      | none => exact h2.elim
      | some v => exact rep.mono x.same h2
    | own xs =>
      cases o with
      | none => exact h2.elim
      | some v =>
        obtain ⟨p, vs, rfl, h3, h4, h5, h6, h7⟩ := h2
        refine ⟨p, vs, rfl, ?_, h4, x.1.keep p _ h7 h5, h6.mono x.same, h7⟩
        cases q : F' p with
        | none => rfl
        | some o =>
          rcases x.1.new p o q with z | z
          · rw [h3] at z; cases z
          · rw [h5] at z; cases z
    | mk cn fs =>
      cases o with
      | none => exact h2.elim
      | some v =>
        obtain ⟨p, C, dx, fvs, rfl, h0, h3, h4, h5, h6, h7⟩ := h2
        refine ⟨p, C, dx, fvs, rfl, h0, ?_, h4, x.1.keep p _ h7 h5, h6.mono x.same, h7⟩
        cases q : F' p with
        | none => rfl
        | some o =>
          rcases x.1.new p o q with z | z
          · rw [h3] at z; cases z
          · rw [h5] at z; cases z
    | pas t =>
      cases o with
      | none => exact h2.elim
      | some v => trivial
  dist := R.dist
  one := R.one
  fp := R.fpNext rfl rfl (fun i t e => ⟨e, rfl⟩) x.same (fun b o e n _ => x.1.keep b o n e) (fun b o e => (x.1.new b o e).elim .inl fun z => .inr (.inl z)) fun j xs b ej sj => .inr ⟨j, xs, ej, sj⟩

/-! ### steps -/
/-- from (F, env, H) to (F', env', H') at the slots σ: the pool grows, no slot gets an own list, all but the store and the own lists is kept -/
structure Stp (c : Uc) (σ : List (Option V)) (F : Hp) (env : List Slot) (H F' : Hp) (env' : List Slot) (H' : Hp) : Prop where
  same : Same F F'
  own : ∀ (j : Nat) ys, env'[j]? = some (.own ys) → ∃ xs, env[j]? = some (.own xs)
  pas : ∀ (j : Nat) t, env'[j]? = some (.pas t) → env[j]? = some (.pas t)
  keep : ∀ b o, H b = some o → (∀ a cc, c.W.st = some (a, cc) → b ≠ a) → (∀ (j : Nat) xs, env[j]? = some (.own xs) → σ[j]? ≠ some (some (.ref b))) → H' b = some o
  new : ∀ b o, F' b = some o → F b = some o ∨ H b = none ∨ ∃ (j : Nat) (xs : List U), env[j]? = some (.own xs) ∧ σ[j]? = some (some (.ref b))
  liv : ∀ b, H' b = none → H b = none
  pl : Pool c.W F' H'
section
variable {c : Uc} {σ : List (Option V)} {F F1 F2 H H1 H2 : Hp} {env env1 env2 : List Slot}
theorem Pool.alive {W : Wd} {F H : Hp} {a cc : Addr} (P : Pool W F H) (h : W.st = some (a, cc)) : H a ≠ none := by
  obtain ⟨_, _, _, _, _, _, _, _, k⟩ := P.sto a cc h
  rw [k]; exact fun z => nomatch z
theorem Stp.refl (P : Pool c.W F H) : Stp c σ F env H F env H := ⟨Same.refl F, fun _ ys h => ⟨ys, h⟩, fun _ _ h => h, fun _ _ h _ _ => h, fun _ _ h => .inl h, fun _ h => h, P⟩
theorem Stp.trans (a : Stp c σ F env H F1 env1 H1) (b : Stp c σ F1 env1 H1 F2 env2 H2) : Stp c σ F env H F2 env2 H2 where
  same := a.same.trans b.same
  own := fun j ys h => by
    obtain ⟨xs, h1⟩ := b.own j ys h
    exact a.own j xs h1
  pas := fun j t h => a.pas j t (b.pas j t h)
  keep := fun x o h h1 h2 => b.keep x o (a.keep x o h h1 h2) h1 fun j xs e => by
    obtain ⟨zs, e'⟩ := a.own j xs e
    exact h2 j zs e'
  new := fun x o h => by
    rcases b.new x o h with h1 | h1 | ⟨j, xs, h1, h2⟩
    · exact a.new x o h1
    · cases q : H x with
      | none => exact .inr (.inl rfl)
      | some u =>
        by_cases n1 : ∀ a cc, c.W.st = some (a, cc) → x ≠ a
        · by_cases n2 : ∀ (j : Nat) xs, env[j]? = some (.own xs) → σ[j]? ≠ some (some (.ref x))
          · rw [a.keep x u q n1 n2] at h1; cases h1
          · simp only [Classical.not_forall, Classical.not_not] at n2
            obtain ⟨j, xs, h3, h4⟩ := n2
            exact .inr (.inr ⟨j, xs, h3, h4⟩)
        · exfalso
          apply n1
          intro a' cc hs e
          subst e
          exact a.pl.alive hs h1
    · obtain ⟨zs, e'⟩ := a.own j xs h1
      exact .inr (.inr ⟨j, zs, e', h2⟩)
  liv := fun x h => a.liv x (b.liv x h)
  pl := b.pl
theorem Stp.ext (a : Stp c σ F env H F1 env1 H1) (x : Ext c.W F1 H1 F2 H2) : Stp c σ F env H F2 env1 H2 :=
  a.trans ⟨x.same, fun _ ys h => ⟨ys, h⟩, fun _ _ h => h, fun b o h n _ => x.1.keep b o n h, fun b o h => (x.1.new b o h).elim .inl fun z => .inr (.inl z), fun b h => by
    cases q : H1 b with
    | none => rfl
    | some o =>
      by_cases n : ∀ a cc, c.W.st = some (a, cc) → b ≠ a
      · rw [x.1.keep b o n q] at h; cases h
      · exfalso; apply n; intro a' cc hs e; subst e; exact x.2.alive hs h, x.2⟩
theorem Stp.new1 {p : Addr} {o : HO} (a : Stp c σ F env H F1 env1 H1) (hp : H1 p = none) : Stp c σ F env H F1 env1 (upd H1 p o) := a.trans ⟨Same.refl _, fun _ ys h => ⟨ys, h⟩, fun _ _ h => h, fun b u h _ _ => by rw [upd_ne (ne_of_none h hp)]; exact h, fun _ _ h => .inl h, fun b h => by
    by_cases e : b = p
    · subst e; exact hp
    · rw [upd_ne e] at h; exact h,
  ⟨fun b u e => by rw [upd_ne (ne_of_none (a.pl.sub b u e) hp)]; exact a.pl.sub b u e, fun s cc e => by
    obtain ⟨h1, h2, q, st, ct, hd, lf, h3, h4⟩ := a.pl.sto s cc e
    exact ⟨h1, h2, q, st, ct, hd, lf, h3, by rw [upd_ne (a.pl.neStore hp s cc e).symm]; exact h4⟩⟩⟩
/-- what was not there at first is laid into the pool -/
theorem Stp.pool {p : Addr} (a : Stp c σ F env H F1 env1 H1) (hp : H p = none) (s : Same F1 F2) (n : ∀ b o, F2 b = some o → F1 b = some o ∨ b = p) (P : Pool c.W F2 H1) : Stp c σ F env H F2 env1 H1 :=
  ⟨a.same.trans s, a.own, a.pas, a.keep, fun b o h => (n b o h).elim (a.new b o) fun z => .inr (.inl (z ▸ hp)), a.liv, P⟩
end

/-- what the slots own, behind a step -/
theorem Stp.fpx {c : Uc} {σ : List (Option V)} {F H F' H' : Hp} {env env' : List Slot} {av : List Addr} (S : Stp c σ F env H F' env' H') (R : Rel c F σ env H) (fp : FtOk c F σ env H av) (na : ∀ b ∈ av, ∀ o, H b = some o → (∀ a cc, c.W.st = some (a, cc) → b ≠ a) ∧ ∀ (j : Nat) xs, env[j]? = some (.own xs) → σ[j]? ≠ some (some (.ref b))) : FtOk c F' σ env' H' av :=
  R.fpNext' fp rfl rfl (fun j t e => ⟨S.pas j t e, rfl⟩) S.same (fun b o e n f _ => S.keep b o e n f) (fun b o e => (S.new b o e).imp id fun z => z.imp id .inl) (fun j xs b e f => by
    obtain ⟨ys, h⟩ := S.own j xs e
    exact .inr (.inl ⟨j, ys, h, f⟩)) fun b z => .inl z
/-! ### readings without addresses -/
/-- what is wanted of an error: the slots where it left, its class, its fields -/
abbrev XC := List Slot → Str → List (Str × U) → Prop
abbrev UM := XC → List Slot → (Y → List Slot → Prop) → Prop
abbrev UT := XC → List Slot → (Bool → List Slot → Prop) → Prop
abbrev UA := XC → List Slot → (List Y → List Slot → Prop) → Prop
structure UEnds where
  nx : List Slot → Prop
  rt : U → Prop
  ex : XC
  bk : List Slot → Prop := fun _ => False
  ct : List Slot → Prop := fun _ => False
abbrev US := UEnds → List Slot → Prop
def Wants (c : Uc) (ex : XC) : Prop := ∀ F' σ' env' H' C d fvs cn fus, Rel c F' σ' env' H' → c.W.mg cn = some (.ref C) → H' d = some (.xd fvs) → repf c.W F' fvs fus → ex env' cn fus → c.wx (.ref C) (some d) σ' H'
def tm (c : Uc) (m : UM) : TE := fun σ H Q => ∃ F env ex k, Rel c F σ env H ∧ m ex env k ∧ Wants c ex ∧
  ∀ F' H' env' v y, Stp c σ F env H F' env' H' → Rel c F' σ env' H' → YOk c F' σ v y → k y env' → Q v H'
def tt (c : Uc) (m : UT) : TT := fun σ H Q => ∃ F env ex k, Rel c F σ env H ∧ m ex env k ∧ Wants c ex ∧
  ∀ F' H' env' b, Stp c σ F env H F' env' H' → Rel c F' σ env' H' → k b env' → Q b H'
def ta (c : Uc) (m : UA) : TA := fun σ H Q => ∃ F env ex k, Rel c F σ env H ∧ m ex env k ∧ Wants c ex ∧
  ∀ F' H' env' vs ys, Stp c σ F env H F' env' H' → Rel c F' σ env' H' → YsOk c F' σ vs ys → k ys env' → Q vs H'
/-- a new list, its items in a pool without it -/
def FrR (W : Wd) (F0 H0 : Hp) (v : V) (u : U) (H' : Hp) : Prop := ∃ p vs us Fm, v = .ref p ∧ u = .lst us ∧ H0 p = none ∧ Fm p = none ∧ H' p = some (.lst vs) ∧ reps W Fm vs us ∧ Ext W F0 H0 Fm H'
structure EndsOk (c : Uc) (F : Hp) (d : UEnds) (D : Ends) : Prop where
  nx : ∀ F' σ' env' H', Same F F' → Rel c F' σ' env' H' → d.nx env' → D.nx σ' H'
  bk : ∀ F' σ' env' H', Same F F' → Rel c F' σ' env' H' → d.bk env' → D.bk σ' H'
  ct : ∀ F' σ' env' H', Same F F' → Rel c F' σ' env' H' → d.ct env' → D.ct σ' H'
  rt : ∀ F' H' v u, Ext c.W c.F0 c.H0 F' H' → rep c.W F' v u → (c.fr = true → FrR c.W c.F0 c.H0 v u H') → d.rt u → D.rt v H'
  ex : Wants c d.ex
def ts (c : Uc) (m : US) : TS := fun D σ H => ∃ F env d, Rel c F σ env H ∧ m d env ∧ EndsOk c F d D

theorem PE.imp {X : Cx} {e : Expr} {t t' : TE} (h : PE X e t) (k : ∀ σ H Q, t' σ H Q → t σ H Q) : PE X e t' := ⟨fun pins s σ H Q I q => h.run pins s σ H Q I (k σ H Q q)⟩
theorem PT.imp {X : Cx} {e : Expr} {t t' : TT} (h : PT X e t) (k : ∀ σ H Q, t' σ H Q → t σ H Q) : PT X e t' := ⟨fun pins s σ H Q I q => h.run pins s σ H Q I (k σ H Q q)⟩
theorem PW.imp {X : Cx} {e : Expr} {t t' : TT} (h : PW X e t) (k : ∀ σ H Q, t' σ H Q → t σ H Q) : PW X e t' := ⟨fun wh pins s σ H Q I q => h.run wh pins s σ H Q I (k σ H Q q)⟩
theorem PA.imp {X : Cx} {e : List Expr} {t t' : TA} (h : PA X e t) (k : ∀ σ H Q, t' σ H Q → t σ H Q) : PA X e t' := ⟨fun pos pins s σ H Q I q => h.run pos pins s σ H Q I (k σ H Q q)⟩
theorem PS.imp {X : Cx} {e : Stmt} {t t' : TS} (h : PS X e t) (k : ∀ D σ H, t' D σ H → t D σ H) : PS X e t' := ⟨fun pins s σ H D I q => h.run pins s σ H D I (k D σ H q)⟩
theorem PSs.imp {X : Cx} {e : List Stmt} {t t' : TS} (h : PSs X e t) (k : ∀ D σ H, t' D σ H → t D σ H) : PSs X e t' := ⟨fun pins s σ H D I q => h.run pins s σ H D I (k D σ H q)⟩
end UL

namespace UL
open PySem PySem.Spec PyProof.Rows L2
/-- the context's facts -/
structure Fit (c : Uc) (X : Cx) : Prop where
  K : c.W.K = X.K
  mg : c.W.mg = X.mg
  cool : c.W.hot = none
  dn : c.W.dn = DN X.prog X.w
  tk : Takes X c.wx
abbrev Uc.nox (c : Uc) : Uc := { c with wx := fun _ _ _ _ => False }
def exF : XC := fun _ _ _ => False
theorem wantsF {c : Uc} : Wants c exF := fun _ _ _ _ _ _ _ _ _ _ _ _ _ h => h.elim
theorem Rel.nox {c : Uc} {F : Hp} {σ : List (Option V)} {env : List Slot} {H : Hp} (R : Rel c F σ env H) : Rel c.nox F σ env H := ⟨R.pool, R.base, R.len, R.slot, R.dist, R.one, R.fp.step rfl (fun i t e => ⟨e, rfl⟩) (Same.refl _) (fun _ _ e _ => e) fun b o e _ fa na => ⟨e, ⟨fa.f, fa.h, fa.s, fa.o⟩, na⟩⟩
theorem Rel.unnox {c : Uc} {F : Hp} {σ : List (Option V)} {env : List Slot} {H : Hp} (R : Rel c.nox F σ env H) : Rel c F σ env H := ⟨R.pool, R.base, R.len, R.slot, R.dist, R.one, R.fp.step rfl (fun i t e => ⟨e, rfl⟩) (Same.refl _) (fun _ _ e _ => e) fun b o e _ fa na => ⟨e, ⟨fa.f, fa.h, fa.s, fa.o⟩, na⟩⟩

theorem ofT {A B : Prop} (h : if true = true then A else B) : A := by rw [if_pos rfl] at h; exact h
theorem ofF {A B : Prop} (h : if false = true then A else B) : B := by rw [if_neg Bool.false_ne_true] at h; exact h
/-! ### reading values -/
def vw (env : List Slot) (y : Y) (κ : U → Prop) : Prop := match toU env y with
  | some u => κ u
  | none => False
theorem vw_elim {env : List Slot} {y : Y} {κ : U → Prop} (h : vw env y κ) : ∃ u, toU env y = some u ∧ κ u := by
  unfold vw at h
  cases e : toU env y with
  | none => rw [e] at h; exact h.elim
  | some u => rw [e] at h; exact ⟨u, rfl, h⟩
def vws (env : List Slot) (ys : List Y) (κ : List U → Prop) : Prop := match toUs env ys with
  | some u => κ u
  | none => False
theorem vws_elim {env : List Slot} {y : List Y} {κ : List U → Prop} (h : vws env y κ) : ∃ u, toUs env y = some u ∧ κ u := by
  unfold vws at h
  cases e : toUs env y with
  | none => rw [e] at h; exact h.elim
  | some u => rw [e] at h; exact ⟨u, rfl, h⟩
/-- into the pool: an own list is no longer its slot's own -/
def pin (env : List Slot) (y : Y) (κ : U → List Slot → Prop) : Prop := match y with
  | .val u => κ u env
  | .own i => match env[i]? with
    | some (.own xs) => κ (.lst xs) (env.set i (.val (.lst xs)))
    | _ => False
def pins (env : List Slot) (ys : List Y) (κ : List U → List Slot → Prop) : Prop := match ys with
  | [] => κ [] env
  | y :: ys => pin env y fun u env1 => pins env1 ys fun us env2 => κ (u :: us) env2
theorem get_set {α : Type} {l : List α} {i j : Nat} {x y : α} (e : (l.set i x)[j]? = some y) : (i = j ∧ y = x ∧ i < l.length) ∨ (i ≠ j ∧ l[j]? = some y) := by
  rw [List.getElem?_set] at e
  by_cases h : i = j
  · rw [if_pos h] at e
    by_cases hl : i < l.length
    · rw [if_pos hl] at e; cases e; exact .inl ⟨h, rfl, hl⟩
    · rw [if_neg hl] at e; cases e
  · rw [if_neg h] at e; exact .inr ⟨h, e⟩
theorem pas_set {env : List Slot} {i j : Nat} {s : Slot} {t : T} (hs : ∀ t, s ≠ .pas t) (e : (env.set i s)[j]? = some (.pas t)) : i ≠ j ∧ env[j]? = some (.pas t) := by
  rcases get_set e with ⟨_, e2, _⟩ | e2
  · exact absurd e2.symm (hs t)
  · exact e2
theorem own_set {env : List Slot} {i j : Nat} {s : Slot} {xs : List U} (hs : ∀ xs, s ≠ .own xs) (e : (env.set i s)[j]? = some (.own xs)) : i ≠ j ∧ env[j]? = some (.own xs) := by
  rcases get_set e with ⟨_, e2, _⟩ | e2
  · exact absurd e2.symm (hs xs)
  · exact e2
theorem set_at {α : Type} {l : List α} {i j : Nat} {x : α} (h : i ≠ j) : (l.set i x)[j]? = l[j]? := by
  rw [List.getElem?_set, if_neg h]
section
variable {c : Uc} {F H : Hp} {σ : List (Option V)} {env : List Slot}
theorem Rel.freeze {i : Nat} {xs : List U} {v : V} (R : Rel c F σ env H) (e : env[i]? = some (.own xs)) (o : σ[i]? = some (some v)) :
    ∃ F', Stp c σ F env H F' (env.set i (.val (.lst xs))) H ∧ Rel c F' σ (env.set i (.val (.lst xs))) H ∧ rep c.W F' v (.lst xs) := by
  obtain ⟨q, h1, h2⟩ := R.slot i _ e
  rw [o] at h1; cases h1
  obtain ⟨p, vs, rfl, h3, h4, h5, h6, h7⟩ := h2
  have sm : Same F (upd F p (.lst vs)) := fun b u z => by rw [upd_ne (ne_of_none z h3)]; exact z
  have rp : rep c.W (upd F p (.lst vs)) (.ref p) (.lst xs) := .lst upd_same (h6.mono sm)
  have key : ∀ (j : Nat) (zs : List U), (env.set i (.val (.lst xs)))[j]? = some (.own zs) → env[j]? = some (.own zs) := fun j zs ej => by
    rw [List.getElem?_set] at ej
    by_cases hij : i = j
    · rw [if_pos hij] at ej
      by_cases hl : i < env.length
      · rw [if_pos hl] at ej; cases ej
      · rw [if_neg hl] at ej; cases ej
    · rw [if_neg hij] at ej; exact ej
  have pl : Pool c.W (upd F p (.lst vs)) H := ⟨fun b u z => by
    by_cases hb : b = p
    · subst hb; rw [upd_same] at z; cases z; exact h5
    · rw [upd_ne hb] at z; exact R.pool.sub b u z, fun a cc z => by
    obtain ⟨k1, ⟨ns, k2⟩, k3⟩ := R.pool.sto a cc z
    exact ⟨by rw [upd_ne (h7 a cc z).symm]; exact k1, ⟨ns, sm _ _ k2⟩, k3⟩⟩
  refine ⟨upd F p (.lst vs), ⟨sm, fun j ys h => ⟨ys, key j ys h⟩, fun j t h => (pas_set (by intro t z; cases z) h).2, fun _ _ h _ _ => h, fun b u z => by
    by_cases hb : b = p
    · subst hb; exact .inr (.inr ⟨i, xs, e, o⟩)
    · rw [upd_ne hb] at z; exact .inl z, fun _ h => h, pl⟩, ⟨pl, ⟨R.base.keep, R.base.pool.trans sm, fun b u z => ?_⟩, by rw [List.length_set]; exact R.len, fun j s ej => ?_, fun j k q zs ws hjk ej ek => ?_, fun j cn fs ej => ?_,
    R.fpNext rfl rfl (fun j t ej => ⟨(pas_set (by intro t z; cases z) ej).2, rfl⟩) sm (fun _ _ z _ _ => z) (fun b u z => by
      by_cases hb : b = p
      · subst hb; exact .inr (.inr ⟨i, xs, e, o⟩)
      · rw [upd_ne hb] at z; exact .inl z) fun j zs b ej sj => .inr ⟨j, zs, key j zs ej, sj⟩⟩, rp⟩
  · by_cases hb : b = p
    · right; rw [hb]; exact h4
    · rw [upd_ne hb] at z; exact R.base.new b u z
  · rw [List.getElem?_set] at ej
    by_cases hij : i = j
    · subst hij
      rw [if_pos rfl] at ej
      by_cases hl : i < env.length
      · rw [if_pos hl] at ej; cases ej
        exact ⟨_, o, rp⟩
      · rw [if_neg hl] at ej; cases ej
    · rw [if_neg hij] at ej
      obtain ⟨q, k1, k2⟩ := R.slot j s ej
      refine ⟨q, k1, ?_⟩
      cases s with
      | no => cases q <;> trivial
      | val u =>
        cases q with
        | none => exact k2.elim
        | some w => exact rep.mono sm k2
      | own ys =>
        cases q with
        | none => exact k2.elim
        | some w =>
          obtain ⟨p', vs', rfl, g3, g4, g5, g6, g7⟩ := k2
          refine ⟨p', vs', rfl, ?_, g4, g5, g6.mono sm, g7⟩
          have ne : p' ≠ p := fun z => R.dist i j p xs ys hij e ej o (by rw [k1, z])
          rw [upd_ne ne]; exact g3
      | mk cn fs =>
        cases q with
        | none => exact k2.elim
        | some w =>
          obtain ⟨p', C, dx, fvs, rfl, g0, g3, g4, g5, g6, g7⟩ := k2
          have ne : p' ≠ p := ne_of g5 h5 (by intro z; cases z)
          exact ⟨p', C, dx, fvs, rfl, g0, by rw [upd_ne ne]; exact g3, g4, g5, g6.mono sm, g7⟩
      | pas t =>
        cases q with
        | none => exact k2.elim
        | some w => trivial
  · exact R.dist j k q zs ws hjk (key j zs ej) (key k ws ek)
  · refine R.one j cn fs ?_
    rw [List.getElem?_set] at ej
    by_cases hij : i = j
    · rw [if_pos hij] at ej
      by_cases hl : i < env.length
      · rw [if_pos hl] at ej; cases ej
      · rw [if_neg hl] at ej; cases ej
    · rw [if_neg hij] at ej; exact ej
theorem Rel.pin {y : Y} {v : V} {κ : U → List Slot → Prop} (R : Rel c F σ env H) (o : YOk c F σ v y) (h : pin env y κ) :
    ∃ F' env' u, Stp c σ F env H F' env' H ∧ Rel c F' σ env' H ∧ rep c.W F' v u ∧ κ u env' := by
  cases y with
  | val u => exact ⟨F, env, u, (.refl R.pool), R, o, h⟩
  | own i =>
    unfold UL.pin at h
    replace h : (match env[i]? with | some (.own xs) => κ (.lst xs) (env.set i (.val (.lst xs))) | _ => False) := h
    cases e : env[i]? with
    | none => rw [e] at h; exact h.elim
    | some s =>
      rw [e] at h
      cases s with
      | no => exact h.elim
      | val w => exact h.elim
      | mk _ _ => exact h.elim
      | pas _ => exact h.elim
      | own xs =>
        obtain ⟨F', sm, R', rp⟩ := R.freeze e o
        exact ⟨F', _, _, sm, R', rp, h⟩
theorem Rel.pins : ∀ {ys : List Y} {vs : List V} {F : Hp} {env : List Slot} {κ : List U → List Slot → Prop}, Rel c F σ env H → YsOk c F σ vs ys → pins env ys κ →
    ∃ F' env' us, Stp c σ F env H F' env' H ∧ Rel c F' σ env' H ∧ reps c.W F' vs us ∧ κ us env'
  | [], _, F, env, κ, R, .nil, h => ⟨F, env, [], (.refl R.pool), R, .nil, h⟩
  | y :: ys, _, F, env, κ, R, .cons a r, h => by
    obtain ⟨F1, env1, u, s1, R1, r1, h1⟩ := R.pin a h
    obtain ⟨F2, env2, us, s2, R2, r2, h2⟩ := Rel.pins R1 (r.mono s1.same) h1
    exact ⟨F2, env2, u :: us, s1.trans s2, R2, .cons (r1.mono s2.same) r2, h2⟩
end

/-! ### rules by values -/
abbrev G1 := U → (U → Prop) → Prop
abbrev G2 := U → U → (U → Prop) → Prop
abbrev GN := List U → (U → Prop) → Prop
def Snd1 (W : Wd) (r : V → Hp → VK → Prop) (g : G1) : Prop := ∀ F H x u κ Q, Pool W F H → View W F H x u → g u κ →
  (∀ F' H' v z, Ext W F H F' H' → rep W F' v z → κ z → Q v H') → r x H Q
def Snd2 (W : Wd) (r : R2) (g : G2) : Prop := ∀ F H x u y w κ Q, Pool W F H → View W F H x u → View W F H y w → g u w κ →
  (∀ F' H' v z, Ext W F H F' H' → rep W F' v z → κ z → Q v H') → r x y H Q
def SndN (W : Wd) (r : List V → Hp → VK → Prop) (g : GN) : Prop := ∀ F H vs us κ Q, Pool W F H → Views W F H vs us → g us κ →
  (∀ F' H' v z, Ext W F H F' H' → rep W F' v z → κ z → Q v H') → r vs H Q
/-! ### expressions -/
def uVar (i : Nat) : UM := fun _ env k => match env[i]? with
  | some (.val u) => k (.val u) env
  | some (.own _) => k (.own i) env
  | _ => False
def uC (u : U) : UM := fun _ env k => k (.val u) env
def uOp (g : G2) (ma mb : UM) : UM := fun ex env k => ma ex env fun y env1 => mb ex env1 fun z env2 => vw env2 y fun u => vw env2 z fun w => g u w fun r => k (.val r) env2
def uUn (g : G1) (ma : UM) : UM := fun ex env k => ma ex env fun y env1 => vw env1 y fun u => g u fun r => k (.val r) env1
def uNil : UA := fun _ env k => k [] env
def uCons (m : UM) (ms : UA) : UA := fun ex env k => m ex env fun y env1 => ms ex env1 fun ys env2 => k (y :: ys) env2
def uB (g : GN) (ms : UA) : UM := fun ex env k => ms ex env fun ys env1 => vws env1 ys fun us => g us fun r => k (.val r) env1
def uTup (ms : UA) : UM := fun ex env k => ms ex env fun ys env1 => pins env1 ys fun us env2 => us.length ≤ 1000000 ∧ k (.val (.tup us)) env2
def uLst (ms : UA) : UM := fun ex env k => ms ex env fun ys env1 => pins env1 ys fun us env2 => us.length ≤ 1000000 ∧ k (.val (.lst us)) env2
def uVal (m : UM) : UT := fun ex env k => m ex env fun y env1 => match y with
  | .val (.bl b) => k b env1
  | _ => False
def uNot (m : UT) : UT := fun ex env k => m ex env fun b env1 => k (!b) env1
def uAnd (m n : UT) : UT := fun ex env k => m ex env fun b env1 => if b = true then n ex env1 k else k false env1
def uOr (m n : UT) : UT := fun ex env k => m ex env fun b env1 => if b = true then k true env1 else n ex env1 k
def uOfT (m : UT) : UM := fun ex env k => m ex env fun b env1 => k (.val (.bl b)) env1
def uIfE (t : UT) (m n : UM) : UM := fun ex env k => t ex env fun b env1 => if b = true then m ex env1 k else n ex env1 k
def uAndV (m n : UM) : UM := fun ex env k => m ex env fun y env1 => match y with
  | .val (.bl b) => if b = true then n ex env1 k else k (.val (.bl false)) env1
  | _ => False
def uOrV (m n : UM) : UM := fun ex env k => m ex env fun y env1 => match y with
  | .val (.bl b) => if b = true then k (.val (.bl true)) env1 else n ex env1 k
  | _ => False
def uNotV (m : UM) : UM := fun ex env k => m ex env fun y env1 => match y with
  | .val (.bl b) => k (.val (.bl (!b))) env1
  | _ => False
def uChain (g g' : G2) (ma mb mc : UM) : UM := fun ex env k => ma ex env fun y env1 => mb ex env1 fun z env2 => vw env2 y fun u => vw env2 z fun w => g u w fun r => match r with
  | .bl b => if b = true then mc ex env2 fun x env3 => vw env3 z fun w' => vw env3 x fun t => g' w' t fun r => k (.val r) env3 else k (.val (.bl false)) env2
  | _ => False

section
variable {X : Cx} {c : Uc} {e a b d : Expr} {ma mb mc m n : UM} {pos : Pos}
theorem ue_var {i : Nat} {x : Str} (h : PE X (.Name x pos) (tVar i)) : PE X (.Name x pos) (tm c (uVar i)) := PE.imp h fun σ H Q ⟨F, env, ex, k, R, hm, hw, hk⟩ => by
  unfold uVar at hm
  cases e : env[i]? with
  | none => rw [e] at hm; exact hm.elim
  | some s =>
    rw [e] at hm
    obtain ⟨o, h1, h2⟩ := R.slot i _ e
    cases s with
    | no => exact hm.elim
    | mk _ _ => exact hm.elim
    | pas _ => exact hm.elim
    | val u =>
      cases o with
      | none => exact h2.elim
      | some v => exact ⟨v, h1, hk F H env v (.val u) (.refl R.pool) R h2 hm⟩
    | own xs =>
      cases o with
      | none => exact h2.elim
      | some v => exact ⟨v, h1, hk F H env v (.own i) (.refl R.pool) R h1 hm⟩
theorem ue_c {v : V} {u : U} (h : PE X e (tC v)) (r : ∀ W F, rep W F v u) : PE X e (tm c (uC u)) := PE.imp h fun σ H Q ⟨F, env, ex, k, R, hm, hw, hk⟩ => hk F H env v (.val u) (.refl R.pool) R (r _ _) hm
theorem ue_int {i : Int} {j} : PE X (.Constant (.int i) j pos) (tm c (uC (.int i))) := ue_c pe_int fun _ _ => .int _
theorem ue_bl {b : Bool} {j} : PE X (.Constant (.bool b) j pos) (tm c (uC (.bl b))) := ue_c pe_bl fun _ _ => .bl _
theorem ue_non {j} : PE X (.Constant .none j pos) (tm c (uC .non)) := ue_c pe_non fun _ _ => .non
theorem ue_str {z : Str} {j} : PE X (.Constant (.str z) j pos) (tm c (uC (.str z))) := ue_c pe_str fun _ _ => .str _
theorem tm_op {r : R2} {g : G2} (sd : Snd2 c.W r g) (σ : List (Option V)) (H : Hp) (Q : VK) (h : tm c (uOp g ma mb) σ H Q) : tOp r (tm c ma) (tm c mb) σ H Q := by
  obtain ⟨F, env, ex, k, R, hm, hw, hk⟩ := h
  refine ⟨F, env, ex, _, R, hm, hw, fun F1 H1 env1 v1 y1 s1 R1 o1 h1 => ⟨F1, env1, ex, _, R1, h1, hw, fun F2 H2 env2 v2 y2 s2 R2 o2 h2 => ?_⟩⟩
  obtain ⟨u, e1, h2⟩ := vw_elim h2
  obtain ⟨w, e2, h2⟩ := vw_elim h2
  refine sd F2 H2 v1 u v2 w _ Q R2.pool (R2.view (o1.mono s2.same) e1) (R2.view o2 e2) h2 fun F3 H3 v z x3 rz hz => ?_
  exact hk F3 H3 env2 v (.val z) ((s1.trans s2).ext x3) (R2.ext x3) rz hz
theorem ue_op {op : Operator} {r : R2} {g : G2} (ho : OpR X (binaryOp op) r) (sd : Snd2 c.W r g) (ha : PE X a (tm c ma)) (hb : PE X b (tm c mb)) : PE X (.BinOp a op b pos) (tm c (uOp g ma mb)) :=
  PE.imp (pe_op ho ha hb) (tm_op sd)
theorem ue_cmp {op : CmpOp} {r : R2} {g : G2} (ho : OpR X (compareOp op) r) (sd : Snd2 c.W r g) (ha : PE X a (tm c ma)) (hb : PE X b (tm c mb)) (hm : behindInMarks op b = false) : PE X (.Compare a [op] [b] pos) (tm c (uOp g ma mb)) :=
  PE.imp (pe_cmpR ho ha hb hm) (tm_op sd)
theorem ue_ix {r : R2} {g : G2} (hr : IxR X r) (sd : Snd2 c.W r g) (ha : PE X a (tm c ma)) (hb : PE X b (tm c mb)) (hs : PlainIx b) : PE X (.Subscript a b pos) (tm c (uOp g ma mb)) :=
  PE.imp (pe_ix hr ha hb hs) (tm_op sd)
theorem ue_un {op : UnaryOp} {r : V → Hp → VK → Prop} {g : G1} (ho : UnR X (unaryOp op) r) (sd : Snd1 c.W r g) (ha : PE X a (tm c ma)) : PE X (.UnaryOp op a pos) (tm c (uUn g ma)) :=
  PE.imp (pe_un ho ha) fun σ H Q ⟨F, env, ex, k, R, hm, hw, hk⟩ => by
    refine ⟨F, env, ex, _, R, hm, hw, fun F1 H1 env1 v1 y1 s1 R1 o1 h1 => ?_⟩
    obtain ⟨u, e1, h1⟩ := vw_elim h1
    exact sd F1 H1 v1 u _ Q R1.pool (R1.view o1 e1) h1 fun F3 H3 v z x3 rz hz => hk F3 H3 env1 v (.val z) (s1.ext x3) (R1.ext x3) rz hz
theorem ue_chain {op op' : CmpOp} {r r' : R2} {g g' : G2} (ho : OpR X (compareOp op) r) (sd : Snd2 c.W r g) (ho' : OpR X (compareOp op') r') (sd' : Snd2 c.W r' g') (ha : PE X a (tm c ma)) (hb : PE X b (tm c mb)) (hc : PE X d (tm c mc))
    (hm : lastMarks [op, op'] [b, d] = false := by with_unfolding_all rfl) : PE X (.Compare a [op, op'] [b, d] pos) (tm c (uChain g g' ma mb mc)) :=
  PE.imp (pe_chain ho ho' ha hb hc hm) fun σ H Q ⟨F, env, ex, k, R, hm, hw, hk⟩ => by
    refine ⟨F, env, ex, _, R, hm, hw, fun F1 H1 env1 v1 y1 s1 R1 o1 h1 => ⟨F1, env1, ex, _, R1, h1, hw, fun F2 H2 env2 v2 y2 s2 R2 o2 h2 => ?_⟩⟩
    obtain ⟨u, e1, h2⟩ := vw_elim h2
    obtain ⟨w, e2, h2⟩ := vw_elim h2
    refine sd F2 H2 v1 u v2 w _ _ R2.pool (R2.view (o1.mono s2.same) e1) (R2.view o2 e2) h2 fun F3 H3 v z x3 rz hz => ?_
    cases z with
    | bl q =>
      cases rz
      refine ⟨q, rfl, ?_⟩
      cases q with
      | false =>
        replace hz := ofF hz
        rw [if_neg Bool.false_ne_true]
        exact hk F3 H3 env2 _ (.val (.bl false)) ((s1.trans s2).ext x3) (R2.ext x3) (.bl _) hz
      | true =>
        replace hz := ofT hz
        rw [if_pos rfl]
        refine ⟨F3, env2, ex, _, R2.ext x3, hz, hw, fun F4 H4 env4 v4 y4 s4 R4 o4 h4 => ?_⟩
        obtain ⟨w', e3, h4⟩ := vw_elim h4
        obtain ⟨t, e4, h4⟩ := vw_elim h4
        refine sd' F4 H4 v2 w' v4 t _ Q R4.pool (R4.view ((o2.mono x3.same).mono s4.same) e3) (R4.view o4 e4) h4 fun F5 H5 v z x5 rz hz => ?_
        exact hk F5 H5 env4 v (.val z) ((((s1.trans s2).ext x3).trans s4).ext x5) (R4.ext x5) rz hz
    | _ => exact hz.elim
end

section
variable {X : Cx} {c : Uc} {e a b d : Expr} {es : List Expr} {ma mb mc m n : UM} {ms : UA} {pos : Pos} {mt nt : UT}
theorem ua_nil : PA X [] (ta c uNil) := PA.imp pa_nil fun σ H Q ⟨F, env, ex, k, R, hm, hw, hk⟩ => hk F H env [] [] (.refl R.pool) R .nil hm
theorem ua_cons (ha : PE X e (tm c m)) (hr : PA X es (ta c ms)) (hs : starEach (e :: es) X.env = (false, eval e X.env) :: starEach es X.env := by rfl) : PA X (e :: es) (ta c (uCons m ms)) :=
  PA.imp (pa_cons ha hr hs) fun σ H Q ⟨F, env, ex, k, R, hm, hw, hk⟩ => by
    refine ⟨F, env, ex, _, R, hm, hw, fun F1 H1 env1 v1 y1 s1 R1 o1 h1 => ⟨F1, env1, ex, _, R1, h1, hw, fun F2 H2 env2 vs ys s2 R2 o2 h2 => ?_⟩⟩
    exact hk F2 H2 env2 _ _ (s1.trans s2) R2 (.cons (o1.mono s2.same) o2) h2
theorem ue_tup {x1} (h : PA X es (ta c ms)) : PE X (.Tuple es x1 pos) (tm c (uTup ms)) := PE.imp (pe_tup h) fun σ H Q ⟨F, env, ex, k, R, hm, hw, hk⟩ => by
  refine ⟨F, env, ex, _, R, hm, hw, fun F1 H1 env1 vs ys s1 R1 o1 h1 => ?_⟩
  obtain ⟨F2, env2, us, s2, R2, r2, hl, h2⟩ := R1.pins o1 h1
  refine ⟨by rw [r2.length]; exact Nat.le_trans hl (by decide), fun p hp => ?_⟩
  have x := Ext.new (o := .tup vs) R2.pool hp
  exact hk _ _ env2 (.ref p) (.val (.tup us)) ((s1.trans s2).ext x) (R2.ext x) (.tup (.inl (.inl upd_same)) (r2.mono x.same)) h2
theorem ue_lst (h : PA X es (ta c ms)) : PE X (.List es pos) (tm c (uLst ms)) := PE.imp (pe_lst h) fun σ H Q ⟨F, env, ex, k, R, hm, hw, hk⟩ => by
  refine ⟨F, env, ex, _, R, hm, hw, fun F1 H1 env1 vs ys s1 R1 o1 h1 => ?_⟩
  obtain ⟨F2, env2, us, s2, R2, r2, hl, h2⟩ := R1.pins o1 h1
  refine ⟨by rw [r2.length]; exact Nat.le_trans hl (by decide), fun p hp => ?_⟩
  have x := Ext.new (o := .lst vs) R2.pool hp
  exact hk _ _ env2 (.ref p) (.val (.lst us)) ((s1.trans s2).ext x) (R2.ext x) (.lst upd_same (r2.mono x.same)) h2
theorem tm_b {r : List V → Hp → VK → Prop} {g : GN} (sd : SndN c.W r g) (σ : List (Option V)) (H : Hp) (Q : VK) (h : tm c (uB g ms) σ H Q) : tCB r (ta c ms) σ H Q := by
  obtain ⟨F, env, ex, k, R, hm, hw, hk⟩ := h
  refine ⟨F, env, ex, _, R, hm, hw, fun F1 H1 env1 vs ys s1 R1 o1 h1 => ?_⟩
  obtain ⟨us, e1, h1⟩ := vws_elim h1
  exact sd F1 H1 vs us _ Q R1.pool (R1.views o1 e1) h1 fun F3 H3 v z x3 rz hz => hk F3 H3 env1 v (.val z) (s1.ext x3) (R1.ext x3) rz hz
theorem ue_callB {id : String} {x : Str} {p : Pos} {r : List V → Hp → VK → Prop} {g : GN} (hc : CallR X (.builtin id) r) (sd : SndN c.W r g) (hg : Gl X x) (hm : X.mg x = none) (hv : bootBuiltins x = some (.builtin id)) (ha : PA X (e :: es) (ta c ms)) (hn : x ≠ "__name__" := by decide) (hdb : (x == ("__debug__" : Str)) = false := by decide)
    (he : starEach (e :: es) X.env = (false, eval e X.env) :: starEach es X.env := by rfl) (hpl : (backTo pos (starEach es X.env)).any (·.1) = false := by rfl) : PE X (.Call (.Name x p) (e :: es) [] pos) (tm c (uB g ms)) :=
  PE.imp (pe_callB hc hg hm hv ha hn hdb he hpl) (tm_b sd)
theorem ue_callTy {T : String} {x : Str} {p : Pos} {r : List V → Hp → VK → Prop} {g : GN} (hc : CallR X (.type T) r) (sd : SndN c.W r g) (hg : Gl X x) (hm : X.mg x = none) (hv : bootBuiltins x = some (.type T)) (ha : PA X (e :: es) (ta c ms)) (hn : x ≠ "__name__" := by decide) (hdb : (x == ("__debug__" : Str)) = false := by decide)
    (he : starEach (e :: es) X.env = (false, eval e X.env) :: starEach es X.env := by rfl) (hpl : (backTo pos (starEach es X.env)).any (·.1) = false := by rfl) : PE X (.Call (.Name x p) (e :: es) [] pos) (tm c (uB g ms)) :=
  PE.imp (pe_callTy hc hg hm hv ha hn hdb he hpl) (tm_b sd)
/-! tests -/
theorem ut_val (h : PE X e (tm c m)) (he : ∀ whole, isTrue e X.env whole = (do let v ← whole; standAt e.pos; holding [v] (truthy v)) := by intro _; rfl) : PT X e (tt c (uVal m)) :=
  PT.imp (pt_val h he) fun σ H Q ⟨F, env, ex, k, R, hm, hw, hk⟩ => by
    refine ⟨F, env, ex, _, R, hm, hw, fun F1 H1 env1 v y s1 R1 o1 h1 => ?_⟩
    match y, o1, h1 with
    | .val (.bl b), o1, h1 => cases o1; exact ⟨b, rfl, hk F1 H1 env1 b s1 R1 h1⟩
theorem ut_cmp {op : CmpOp} {r : R2} {g : G2} (ho : OpR X (compareOp op) r) (sd : Snd2 c.W r g) (ha : PE X a (tm c ma)) (hb : PE X b (tm c mb)) (hm : behindInMarks op b = false) : PT X (.Compare a [op] [b] pos) (tt c (uVal (uOp g ma mb))) :=
  PT.imp (pt_cmpR ho ha hb hm) fun σ H Q ⟨F, env, ex, k, R, hm, hw, hk⟩ => by
    refine tm_op (c := c) (g := g) sd σ H _ ⟨F, env, ex, _, R, hm, hw, fun F1 H1 env1 v y s1 R1 o1 h1 => ?_⟩
    match y, o1, h1 with
    | .val (.bl b), o1, h1 => cases o1; exact ⟨b, rfl, hk F1 H1 env1 b s1 R1 h1⟩
theorem ut_not (h : PT X a (tt c mt)) : PT X (.UnaryOp .Not a pos) (tt c (uNot mt)) := PT.imp (pt_not h) fun σ H Q ⟨F, env, ex, k, R, hm, hw, hk⟩ =>
  ⟨F, env, ex, _, R, hm, hw, fun F1 H1 env1 b s1 R1 h1 => hk F1 H1 env1 (!b) s1 R1 h1⟩
theorem uw_and1 (h : PT X a (tt c mt)) : PW X (.BoolOp .And [a] pos) (tt c mt) := pw_and1 h
theorem uw_or1 (h : PT X a (tt c mt)) : PW X (.BoolOp .Or [a] pos) (tt c mt) := pw_or1 h
theorem uw_and (h : PT X a (tt c mt)) (k : PW X (.BoolOp .And (b :: es) pos) (tt c nt)) : PW X (.BoolOp .And (a :: b :: es) pos) (tt c (uAnd mt nt)) := PW.imp (pw_and h k) fun σ H Q ⟨F, env, ex, k, R, hm, hw, hk⟩ => by
  refine ⟨F, env, ex, _, R, hm, hw, fun F1 H1 env1 b s1 R1 h1 => ?_⟩
  cases b with
  | true =>
    rw [if_pos rfl] at h1 ⊢
    exact ⟨F1, env1, ex, _, R1, h1, hw, fun F2 H2 env2 b s2 R2 h2 => hk F2 H2 env2 b (s1.trans s2) R2 h2⟩
  | false =>
    rw [if_neg Bool.false_ne_true] at h1 ⊢
    exact hk F1 H1 env1 false s1 R1 h1
theorem uw_or (h : PT X a (tt c mt)) (k : PW X (.BoolOp .Or (b :: es) pos) (tt c nt)) : PW X (.BoolOp .Or (a :: b :: es) pos) (tt c (uOr mt nt)) := PW.imp (pw_or h k) fun σ H Q ⟨F, env, ex, k, R, hm, hw, hk⟩ => by
  refine ⟨F, env, ex, _, R, hm, hw, fun F1 H1 env1 b s1 R1 h1 => ?_⟩
  cases b with
  | false =>
    rw [if_neg Bool.false_ne_true] at h1 ⊢
    exact ⟨F1, env1, ex, _, R1, h1, hw, fun F2 H2 env2 b s2 R2 h2 => hk F2 H2 env2 b (s1.trans s2) R2 h2⟩
  | true =>
    rw [if_pos rfl] at h1 ⊢
    exact hk F1 H1 env1 true s1 R1 h1
theorem ue_if (hc : PT X d (tt c mt)) (ha : PE X a (tm c ma)) (hb : PE X b (tm c mb)) : PE X (.IfExp d a b pos) (tm c (uIfE mt ma mb)) := PE.imp (pe_ifExp hc ha hb) fun σ H Q ⟨F, env, ex, k, R, hm, hw, hk⟩ => by
  refine ⟨F, env, ex, _, R, hm, hw, fun F1 H1 env1 b s1 R1 h1 => ?_⟩
  cases b with
  | true =>
    rw [if_pos rfl] at h1 ⊢
    exact ⟨F1, env1, ex, _, R1, h1, hw, fun F2 H2 env2 v y s2 R2 o2 h2 => hk F2 H2 env2 v y (s1.trans s2) R2 o2 h2⟩
  | false =>
    rw [if_neg Bool.false_ne_true] at h1 ⊢
    exact ⟨F1, env1, ex, _, R1, h1, hw, fun F2 H2 env2 v y s2 R2 o2 h2 => hk F2 H2 env2 v y (s1.trans s2) R2 o2 h2⟩
theorem ue_one {op} (h : PE X a (tm c ma)) : PE X (.BoolOp op [a] pos) (tm c ma) := pe_one h
theorem ue_and (ha : PE X a (tm c ma)) (hb : PE X (.BoolOp .And (b :: es) pos) (tm c mb)) : PE X (.BoolOp .And (a :: b :: es) pos) (tm c (uAndV ma mb)) := PE.imp (pe_and ha hb) fun σ H Q ⟨F, env, ex, k, R, hm, hw, hk⟩ => by
  refine ⟨F, env, ex, _, R, hm, hw, fun F1 H1 env1 v y s1 R1 o1 h1 => ?_⟩
  match y, o1, h1 with
  | .val (.bl true), o1, h1 =>
    cases o1
    exact ⟨true, rfl, iteT ⟨F1, env1, ex, _, R1, h1, hw, fun F2 H2 env2 v y s2 R2 o2 h2 => hk F2 H2 env2 v y (s1.trans s2) R2 o2 h2⟩⟩
  | .val (.bl false), o1, h1 =>
    cases o1
    exact ⟨false, rfl, iteF (hk F1 H1 env1 _ (.val (.bl false)) s1 R1 (.bl _) h1)⟩
theorem ue_or (ha : PE X a (tm c ma)) (hb : PE X (.BoolOp .Or (b :: es) pos) (tm c mb)) : PE X (.BoolOp .Or (a :: b :: es) pos) (tm c (uOrV ma mb)) := PE.imp (pe_or ha hb) fun σ H Q ⟨F, env, ex, k, R, hm, hw, hk⟩ => by
  refine ⟨F, env, ex, _, R, hm, hw, fun F1 H1 env1 v y s1 R1 o1 h1 => ?_⟩
  match y, o1, h1 with
  | .val (.bl false), o1, h1 =>
    cases o1
    exact ⟨false, rfl, iteF ⟨F1, env1, ex, _, R1, h1, hw, fun F2 H2 env2 v y s2 R2 o2 h2 => hk F2 H2 env2 v y (s1.trans s2) R2 o2 h2⟩⟩
  | .val (.bl true), o1, h1 =>
    cases o1
    exact ⟨true, rfl, iteT (hk F1 H1 env1 _ (.val (.bl true)) s1 R1 (.bl _) h1)⟩
theorem ue_not (ha : PE X a (tm c ma)) : PE X (.UnaryOp .Not a pos) (tm c (uNotV ma)) := PE.imp (pe_not ha) fun σ H Q ⟨F, env, ex, k, R, hm, hw, hk⟩ => by
  refine ⟨F, env, ex, _, R, hm, hw, fun F1 H1 env1 v y s1 R1 o1 h1 => ?_⟩
  match y, o1, h1 with
  | .val (.bl b), o1, h1 =>
    cases o1
    exact ⟨b, rfl, hk F1 H1 env1 _ (.val (.bl (!b))) s1 R1 (.bl _) h1⟩
end
end UL

namespace UL
open PySem PySem.Spec PyProof.Rows L2
/-! ### slots set -/
section
variable {c : Uc} {F H : Hp} {σ : List (Option V)} {env : List Slot}
theorem getset {α : Type} {l : List α} {i j : Nat} {a b : α} (h : (l.set i a)[j]? = some b) : (i = j ∧ b = a) ∨ (i ≠ j ∧ l[j]? = some b) := by
  rw [List.getElem?_set] at h
  by_cases hij : i = j
  · rw [if_pos hij] at h
    by_cases hl : i < l.length
    · rw [if_pos hl] at h; cases h; exact .inl ⟨hij, rfl⟩
    · rw [if_neg hl] at h; cases h
  · rw [if_neg hij] at h; exact .inr ⟨hij, h⟩
theorem lt_of_some {α : Type} {l : List α} {i : Nat} {a : α} (h : l[i]? = some a) : i < l.length := (List.getElem?_eq_some_iff.mp h).1
theorem Rel.set {v : V} {u : U} (R : Rel c F σ env H) (i : Nat) (r : rep c.W F v u) : Rel c F (σ.set i (some v)) (env.set i (.val u)) H where
  pool := R.pool
  base := R.base
  len := by rw [List.length_set, List.length_set]; exact R.len
  slot := fun j s e => by
    rcases getset e with ⟨rfl, rfl⟩ | ⟨hij, e⟩
    · have hl : i < σ.length := by have := lt_of_some e; rw [List.length_set] at this; rw [R.len]; exact this
      exact ⟨some v, by rw [List.getElem?_set, if_pos rfl, if_pos hl], r⟩
    · obtain ⟨o, h1, h2⟩ := R.slot j s e
      exact ⟨o, by rw [List.getElem?_set, if_neg hij]; exact h1, h2⟩
  dist := fun j k p xs ys hjk ej ek sj sk => by
    rcases getset ej with ⟨_, z⟩ | ⟨h1, ej⟩
    · cases z
    · rcases getset ek with ⟨_, z⟩ | ⟨h2, ek⟩
      · cases z
      · rw [List.getElem?_set, if_neg h1] at sj
        rw [List.getElem?_set, if_neg h2] at sk
        exact R.dist j k p xs ys hjk ej ek sj sk
  one := fun j cn fs e => by
    rcases getset e with ⟨_, z⟩ | ⟨_, e⟩
    · cases z
    · exact R.one j cn fs e
  fp := R.fpNext rfl rfl (fun j t ej => by obtain ⟨h1, h2⟩ := pas_set (by intro t z; cases z) ej; exact ⟨h2, set_at h1⟩) (Same.refl F) (fun _ _ z _ _ => z) (fun _ _ z => .inl z) fun j xs b ej sj => by
    obtain ⟨h1, h2⟩ := own_set (by intro t z; cases z) ej
    rw [set_at h1] at sj
    exact .inr ⟨j, xs, h2, sj⟩
/-- a slot is forgotten -/
theorem Rel.drop (R : Rel c F σ env H) (i : Nat) (v : Option V) : Rel c F (σ.set i v) (env.set i .no) H where
  pool := R.pool
  base := R.base
  len := by rw [List.length_set, List.length_set]; exact R.len
  slot := fun j s e => by
    rcases getset e with ⟨rfl, rfl⟩ | ⟨hij, e⟩
    · have hl : i < σ.length := by have := lt_of_some e; rw [List.length_set] at this; rw [R.len]; exact this
      exact ⟨v, by rw [List.getElem?_set, if_pos rfl, if_pos hl], by cases v <;> trivial⟩
    · obtain ⟨o, h1, h2⟩ := R.slot j s e
      exact ⟨o, by rw [List.getElem?_set, if_neg hij]; exact h1, h2⟩
  dist := fun j k p xs ys hjk ej ek sj sk => by
    rcases getset ej with ⟨_, z⟩ | ⟨h1, ej⟩
    · cases z
    · rcases getset ek with ⟨_, z⟩ | ⟨h2, ek⟩
      · cases z
      · rw [List.getElem?_set, if_neg h1] at sj
        rw [List.getElem?_set, if_neg h2] at sk
        exact R.dist j k p xs ys hjk ej ek sj sk
  one := fun j cn fs e => by
    rcases getset e with ⟨_, z⟩ | ⟨_, e⟩
    · cases z
    · exact R.one j cn fs e
  fp := R.fpNext rfl rfl (fun j t ej => by obtain ⟨h1, h2⟩ := pas_set (by intro t z; cases z) ej; exact ⟨h2, set_at h1⟩) (Same.refl F) (fun _ _ z _ _ => z) (fun _ _ z => .inl z) fun j xs b ej sj => by
    obtain ⟨h1, h2⟩ := own_set (by intro t z; cases z) ej
    rw [set_at h1] at sj
    exact .inr ⟨j, xs, h2, sj⟩
end
/-! ### new lists -/
/-- a list that is tracked at p beside the pool, no slot's -/
structure FL (c : Uc) (F : Hp) (σ : List (Option V)) (env : List Slot) (H : Hp) (p : Addr) (vs : List V) (us : List U) : Prop where
  R : Rel c F σ env H
  fp : F p = none
  hp : c.H0 p = none
  at_ : H p = some (.lst vs)
  its : reps c.W F vs us
  ns : ∀ a cc, c.W.st = some (a, cc) → p ≠ a
  off : ∀ (j : Nat) ys, env[j]? = some (.own ys) → σ[j]? ≠ some (some (.ref p))
  fpx : FtOk c F σ env H [p]
abbrev UF := XC → List Slot → (List U → List Slot → Prop) → Prop
def tf (c : Uc) (m : UF) : TE := fun σ H Q => ∃ F env ex k, Rel c F σ env H ∧ m ex env k ∧ Wants c ex ∧
  ∀ F' H' env' p vs us, H p = none → Stp c σ F env H F' env' H' → FL c F' σ env' H' p vs us → k us env' → Q (.ref p) H'
def uOfF (m : UF) : UM := fun ex env k => m ex env fun us env1 => k (.val (.lst us)) env1
section
variable {c : Uc} {F H : Hp} {σ : List (Option V)} {env : List Slot}
theorem Rel.freshH0 {p : Addr} (R : Rel c F σ env H) (hp : H p = none) : c.H0 p = none := by
  cases q : c.H0 p with
  | none => rfl
  | some o => rw [R.base.keep p o (R.pool.neStore hp) q] at hp; cases hp
theorem Rel.alloc {p : Addr} {vs : List V} {us : List U} (R : Rel c F σ env H) (hp : H p = none) (r : reps c.W F vs us) : FL c F σ env (upd H p (.lst vs)) p vs us where
  fp := by
    cases q : F p with
    | none => rfl
    | some o => rw [R.pool.sub _ _ q] at hp; cases hp
  hp := R.freshH0 hp
  at_ := upd_same
  its := r
  ns := R.pool.neStore hp
  off := fun j ys e z => by
    obtain ⟨o, h1, h2⟩ := R.slot j _ e
    rw [z] at h1; cases h1
    obtain ⟨q, ws, hq, _, _, h5, _⟩ := h2
    cases hq
    rw [hp] at h5; cases h5
  fpx := R.fpNext' R.fp rfl rfl (fun i t e => ⟨e, rfl⟩) (Same.refl F) (fun b o e _ _ _ => by rw [upd_ne (ne_of_none e hp)]; exact e) (fun _ _ z => .inl z) (fun j xs b ej sj => .inr (.inl ⟨j, xs, ej, sj⟩)) fun b z => .inr (by rw [List.mem_singleton] at z; rw [z]; exact hp)
  R := {
    fp := R.fpNext rfl rfl (fun i t e => ⟨e, rfl⟩) (Same.refl F) (fun b o e _ _ => by rw [upd_ne (ne_of_none e hp)]; exact e) (fun _ _ z => .inl z) fun j xs b ej sj => .inr ⟨j, xs, ej, sj⟩
    pool := ⟨fun b o e => by rw [upd_ne (ne_of_none (R.pool.sub b o e) hp)]; exact R.pool.sub b o e, fun a cc e => by
      obtain ⟨h1, h2, q, st, ct, hd, lf, h3, h4⟩ := R.pool.sto a cc e
      exact ⟨h1, h2, q, st, ct, hd, lf, h3, by rw [upd_ne (R.pool.neStore hp a cc e).symm]; exact h4⟩⟩
    base := ⟨fun b o n e => by rw [upd_ne (ne_of_none (R.base.keep b o n e) hp)]; exact R.base.keep b o n e, R.base.pool, R.base.new⟩
    len := R.len
    slot := fun j s e => by
      obtain ⟨o, h1, h2⟩ := R.slot j s e
      refine ⟨o, h1, ?_⟩
      cases s with
      | no => cases o <;> trivial
      | val u => cases o with
        | none => exact h2.elim
        | some v => exact h2
      | own xs =>
        cases o with
        | none => exact h2.elim
        | some v =>
          obtain ⟨q, ws, rfl, h3, h4, h5, h6⟩ := h2
          exact ⟨q, ws, rfl, h3, h4, by rw [upd_ne (ne_of_none h5 hp)]; exact h5, h6⟩
      | mk cn fs =>
        cases o with
        | none => exact h2.elim
        | some v =>
          obtain ⟨q, C, dx, ws, rfl, h0, h3, h4, h5, h6⟩ := h2
          exact ⟨q, C, dx, ws, rfl, h0, h3, h4, by rw [upd_ne (ne_of_none h5 hp)]; exact h5, h6⟩
      | pas t =>
        cases o with
        | none => exact h2.elim
        | some v => trivial
    dist := R.dist
    one := R.one }
/-- .. into the pool -/
theorem FL.freeze {p : Addr} {vs : List V} {us : List U} (L : FL c F σ env H p vs us) : Same F (upd F p (.lst vs)) ∧ Rel c (upd F p (.lst vs)) σ env H ∧ rep c.W (upd F p (.lst vs)) (.ref p) (.lst us) := by
  have sm : Same F (upd F p (.lst vs)) := fun b u z => by rw [upd_ne (ne_of_none z L.fp)]; exact z
  refine ⟨sm, ⟨⟨fun b u z => ?_, fun a cc z => ?_⟩, ⟨L.R.base.keep, L.R.base.pool.trans sm, fun b u z => ?_⟩, L.R.len, fun j s ej => ?_, L.R.dist, L.R.one,
    L.R.fpNext' L.fpx rfl rfl (fun i t e => ⟨e, rfl⟩) sm (fun _ _ e _ _ _ => e) (fun b u z => by
      by_cases hb : b = p
      · exact .inr (.inr (.inr (List.mem_singleton.mpr hb)))
      · rw [upd_ne hb] at z; exact .inl z) (fun j xs b ej sj => .inr (.inl ⟨j, xs, ej, sj⟩)) fun b z => by simp at z⟩, .lst upd_same (L.its.mono sm)⟩
  · by_cases hb : b = p
    · subst hb; rw [upd_same] at z; cases z; exact L.at_
    · rw [upd_ne hb] at z; exact L.R.pool.sub b u z
  · obtain ⟨k1, ⟨ns, k2⟩, k3⟩ := L.R.pool.sto a cc z
    exact ⟨by rw [upd_ne (L.ns a cc z).symm]; exact k1, ⟨ns, sm _ _ k2⟩, k3⟩
  · by_cases hb : b = p
    · right; rw [hb]; exact L.hp
    · rw [upd_ne hb] at z; exact L.R.base.new b u z
  · obtain ⟨q, k1, k2⟩ := L.R.slot j s ej
    refine ⟨q, k1, ?_⟩
    cases s with
    | no => cases q <;> trivial
    | val u =>
      cases q with
      | none => exact k2.elim
      | some w => exact rep.mono sm k2
    | own ys =>
      cases q with
      | none => exact k2.elim
      | some w =>
        obtain ⟨p', vs', rfl, g3, g4, g5, g6, g7⟩ := k2
        have ne : p' ≠ p := fun z => L.off j ys ej (by rw [k1, z])
        exact ⟨p', vs', rfl, by rw [upd_ne ne]; exact g3, g4, g5, g6.mono sm, g7⟩
    | mk cn fs =>
      cases q with
      | none => exact k2.elim
      | some w =>
        obtain ⟨p', C, dx, fvs, rfl, g0, g3, g4, g5, g6, g7⟩ := k2
        have ne : p' ≠ p := ne_of g5 L.at_ (by intro z; cases z)
        exact ⟨p', C, dx, fvs, rfl, g0, by rw [upd_ne ne]; exact g3, g4, g5, g6.mono sm, g7⟩
    | pas t =>
      cases q with
      | none => exact k2.elim
      | some w => trivial
/-- .. a slot's own -/
theorem FL.setOwn {p : Addr} {vs : List V} {us : List U} (L : FL c F σ env H p vs us) (i : Nat) : Rel c F (σ.set i (some (.ref p))) (env.set i (.own us)) H where
  pool := L.R.pool
  base := L.R.base
  len := by rw [List.length_set, List.length_set]; exact L.R.len
  slot := fun j s e => by
    rcases getset e with ⟨rfl, rfl⟩ | ⟨hij, e⟩
    · have hl : i < σ.length := by have := lt_of_some e; rw [List.length_set] at this; rw [L.R.len]; exact this
      exact ⟨some (.ref p), by rw [List.getElem?_set, if_pos rfl, if_pos hl], p, vs, rfl, L.fp, L.hp, L.at_, L.its, L.ns⟩
    · obtain ⟨o, h1, h2⟩ := L.R.slot j s e
      exact ⟨o, by rw [List.getElem?_set, if_neg hij]; exact h1, h2⟩
  dist := fun j k q xs ys hjk ej ek sj sk => by
    rcases getset ej with ⟨rfl, z⟩ | ⟨h1, ej⟩
    · rcases getset ek with ⟨rfl, _⟩ | ⟨h2, ek⟩
      · exact hjk rfl
      · rw [List.getElem?_set, if_neg h2] at sk
        have hl : i < σ.length := by
          have := lt_of_some sj
          rw [List.length_set] at this; exact this
        rw [List.getElem?_set, if_pos rfl, if_pos hl] at sj
        cases sj
        exact L.off k ys ek sk
    · rw [List.getElem?_set, if_neg h1] at sj
      rcases getset ek with ⟨rfl, _⟩ | ⟨h2, ek⟩
      · have hl : i < σ.length := by
          have := lt_of_some sk
          rw [List.length_set] at this; exact this
        rw [List.getElem?_set, if_pos rfl, if_pos hl] at sk
        cases sk
        exact L.off j xs ej sj
      · rw [List.getElem?_set, if_neg h2] at sk
        exact L.R.dist j k q xs ys hjk ej ek sj sk
  one := fun j cn fs e => by
    rcases getset e with ⟨_, z⟩ | ⟨_, e⟩
    · cases z
    · exact L.R.one j cn fs e
  fp := L.R.fpNext' L.fpx rfl rfl (fun j t ej => by obtain ⟨h1, h2⟩ := pas_set (by intro t z; cases z) ej; exact ⟨h2, set_at h1⟩) (Same.refl F) (fun _ _ z _ _ _ => z) (fun _ _ z => .inl z) (fun j xs b ej sj => by
    rcases getset ej with ⟨rfl, _⟩ | ⟨h1, h2⟩
    · have hl : i < σ.length := by
        have := lt_of_some sj
        rw [List.length_set] at this; exact this
      rw [List.getElem?_set, if_pos rfl, if_pos hl] at sj
      cases sj
      exact .inr (.inr (List.mem_singleton.mpr rfl))
    · rw [set_at h1] at sj
      exact .inr (.inl ⟨j, xs, h2, sj⟩)) fun b z => by simp at z
end
section
variable {X : Cx} {c : Uc} {e a b d : Expr} {es : List Expr} {ma mb m : UM} {mf : UF} {ms : UA} {pos : Pos}
theorem ue_f (h : PE X e (tf c mf)) : PE X e (tm c (uOfF mf)) := PE.imp h fun σ H Q ⟨F, env, ex, k, R, hm, hw, hk⟩ => by
  refine ⟨F, env, ex, _, R, hm, hw, fun F1 H1 env1 p vs us hp s1 L h1 => ?_⟩
  obtain ⟨s2, R2, r2⟩ := L.freeze
  exact hk _ H1 env1 (.ref p) (.val (.lst us)) (s1.pool hp s2 (fun b o z => by by_cases e : b = p; exact .inr e; rw [upd_ne e] at z; exact .inl z) R2.pool) R2 r2 h1
def fLst (ms : UA) : UF := fun ex env k => ms ex env fun ys env1 => pins env1 ys fun us env2 => us.length ≤ 1000000 ∧ k us env2
theorem uf_lst (h : PA X es (ta c ms)) : PE X (.List es pos) (tf c (fLst ms)) := PE.imp (pe_lst h) fun σ H Q ⟨F, env, ex, k, R, hm, hw, hk⟩ => by
  refine ⟨F, env, ex, _, R, hm, hw, fun F1 H1 env1 vs ys s1 R1 o1 h1 => ?_⟩
  obtain ⟨F2, env2, us, s2, R2, r2, hl, h2⟩ := R1.pins o1 h1
  refine ⟨by rw [r2.length]; exact Nat.le_trans hl (by decide), fun p hp => ?_⟩
  exact hk F2 _ env2 p vs us ((s1.trans s2).liv _ hp) ((s1.trans s2).new1 hp) (R2.alloc hp r2) h2
/-- rules that make a new list -/
abbrev L1 := U → (List U → Prop) → Prop
abbrev L2' := U → U → (List U → Prop) → Prop
abbrev LN := List U → (List U → Prop) → Prop
def Snd2F (W : Wd) (r : R2) (g : L2') : Prop := ∀ F H x u y w κ Q, Pool W F H → View W F H x u → View W F H y w → g u w κ →
  (∀ p vs zs, H p = none → reps W F vs zs → κ zs → Q (.ref p) (upd H p (.lst vs))) → r x y H Q
def SndNF (W : Wd) (r : List V → Hp → VK → Prop) (g : LN) : Prop := ∀ F H vs us κ Q, Pool W F H → Views W F H vs us → g us κ →
  (∀ p vs zs, H p = none → reps W F vs zs → κ zs → Q (.ref p) (upd H p (.lst vs))) → r vs H Q
def fOp (g : L2') (ma mb : UM) : UF := fun ex env k => ma ex env fun y env1 => mb ex env1 fun z env2 => vw env2 y fun u => vw env2 z fun w => g u w fun r => k r env2
def fB (g : LN) (ms : UA) : UF := fun ex env k => ms ex env fun ys env1 => vws env1 ys fun us => g us fun r => k r env1
theorem uf_op {op : Operator} {r : R2} {g : L2'} (ho : OpR X (binaryOp op) r) (sd : Snd2F c.W r g) (ha : PE X a (tm c ma)) (hb : PE X b (tm c mb)) : PE X (.BinOp a op b pos) (tf c (fOp g ma mb)) :=
  PE.imp (pe_op ho ha hb) fun σ H Q ⟨F, env, ex, k, R, hm, hw, hk⟩ => by
    refine ⟨F, env, ex, _, R, hm, hw, fun F1 H1 env1 v1 y1 s1 R1 o1 h1 => ⟨F1, env1, ex, _, R1, h1, hw, fun F2 H2 env2 v2 y2 s2 R2 o2 h2 => ?_⟩⟩
    obtain ⟨u, e1, h2⟩ := vw_elim h2
    obtain ⟨w, e2, h2⟩ := vw_elim h2
    exact sd F2 H2 v1 u v2 w _ Q R2.pool (R2.view (o1.mono s2.same) e1) (R2.view o2 e2) h2 fun p vs zs hp r3 hz => hk F2 _ env2 p vs zs ((s1.trans s2).liv _ hp) ((s1.trans s2).new1 hp) (R2.alloc hp r3) hz
theorem tm_bF {r : List V → Hp → VK → Prop} {g : LN} (sd : SndNF c.W r g) (σ : List (Option V)) (H : Hp) (Q : VK) (h : tf c (fB g ms) σ H Q) : tCB r (ta c ms) σ H Q := by
  obtain ⟨F, env, ex, k, R, hm, hw, hk⟩ := h
  refine ⟨F, env, ex, _, R, hm, hw, fun F1 H1 env1 vs ys s1 R1 o1 h1 => ?_⟩
  obtain ⟨us, e1, h1⟩ := vws_elim h1
  exact sd F1 H1 vs us _ Q R1.pool (R1.views o1 e1) h1 fun p vs zs hp r3 hz => hk F1 _ env1 p vs zs (s1.liv _ hp) (s1.new1 hp) (R1.alloc hp r3) hz
theorem uf_callB {id : String} {x : Str} {p : Pos} {r : List V → Hp → VK → Prop} {g : LN} (hc : CallR X (.builtin id) r) (sd : SndNF c.W r g) (hg : Gl X x) (hm : X.mg x = none) (hv : bootBuiltins x = some (.builtin id)) (ha : PA X (e :: es) (ta c ms)) (hn : x ≠ "__name__" := by decide) (hdb : (x == ("__debug__" : Str)) = false := by decide)
    (he : starEach (e :: es) X.env = (false, eval e X.env) :: starEach es X.env := by rfl) (hpl : (backTo pos (starEach es X.env)).any (·.1) = false := by rfl) : PE X (.Call (.Name x p) (e :: es) [] pos) (tf c (fB g ms)) :=
  PE.imp (pe_callB hc hg hm hv ha hn hdb he hpl) (tm_bF sd)
theorem uf_callTy {T : String} {x : Str} {p : Pos} {r : List V → Hp → VK → Prop} {g : LN} (hc : CallR X (.type T) r) (sd : SndNF c.W r g) (hg : Gl X x) (hm : X.mg x = none) (hv : bootBuiltins x = some (.type T)) (ha : PA X (e :: es) (ta c ms)) (hn : x ≠ "__name__" := by decide) (hdb : (x == ("__debug__" : Str)) = false := by decide)
    (he : starEach (e :: es) X.env = (false, eval e X.env) :: starEach es X.env := by rfl) (hpl : (backTo pos (starEach es X.env)).any (·.1) = false := by rfl) : PE X (.Call (.Name x p) (e :: es) [] pos) (tf c (fB g ms)) :=
  PE.imp (pe_callTy hc hg hm hv ha hn hdb he hpl) (tm_bF sd)
/-! slices -/
def UO := XC → List Slot → (Option Int → List Slot → Prop) → Prop
def to (c : Uc) (m : UO) : TO := fun σ H Q => ∃ F env ex k, Rel c F σ env H ∧ m ex env k ∧ Wants c ex ∧
  ∀ F' H' env' o, Stp c σ F env H F' env' H' → Rel c F' σ env' H' → k o env' → Q o H'
def oNone : UO := fun _ env k => k none env
def oSome (m : UM) : UO := fun ex env k => m ex env fun y env1 => match y with
  | .val (.int i) => k (some i) env1
  | _ => False
theorem PO.imp {X : Cx} {e : Option Expr} {t t' : TO} (h : PO X e t) (k : ∀ σ H Q, t' σ H Q → t σ H Q) : PO X e t' := ⟨fun pins s σ H Q I q => h.run pins s σ H Q I (k σ H Q q)⟩
theorem uo_none : PO X none (to c oNone) := PO.imp po_none fun σ H Q ⟨F, env, ex, k, R, hm, hw, hk⟩ => hk F H env none (.refl R.pool) R hm
theorem uo_some (h : PE X e (tm c m)) : PO X (some e) (to c (oSome m)) := PO.imp (po_some h) fun σ H Q ⟨F, env, ex, k, R, hm, hw, hk⟩ => by
  refine ⟨F, env, ex, _, R, hm, hw, fun F1 H1 env1 v y s1 R1 o1 h1 => ?_⟩
  match y, o1, h1 with
  | .val (.int i), o1, h1 => cases o1; exact ⟨i, rfl, hk F1 H1 env1 (some i) s1 R1 h1⟩
def Snd3 (W : Wd) (r : V → Option Int → Option Int → Hp → VK → Prop) (g : U → Option Int → Option Int → (U → Prop) → Prop) : Prop := ∀ F H x u lo hi κ Q, Pool W F H → View W F H x u → g u lo hi κ →
  (∀ F' H' v z, Ext W F H F' H' → rep W F' v z → κ z → Q v H') → r x lo hi H Q
def Snd3F (W : Wd) (r : V → Option Int → Option Int → Hp → VK → Prop) (g : U → Option Int → Option Int → (List U → Prop) → Prop) : Prop := ∀ F H x u lo hi κ Q, Pool W F H → View W F H x u → g u lo hi κ →
  (∀ p vs zs, H p = none → reps W F vs zs → κ zs → Q (.ref p) (upd H p (.lst vs))) → r x lo hi H Q
def uSl (g : U → Option Int → Option Int → (U → Prop) → Prop) (m : UM) (l h : UO) : UM := fun ex env k => m ex env fun y env1 => l ex env1 fun lo env2 => h ex env2 fun hi env3 => vw env3 y fun u => g u lo hi fun r => k (.val r) env3
def fSl (g : U → Option Int → Option Int → (List U → Prop) → Prop) (m : UM) (l h : UO) : UF := fun ex env k => m ex env fun y env1 => l ex env1 fun lo env2 => h ex env2 fun hi env3 => vw env3 y fun u => g u lo hi fun r => k r env3
theorem ue_slice {lo hi : Option Expr} {p2 : Pos} {r : V → Option Int → Option Int → Hp → VK → Prop} {g : U → Option Int → Option Int → (U → Prop) → Prop} {ml mh : UO} (hr : SlR X r) (sd : Snd3 c.W r g) (he : PE X e (tm c m)) (hl : PO X lo (to c ml)) (hu : PO X hi (to c mh)) :
    PE X (.Subscript e (.Slice lo hi none p2) pos) (tm c (uSl g m ml mh)) := PE.imp (pe_slice hr he hl hu) fun σ H Q ⟨F, env, ex, k, R, hm, hw, hk⟩ => by
  refine ⟨F, env, ex, _, R, hm, hw, fun F1 H1 env1 v y s1 R1 o1 h1 => ⟨F1, env1, ex, _, R1, h1, hw, fun F2 H2 env2 l s2 R2 h2 => ⟨F2, env2, ex, _, R2, h2, hw, fun F3 H3 env3 h s3 R3 h3 => ?_⟩⟩⟩
  obtain ⟨u, e1, h3⟩ := vw_elim h3
  exact sd F3 H3 v u l h _ Q R3.pool (R3.view (o1.mono (s2.trans s3).same) e1) h3 fun F4 H4 w z x4 rz hz => hk F4 H4 env3 w (.val z) (((s1.trans s2).trans s3).ext x4) (R3.ext x4) rz hz
theorem uf_slice {lo hi : Option Expr} {p2 : Pos} {r : V → Option Int → Option Int → Hp → VK → Prop} {g : U → Option Int → Option Int → (List U → Prop) → Prop} {ml mh : UO} (hr : SlR X r) (sd : Snd3F c.W r g) (he : PE X e (tm c m)) (hl : PO X lo (to c ml)) (hu : PO X hi (to c mh)) :
    PE X (.Subscript e (.Slice lo hi none p2) pos) (tf c (fSl g m ml mh)) := PE.imp (pe_slice hr he hl hu) fun σ H Q ⟨F, env, ex, k, R, hm, hw, hk⟩ => by
  refine ⟨F, env, ex, _, R, hm, hw, fun F1 H1 env1 v y s1 R1 o1 h1 => ⟨F1, env1, ex, _, R1, h1, hw, fun F2 H2 env2 l s2 R2 h2 => ⟨F2, env2, ex, _, R2, h2, hw, fun F3 H3 env3 h s3 R3 h3 => ?_⟩⟩⟩
  obtain ⟨u, e1, h3⟩ := vw_elim h3
  exact sd F3 H3 v u l h _ Q R3.pool (R3.view (o1.mono (s2.trans s3).same) e1) h3 fun p vs zs hp r3 hz => hk F3 _ env3 p vs zs (((s1.trans s2).trans s3).liv _ hp) (((s1.trans s2).trans s3).new1 hp) (R3.alloc hp r3) hz
end

/-! ### statements -/
def uNext : US := fun d env => d.nx env
def uSeq (m n : US) : US := fun d env => m { d with nx := n d } env
def uCut (m n : US) : US := fun d env => ∃ Mid : List Slot → Prop, m { d with nx := Mid } env ∧ ∀ env', Mid env' → n d env'
def uDrop (m : UM) : US := fun d env => m d.ex env fun _ env1 => d.nx env1
def uRet (m : UM) : US := fun d env => m d.ex env fun y env1 => pin env1 y fun u _ => d.rt u
def uRetF (m : UF) : US := fun d env => m d.ex env fun us _ => d.rt (.lst us)
def uRetO (i : Nat) : US := fun d env => match env[i]? with
  | some (.own xs) => d.rt (.lst xs)
  | _ => False
def uRetN : US := fun d _ => d.rt .non
def uIf (t : UT) (m n : US) : US := fun d env => t d.ex env fun b env1 => if b = true then m d env1 else n d env1
def uSet (i : Nat) (m : UM) : US := fun d env => m d.ex env fun y env1 => pin env1 y fun u env2 => d.nx (env2.set i (.val u))
def uSetO (i : Nat) (m : UF) : US := fun d env => m d.ex env fun us env1 => d.nx (env1.set i (.own us))
section
variable {X : Cx} {c : Uc} {e a b d : Expr} {es : List Expr} {m : UM} {mf : UF} {mt : UT} {st : Stmt} {rest sb : List Stmt} {n n' : US} {pos : Pos}
theorem EndsOk.cut {F : Hp} {d : UEnds} {D : Ends} (E : EndsOk c F d D) {P : List Slot → Prop} {P' : L2.St → Hp → Prop} (h : ∀ F' σ' env' H', Same F F' → Rel c F' σ' env' H' → P env' → P' σ' H') : EndsOk c F { d with nx := P } { D with nx := P' } := ⟨h, E.bk, E.ct, E.rt, E.ex⟩
theorem EndsOk.mono {F F1 : Hp} {d : UEnds} {D : Ends} (E : EndsOk c F d D) (s : Same F F1) : EndsOk c F1 d D :=
  ⟨fun F' σ' env' H' s' => E.nx F' σ' env' H' (s.trans s'), fun F' σ' env' H' s' => E.bk F' σ' env' H' (s.trans s'), fun F' σ' env' H' s' => E.ct F' σ' env' H' (s.trans s'), E.rt, E.ex⟩
theorem us_nil : PSs X [] (ts c uNext) := PSs.imp pss_nil fun D σ H ⟨F, env, d, R, hm, E⟩ => E.nx _ _ _ _ (Same.refl F) R hm
theorem us_cons (h1 : PS X st (ts c n)) (h2 : PSs X rest (ts c n')) : PSs X (st :: rest) (ts c (uSeq n n')) := PSs.imp (pss_cons h1 h2) fun D σ H ⟨F, env, d, R, hm, E⟩ =>
  ⟨F, env, _, R, hm, E.cut fun F' σ' env' H' s' R' h' => ⟨F', env', d, R', h', E.mono s'⟩⟩
theorem us_one (h1 : PS X st (ts c n)) : PSs X [st] (ts c n) := pss_one h1
theorem us_cut (h1 : PS X st (ts c n)) (h2 : PSs X rest (ts c n')) : PSs X (st :: rest) (ts c (uCut n n')) := PSs.imp (Evl.pss_cut h1 h2) fun D σ H ⟨F, env, d, R, ⟨Mid, hm, hn⟩, E⟩ =>
  ⟨fun σ' H' => ∃ F' env', Same F F' ∧ Rel c F' σ' env' H' ∧ Mid env', ⟨F, env, _, R, hm, E.cut fun F' σ' env' H' s' R' h' => ⟨F', env', s', R', h'⟩⟩, fun σ' H' ⟨F', env', s', R', h'⟩ => ⟨F', env', d, R', hn _ h', E.mono s'⟩⟩
theorem us_expr (he : PE X e (tm c m)) (hs : swapsWith e none pos.line X.env = pure false := by rfl) : PS X (.Expr e pos) (ts c (uDrop m)) := PS.imp (ps_expr he hs) fun D σ H ⟨F, env, d, R, hm, E⟩ =>
  ⟨F, env, _, _, R, hm, E.ex, fun F' H' env' v y s' R' o' h' => E.nx _ _ _ _ s'.same R' h'⟩
theorem us_ret (hf : c.fr = false) (he : PE X e (tm c m)) : PS X (.Return (some e) pos) (ts c (uRet m)) := PS.imp (ps_ret he) fun D σ H ⟨F, env, d, R, hm, E⟩ =>
  ⟨F, env, _, _, R, hm, E.ex, fun F' H' env' v y s' R' o' h' => by
    obtain ⟨F2, env2, u, s2, R2, r2, h2⟩ := R'.pin o' h'
    exact E.rt F2 H' v u ⟨R2.base, R2.pool⟩ r2 (fun z => by rw [hf] at z; cases z) h2⟩
theorem us_retF (he : PE X e (tf c mf)) : PS X (.Return (some e) pos) (ts c (uRetF mf)) := PS.imp (ps_ret he) fun D σ H ⟨F, env, d, R, hm, E⟩ =>
  ⟨F, env, _, _, R, hm, E.ex, fun F' H' env' p vs us hp s' L h' => by
    obtain ⟨s2, R2, r2⟩ := L.freeze
    exact E.rt _ H' _ _ ⟨R2.base, R2.pool⟩ r2 (fun _ => ⟨p, vs, us, F', rfl, rfl, L.hp, L.fp, L.at_, L.its, L.R.base, L.R.pool⟩) h'⟩
theorem us_retO {i : Nat} {x : Str} {p : Pos} (h : PE X (.Name x p) (tVar i)) : PS X (.Return (some (.Name x p)) pos) (ts c (uRetO i)) := PS.imp (ps_ret h) fun D σ H ⟨F, env, d, R, hm, E⟩ => by
  unfold uRetO at hm
  cases e : env[i]? with
  | none => rw [e] at hm; exact hm.elim
  | some s =>
    rw [e] at hm
    cases s with
    | no => exact hm.elim
    | val u => exact hm.elim
    | mk _ _ => exact hm.elim
    | pas _ => exact hm.elim
    | own xs =>
      obtain ⟨o, h1, h2⟩ := R.slot i _ e
      cases o with
      | none => exact h2.elim
      | some v =>
        obtain ⟨F', s', R', rp⟩ := R.freeze e h1
        obtain ⟨p, vs, rfl, h3, h4, h5, h6, _⟩ := h2
        exact ⟨_, h1, E.rt F' H _ _ ⟨R'.base, R'.pool⟩ rp (fun _ => ⟨p, vs, xs, F, rfl, rfl, h4, h3, h5, h6, R.base, R.pool⟩) hm⟩
theorem us_retN (hf : c.fr = false) : PS X (.Return none pos) (ts c uRetN) := PS.imp ps_retN fun D σ H ⟨F, env, d, R, hm, E⟩ => E.rt F H .non .non ⟨R.base, R.pool⟩ .non (fun z => by rw [hf] at z; cases z) hm
theorem us_if {t : List Stmt} (hc : PT X d (tt c mt)) (ha : PSs X t (ts c n)) (hb : PSs X sb (ts c n')) : PS X (.If d t sb pos) (ts c (uIf mt n n')) := PS.imp (ps_if hc ha hb) fun D σ H ⟨F, env, d, R, hm, E⟩ =>
  ⟨F, env, _, _, R, hm, E.ex, fun F' H' env' b s' R' h' => by
    cases b with
    | true =>
      rw [if_pos rfl] at h' ⊢
      exact ⟨F', env', d, R', h', E.mono s'.same⟩
    | false =>
      rw [if_neg Bool.false_ne_true] at h' ⊢
      exact ⟨F', env', d, R', h', E.mono s'.same⟩⟩
theorem us_pass : PS X (.Pass pos) (ts c uNext) := PS.imp ps_pass fun D σ H ⟨F, env, d, R, hm, E⟩ => E.nx _ _ _ _ (Same.refl F) R hm
theorem us_never : PS X st (ts c fun _ _ => False) := PS.imp ps_never fun D σ H ⟨F, env, d, R, hm, E⟩ => hm.elim
theorem us_set {i : Nat} {x : Str} {pos' : Pos} (hN : X.N.Nodup) (hi : X.N[i]? = some x) (hx : L2.Loc X.env.scope x) (he : PE X e (tm c m)) (hs : swapsWith e (some (.Name x pos')) pos.line X.env = pure false := by rfl) (hf : X.fn x = true ∨ X.env.scope.names.lookup x = some .local := by first | exact .inl rfl | exact .inr rfl | assumption) :
    PS X (.Assign [.Name x pos'] e pos) (ts c (uSet i m)) := PS.imp (ps_set hN hi hx he hs hf) fun D σ H ⟨F, env, d, R, hm, E⟩ =>
  ⟨F, env, _, _, R, hm, E.ex, fun F' H' env' v y s' R' o' h' => by
    obtain ⟨F2, env2, u, s2, R2, r2, h2⟩ := R'.pin o' h'
    exact E.nx _ _ _ _ (s'.trans s2).same (R2.set i r2) h2⟩
theorem us_setO {i : Nat} {x : Str} {pos' : Pos} (hN : X.N.Nodup) (hi : X.N[i]? = some x) (hx : L2.Loc X.env.scope x) (he : PE X e (tf c mf)) (hs : swapsWith e (some (.Name x pos')) pos.line X.env = pure false := by rfl) (hf : X.fn x = true ∨ X.env.scope.names.lookup x = some .local := by first | exact .inl rfl | exact .inr rfl | assumption) :
    PS X (.Assign [.Name x pos'] e pos) (ts c (uSetO i mf)) := PS.imp (ps_set hN hi hx he hs hf) fun D σ H ⟨F, env, d, R, hm, E⟩ =>
  ⟨F, env, _, _, R, hm, E.ex, fun F' H' env' p vs us hp s' L h' => E.nx _ _ _ _ s'.same (L.setOwn i) h'⟩
end
end UL

namespace UL
open PySem PySem.Spec PyProof.Rows L2
theorem FL.step {c : Uc} {F F' H H' : Hp} {σ : List (Option V)} {env env' : List Slot} {p : Addr} {vs : List V} {us : List U} (L : FL c F σ env H p vs us) (s : Stp c σ F env H F' env' H') (R' : Rel c F' σ env' H') : FL c F' σ env' H' p vs us where
  R := R'
  fpx := s.fpx L.R L.fpx fun b hb _ _ => by rw [List.mem_singleton] at hb; subst hb; exact ⟨L.ns, L.off⟩
  fp := by
    cases q : F' p with
    | none => rfl
    | some o =>
      rcases s.new p o q with z | z | ⟨j, xs, h1, h2⟩
      · rw [L.fp] at z; cases z
      · rw [L.at_] at z; cases z
      · exact absurd h2 (L.off j xs h1)
  hp := L.hp
  at_ := s.keep p _ L.at_ L.ns L.off
  its := L.its.mono s.same
  ns := L.ns
  off := fun j ys e => by
    obtain ⟨xs, h⟩ := s.own j ys e
    exact L.off j xs h
/-! ### slots wiped -/
def wipeE (env : List Slot) : List Nat → List Slot
  | [] => env
  | v :: vs => (wipeE env vs).set v .no
theorem wipeE_length (env : List Slot) : ∀ vs, (wipeE env vs).length = env.length
  | [] => rfl
  | v :: vs => by unfold wipeE; rw [List.length_set, wipeE_length env vs]
theorem wipeE_get (env : List Slot) (vs : List Nat) (j : Nat) : (wipeE env vs)[j]? = if j ∈ vs then (if j < env.length then some .no else none) else env[j]? := by
  induction vs with
  | nil => simp [wipeE]
  | cons v vs ih =>
    unfold wipeE
    rw [List.getElem?_set, wipeE_length, ih]
    by_cases h : v = j
    · subst h; simp
    · have : j ≠ v := fun z => h z.symm
      simp [h, this]
theorem wipe_get (σ : List (Option V)) (vs : List Nat) (j : Nat) : (wipe σ vs)[j]? = if j ∈ vs then (if j < σ.length then some none else none) else σ[j]? := by
  induction vs with
  | nil => simp [wipe]
  | cons v vs ih =>
    unfold wipe
    rw [List.getElem?_set, wipe_length, ih]
    by_cases h : v = j
    · subst h; simp
    · have : j ≠ v := fun z => h z.symm
      simp [h, this]
structure Agr (is : List Nat) (σ σ' : List (Option V)) (env env' : List Slot) : Prop where
  len : σ'.length = σ.length
  slot : ∀ j, j ∉ is → σ'[j]? = σ[j]?
  lenE : env'.length = env.length
  slotE : ∀ j, j ∉ is → env'[j]? = env[j]?
  no : ∀ j ys, j ∈ is → env'[j]? ≠ some (.own ys)
  nomk : ∀ j cn fs, j ∈ is → env'[j]? ≠ some (.mk cn fs)
  nop : ∀ j t, j ∈ is → env'[j]? ≠ some (.pas t)
theorem Agr.refl (σ : List (Option V)) (env : List Slot) : Agr [] σ σ env env := ⟨rfl, fun _ _ => rfl, rfl, fun _ _ => rfl, fun _ _ h => (nomatch h), fun _ _ _ h => (nomatch h), fun _ _ h => (nomatch h)⟩
theorem Agr.append {i k : List Nat} {σ σ1 σ2 : List (Option V)} {env env1 env2 : List Slot} (a : Agr i σ σ1 env env1) (b : Agr k σ1 σ2 env1 env2) : Agr (i ++ k) σ σ2 env env2 where
  len := b.len.trans a.len
  slot := fun j h => by
    simp only [List.mem_append, not_or] at h
    rw [b.slot j h.2, a.slot j h.1]
  lenE := b.lenE.trans a.lenE
  slotE := fun j h => by
    simp only [List.mem_append, not_or] at h
    rw [b.slotE j h.2, a.slotE j h.1]
  no := fun j ys h => by
    by_cases hk : j ∈ k
    · exact b.no j ys hk
    · rw [b.slotE j hk]
      exact a.no j ys ((List.mem_append.mp h).resolve_right hk)
  nomk := fun j cn fs h => by
    by_cases hk : j ∈ k
    · exact b.nomk j cn fs hk
    · rw [b.slotE j hk]
      exact a.nomk j cn fs ((List.mem_append.mp h).resolve_right hk)
  nop := fun j t h => by
    by_cases hk : j ∈ k
    · exact b.nop j t hk
    · rw [b.slotE j hk]
      exact a.nop j t ((List.mem_append.mp h).resolve_right hk)
theorem Agr.wipe {is vs : List Nat} {σ σ' : List (Option V)} {env env' : List Slot} (a : Agr is σ σ' env env') (h : ∀ j ∈ is, j ∈ vs) : L2.wipe σ' vs = L2.wipe σ vs := by
  apply List.ext_getElem?
  intro j
  rw [wipe_get, wipe_get, a.len]
  by_cases hj : j ∈ vs
  · rw [if_pos hj, if_pos hj]
  · rw [if_neg hj, if_neg hj, a.slot j fun z => hj (h j z)]
theorem wipe_wipe (σ : List (Option V)) (vs : List Nat) : L2.wipe (L2.wipe σ vs) vs = L2.wipe σ vs := by
  apply List.ext_getElem?
  intro j
  rw [wipe_get, wipe_get, wipe_length]
  by_cases hj : j ∈ vs
  · rw [if_pos hj, if_pos hj]
  · rw [if_neg hj, if_neg hj]
theorem Rel.wipe {c : Uc} {F H : Hp} {σ : List (Option V)} {env : List Slot} (R : Rel c F σ env H) : ∀ vs, Rel c F (L2.wipe σ vs) (wipeE env vs) H
  | [] => R
  | v :: vs => (R.wipe vs).drop v none
/-- behind a block whose own slots are vs -/
theorem Rel.back {c : Uc} {F1 H1 F2 H2 : Hp} {σ σ2 : List (Option V)} {env env2 : List Slot} {vs is : List Nat} (R1 : Rel c F1 σ env H1) (hv : ∀ j ∈ is, j ∈ vs) (a : Agr is (L2.wipe σ vs) σ2 (wipeE env vs) env2)
    (s : Stp c σ2 F1 env2 H1 F2 env2 H2) (R2 : Rel c F2 σ2 env2 H2) : Rel c F2 σ env H2 ∧ Stp c σ F1 env H1 F2 env H2 := by
  have out : ∀ (j : Nat), j ∉ vs → σ2[j]? = σ[j]? ∧ env2[j]? = env[j]? := fun j h => by
    rw [a.slot j fun z => h (hv j z), a.slotE j fun z => h (hv j z), wipe_get, wipeE_get, if_neg h, if_neg h]
    exact ⟨rfl, rfl⟩
  have inn : ∀ (j : Nat) (ys : List U), j ∈ vs → env2[j]? ≠ some (.own ys) := fun j ys h z => by
    by_cases hi : j ∈ is
    · exact a.no j ys hi z
    · rw [a.slotE j hi, wipeE_get, if_pos h] at z
      split at z <;> cases z
  have ownB : ∀ (j : Nat) (ys : List U), env2[j]? = some (.own ys) → env[j]? = some (.own ys) ∧ σ2[j]? = σ[j]? := fun j ys z => by
    by_cases h : j ∈ vs
    · exact absurd z (inn j ys h)
    · obtain ⟨h1, h2⟩ := out j h
      exact ⟨by rw [← h2]; exact z, h1⟩
  have S : Stp c σ F1 env H1 F2 env H2 := ⟨s.same, fun j ys h => ⟨ys, h⟩, fun _ _ h => h, fun b o h n f => s.keep b o h n fun j xs e => by
      obtain ⟨e1, e2⟩ := ownB j xs e
      rw [e2]; exact f j xs e1, fun b o h => by
      rcases s.new b o h with z | z | ⟨j, xs, h1, h2⟩
      · exact .inl z
      · exact .inr (.inl z)
      · obtain ⟨e1, e2⟩ := ownB j xs h1
        exact .inr (.inr ⟨j, xs, e1, by rw [← e2]; exact h2⟩), s.liv, s.pl⟩
  refine ⟨⟨R2.pool, R2.base, R1.len, fun j sl e => ?_, R1.dist, R1.one, S.fpx R1 R1.fp fun b hb => by simp at hb⟩, S⟩
  obtain ⟨o, h1, h2⟩ := R1.slot j sl e
  refine ⟨o, h1, ?_⟩
  cases sl with
  | no => cases o <;> trivial
  | val u =>
    cases o with
    | none => exact h2.elim
    | some v => exact rep.mono s.same h2
  | own xs =>
    cases o with
    | none => exact h2.elim
    | some v =>
      by_cases hj : j ∈ vs
      · obtain ⟨p, ws, rfl, h3, h4, h5, h6, h7⟩ := h2
        have noff : ∀ (k : Nat) ys, env2[k]? = some (.own ys) → σ2[k]? ≠ some (some (.ref p)) := fun k ys ek => by
          obtain ⟨e1, e2⟩ := ownB k ys ek
          rw [e2]
          have hk : j ≠ k := fun z => by subst z; exact inn j ys hj ek
          exact R1.dist j k p xs ys hk e e1 h1
        refine ⟨p, ws, rfl, ?_, h4, s.keep p _ h5 h7 noff, h6.mono s.same, h7⟩
        cases q : F2 p with
        | none => rfl
        | some o =>
          rcases s.new p o q with z | z | ⟨k, ys, k1, k2⟩
          · rw [h3] at z; cases z
          · rw [h5] at z; cases z
          · exact absurd k2 (noff k ys k1)
      · obtain ⟨e1, e2⟩ := out j hj
        obtain ⟨o', h1', h2'⟩ := R2.slot j (.own xs) (by rw [e2]; exact e)
        rw [e1, h1] at h1'
        cases h1'
        exact h2'
  | mk cn fs =>
    cases o with
    | none => exact h2.elim
    | some v =>
      obtain ⟨p, C, dx, ws, rfl, h0, h3, h4, h5, h6, h7⟩ := h2
      have noff : ∀ (k : Nat) ys, env2[k]? = some (.own ys) → σ2[k]? ≠ some (some (.ref p)) := fun k ys ek => by
        obtain ⟨e1, e2⟩ := ownB k ys ek
        rw [e2]
        intro z
        obtain ⟨o', k1, k2⟩ := R1.slot k _ e1
        rw [z] at k1
        cases k1
        obtain ⟨p', ws', hq, _, _, k5, _⟩ := k2
        cases hq
        rw [h5] at k5; cases k5
      refine ⟨p, C, dx, ws, rfl, h0, ?_, h4, s.keep p _ h5 h7 noff, h6.mono s.same, h7⟩
      cases q : F2 p with
      | none => rfl
      | some o =>
        rcases s.new p o q with z | z | ⟨k, ys, k1, k2⟩
        · rw [h3] at z; cases z
        · rw [h5] at z; cases z
        · exact absurd k2 (noff k ys k1)
  | pas t =>
    cases o with
    | none => exact h2.elim
    | some v => trivial

/-! ### targets -/
abbrev UG := U → List Slot → (List Slot → Prop) → Prop
abbrev UGs := List U → List Slot → (List Slot → Prop) → Prop
def tg (c : Uc) (is : List Nat) (g : UG) : TG := fun v σ H Q => ∃ F env u k, Rel c F σ env H ∧ rep c.W F v u ∧ g u env k ∧ ∀ σ' env', Rel c F σ' env' H → Agr is σ σ' env env' → k env' → Q σ' H
def tgs (c : Uc) (is : List Nat) (g : UGs) : TGs := fun vs σ H Q => ∃ F env us k, Rel c F σ env H ∧ reps c.W F vs us ∧ g us env k ∧ ∀ σ' env', Rel c F σ' env' H → Agr is σ σ' env env' → k env' → Q σ' H
theorem PG.imp {X : Cx} {e : Expr} {t t' : TG} (h : PG X e t) (k : ∀ v σ H Q, t' v σ H Q → t v σ H Q) : PG X e t' := ⟨fun pins s σ H v u Q I r q => h.run pins s σ H v u Q I r (k v σ H Q q)⟩
theorem PGs.imp {X : Cx} {e : List Expr} {t t' : TGs} (h : PGs X e t) (k : ∀ v σ H Q, t' v σ H Q → t v σ H Q) : PGs X e t' := ⟨fun pins s σ H v u Q I r q => h.run pins s σ H v u Q I r (k v σ H Q q)⟩
def uGN (i : Nat) : UG := fun u env k => k (env.set i (.val u))
def uGNil : UGs := fun us env k => match us with
  | [] => k env
  | _ => False
def uGCons (g : UG) (h : UGs) : UGs := fun us env k => match us with
  | u :: us => g u env fun env1 => h us env1 k
  | _ => False
def uGT (n : Nat) (g : UGs) : UG := fun u env k => match u with
  | .tup us => us.length = n ∧ g us env k
  | _ => False
section
variable {X : Cx} {c : Uc} {pos : Pos} {e : Expr} {es : List Expr}
theorem ug_name {i : Nat} {x : Str} (hN : X.N.Nodup) (hi : X.N[i]? = some x) (hx : L2.Loc X.env.scope x) (hf : X.fn x = true ∨ X.env.scope.names.lookup x = some .local := by first | exact .inl rfl | exact .inr rfl | assumption) : PG X (.Name x pos) (tg c [i] (uGN i)) :=
  PG.imp (pg_name hN hi hx hf) fun v σ H Q ⟨F, env, u, k, R, r, hg, hk⟩ => hk _ _ (R.set i r) ⟨by rw [List.length_set], fun j h => by rw [List.getElem?_set, if_neg (fun z => h (by simp [z]))], by rw [List.length_set], fun j h => by rw [List.getElem?_set, if_neg (fun z => h (by simp [z]))], fun j ys h z => by
    have : j = i := by simpa using h
    subst this
    rcases getset z with ⟨_, z⟩ | ⟨z, _⟩
    · cases z
    · exact z rfl, fun j cn fs h z => by
    have : j = i := by simpa using h
    subst this
    rcases getset z with ⟨_, z⟩ | ⟨z, _⟩
    · cases z
    · exact z rfl, fun j t h z => by
    have : j = i := by simpa using h
    subst this
    rcases getset z with ⟨_, z⟩ | ⟨z, _⟩
    · cases z
    · exact z rfl⟩ hg
theorem ug_nil : PGs X [] (tgs c [] uGNil) := PGs.imp pgs_nil fun vs σ H Q ⟨F, env, us, k, R, r, hg, hk⟩ => by
  cases r with
  | nil => exact ⟨rfl, hk σ env R (Agr.refl σ env) hg⟩
  | cons _ _ => exact hg.elim
theorem ug_cons {is ks : List Nat} {g : UG} {h : UGs} (h1 : PG X e (tg c is g)) (h2 : PGs X es (tgs c ks h)) (hs : (assignEach (e :: es) X.env).map (·.2) = assign e X.env :: (assignEach es X.env).map (·.2) := by rfl) : PGs X (e :: es) (tgs c (is ++ ks) (uGCons g h)) :=
  PGs.imp (pgs_cons h1 h2 hs) fun vs σ H Q ⟨F, env, us, k, R, r, hg, hk⟩ => by
    cases r with
    | nil => exact hg.elim
    | cons a r => exact ⟨_, _, rfl, F, env, _, _, R, a, hg, fun σ1 env1 R1 ag1 k1 => ⟨F, env1, _, _, R1, r, k1, fun σ2 env2 R2 ag2 k2 => hk σ2 env2 R2 (ag1.append ag2) k2⟩⟩
theorem ug_tup {k : Nat} {is : List Nat} {g : UGs} {n : Nat} (ft : Fit c X) (h : PGs X es (tgs c is g)) (hn : (assignEach es X.env).length = n := by rfl) (hst : (assignEach es X.env).findIdx? (·.1) = none := by rfl) (hc : X.calm = true := by rfl) : PG X (.Tuple es k pos) (tg c is (uGT n g)) :=
  PG.imp (pg_tup hc h hn hst) fun v σ H Q ⟨F, env, u, k, R, r, hg, hk⟩ => by
    cases r with
    | tup hp rs =>
      obtain ⟨hl, hg⟩ := hg
      exact ⟨_, _, rfl, ft.K ▸ Same.seqT R.pool.sub hp, by rw [rs.length]; exact hl, F, env, _, k, R, rs, hg, hk⟩
    | _ => exact hg.elim
def uAsg (m : UM) (g : UG) : US := fun d env => m d.ex env fun y env1 => UL.pin env1 y fun u env2 => g u env2 d.nx
theorem us_asg {tgt : Expr} {m : UM} {is : List Nat} {g : UG} (he : PE X e (tm c m)) (hg : PG X tgt (tg c is g)) (hs : swapsWithSole [tgt] e pos.line X.env = pure false := by rfl) (hw : swappedStores [tgt] e X.env = pure none := by rfl)
    (h1 : (assignEach [tgt] X.env).map (·.2) = [assign tgt X.env] := by rfl) : PS X (.Assign [tgt] e pos) (ts c (uAsg m g)) := PS.imp (ps_asg he hg hs hw h1) fun D σ H ⟨F, env, d, R, hm, E⟩ =>
  ⟨F, env, _, _, R, hm, E.ex, fun F' H' env' v y s' R' o' h' => by
    obtain ⟨F2, env2, u, s2, R2, r2, h2⟩ := R'.pin o' h'
    exact ⟨F2, env2, u, _, R2, r2, h2, fun σ3 env3 R3 _ k3 => E.nx _ _ _ _ (s'.trans s2).same R3 k3⟩⟩
end

/-! ### what is walked -/
def WalkU (c : Uc) (F1 : Hp) (J : It) (us : List U) : Prop := ∃ (G : Hp → Prop) (Y : Nat → Hp → V → Hp → Prop), Walk J us.length G Y ∧ (∀ F H, Same F1 F → Same F H → G H) ∧
  ∀ F i H x H', Same F1 F → Pool c.W F H → i < us.length → Y i H x H' → ∃ F' u, Ext c.W F H F' H' ∧ us[i]? = some u ∧ rep c.W F' x u
abbrev UI := XC → List Slot → (List U → List Slot → Prop) → Prop
def tI (c : Uc) (m : UI) : TI := fun σ H R => ∃ F env ex k, Rel c F σ env H ∧ m ex env k ∧ Wants c ex ∧
  ∀ F' H' env' us J, Stp c σ F env H F' env' H' → Rel c F' σ env' H' → WalkU c F' J us → k us env' → R J H'
theorem PI.imp {X : Cx} {g e : Expr} {t t' : TI} (h : PI X g e t) (k : ∀ σ H Q, t' σ H Q → t σ H Q) : PI X g e t' := ⟨fun pins s σ H Q I q => h.run pins s σ H Q I (k σ H Q q)⟩
def iLst (m : UM) : UI := fun ex env k => m ex env fun y env1 => UL.pin env1 y fun u env2 => match u with
  | .lst us => k us env2
  | _ => False
def iTp (m : UM) : UI := fun ex env k => m ex env fun y env1 => UL.pin env1 y fun u env2 => match u with
  | .tup us => k us env2
  | _ => False
def signs (z : Str) : List U := z.cps.toList.map fun c => U.str ⟨#[c]⟩
def iSt (m : UM) : UI := fun ex env k => m ex env fun y env1 => match y with
  | .val (.str z) => k (signs z) env1
  | _ => False
def rng (lo hi : Int) : List U := (List.range (hi - lo).toNat).map fun (i : Nat) => U.int (lo + (i : Int))
def iR1 (m : UM) : UI := fun ex env k => m ex env fun y env1 => match y with
  | .val (.int j) => -(2 ^ 62) ≤ j ∧ j < 2 ^ 62 ∧ k (rng 0 j) env1
  | _ => False
def iR2 (m n : UM) : UI := fun ex env k => m ex env fun y env1 => n ex env1 fun z env2 => match y, z with
  | .val (.int i), .val (.int j) => (-(2 ^ 62) ≤ i ∧ i < 2 ^ 62 ∧ -(2 ^ 62) ≤ j ∧ j < 2 ^ 62) ∧ k (rng i j) env2
  | _, _ => False
section
variable {X : Cx} {c : Uc} {tgt e a b : Expr} {m n : UM}
theorem walkU_list {F : Hp} {p : Addr} {vs : List V} {us : List U} {K : PySem.W.Frag} (hp : F p = some (.lst vs)) (r : reps c.W F vs us) : WalkU c F (Itl K p) us := by
  refine ⟨fun H => SqL K H p vs, YAt vs, by rw [← r.length]; exact walk_list, fun F2 H s1 s2 => .inl (.inl (s2 _ _ (s1 _ _ hp))), fun F2 i H x H' s P hi ⟨e1, e2⟩ => ?_⟩
  obtain ⟨u, h1, h2⟩ := r.get e2
  exact ⟨F2, u, by rw [e1]; exact Ext.refl P, h1, h2.mono s⟩
theorem walkU_tup {F : Hp} {p : Addr} {vs : List V} {us : List U} {K : PySem.W.Frag} (hp : SqT K F p vs) (r : reps c.W F vs us) : WalkU c F (Itt K p) us := by
  refine ⟨fun H => SqT K H p vs, YAt vs, by rw [← r.length]; exact walk_tup, fun F2 H s1 s2 => Same.seqT s2 (Same.seqT s1 hp), fun F2 i H x H' s P hi ⟨e1, e2⟩ => ?_⟩
  obtain ⟨u, h1, h2⟩ := r.get e2
  exact ⟨F2, u, by rw [e1]; exact Ext.refl P, h1, h2.mono s⟩
theorem ui_list (h : PE X e (tm c m)) : PI X tgt e (tI c (iLst m)) := PI.imp (pi_list h) fun σ H Q ⟨F, env, ex, k, R, hm, hw, hk⟩ => by
  refine ⟨F, env, ex, _, R, hm, hw, fun F1 H1 env1 v y s1 R1 o1 h1 => ?_⟩
  obtain ⟨F2, env2, u, s2, R2, r2, h2⟩ := R1.pin o1 h1
  cases r2 with
  | lst hp rs => exact ⟨_, rfl, ⟨_, .inl (.inl (R2.pool.sub _ _ hp))⟩, hk F2 H1 env2 _ _ (s1.trans s2) R2 (walkU_list hp rs) h2⟩
  | _ => exact h2.elim
theorem ui_tup (ft : Fit c X) (h : PE X e (tm c m)) : PI X tgt e (tI c (iTp m)) := PI.imp (pi_tup h) fun σ H Q ⟨F, env, ex, k, R, hm, hw, hk⟩ => by
  refine ⟨F, env, ex, _, R, hm, hw, fun F1 H1 env1 v y s1 R1 o1 h1 => ?_⟩
  obtain ⟨F2, env2, u, s2, R2, r2, h2⟩ := R1.pin o1 h1
  cases r2 with
  | tup hp rs => exact ⟨_, rfl, ⟨_, ft.K ▸ Same.seqT R2.pool.sub hp⟩, hk F2 H1 env2 _ _ (s1.trans s2) R2 (walkU_tup (ft.K ▸ hp) rs) h2⟩
  | _ => exact h2.elim
theorem ui_str (h : PE X e (tm c m)) : PI X tgt e (tI c (iSt m)) := PI.imp (pi_str h) fun σ H Q ⟨F, env, ex, k, R, hm, hw, hk⟩ => by
  refine ⟨F, env, ex, _, R, hm, hw, fun F1 H1 env1 v y s1 R1 o1 h1 => ?_⟩
  match y, o1, h1 with
  | .val (.str z), o1, h1 =>
    cases o1
    refine ⟨z, rfl, hk F1 H1 env1 _ _ s1 R1 ⟨fun _ => True, (fun i H v H' => H' = H ∧ ∃ c, z.cps[i]? = some c ∧ v = .str ⟨#[c]⟩), ?_, fun _ _ _ _ => trivial, fun F2 i H x H' s P hi y => ?_⟩ h1⟩
    · have : (signs z).length = z.cps.size := by unfold signs; rw [List.length_map, Array.length_toList]
      rw [this]; exact walk_str
    · obtain ⟨e1, k, e2, e3⟩ := y
      refine ⟨F2, .str ⟨#[k]⟩, by rw [e1]; exact Ext.refl P, ?_, by rw [e3]; exact .str _⟩
      unfold signs
      rw [List.getElem?_map, Array.getElem?_toList, e2]; rfl
theorem walkU_rng {F : Hp} (lo hi : Int) : WalkU c F (Itr lo (hi - lo).toNat) (rng lo hi) := by
  refine ⟨fun _ => True, YFn fun i => .int (lo + i), ?_, fun _ _ _ _ => trivial, fun F2 i H x H' s P h ⟨e1, e2⟩ => ?_⟩
  · have : (rng lo hi).length = (hi - lo).toNat := by unfold rng; rw [List.length_map, List.length_range]
    rw [this]; exact walk_range
  · refine ⟨F2, .int (lo + i), by rw [e1]; exact Ext.refl P, ?_, by rw [e2]; exact .int _⟩
    unfold rng at h ⊢
    rw [List.length_map, List.length_range] at h
    rw [List.getElem?_map, List.getElem?_range h]; rfl
theorem ui_range1 {p pos : Pos} (hg : Gl X "range") (hm : X.mg "range" = none) (h : PE X a (tm c m)) (hs : starEach [a] X.env = [(false, eval a X.env)] := by rfl) : PI X tgt (.Call (.Name "range" p) [a] [] pos) (tI c (iR1 m)) :=
  PI.imp (pi_range1 hg hm (pa_cons h pa_nil hs) hs) fun σ H Q ⟨F, env, ex, k, R, hm, hw, hk⟩ => by
    refine ⟨F, env, ex, _, R, hm, hw, fun F1 H1 env1 v y s1 R1 o1 h1 => ?_⟩
    match y, o1, h1 with
    | .val (.int j), o1, ⟨q1, q2, h1⟩ =>
      cases o1
      refine ⟨j, rfl, q1, q2, hk F1 H1 env1 _ _ s1 R1 ?_ h1⟩
      have := walkU_rng (c := c) (F := F1) 0 j
      rwa [Int.sub_zero] at this
theorem ui_range2 {p pos : Pos} (hg : Gl X "range") (hm : X.mg "range" = none) (ha : PE X a (tm c m)) (hb : PE X b (tm c n)) (hs : starEach [a, b] X.env = [(false, eval a X.env), (false, eval b X.env)] := by rfl) (hs2 : starEach [b] X.env = [(false, eval b X.env)] := by rfl) : PI X tgt (.Call (.Name "range" p) [a, b] [] pos) (tI c (iR2 m n)) :=
  PI.imp (pi_range2 hg hm (pa_cons ha (pa_cons hb pa_nil hs2) (by rw [hs, hs2])) hs hs2) fun σ H Q ⟨F, env, ex, k, R, hm, hw, hk⟩ => by
    refine ⟨F, env, ex, _, R, hm, hw, fun F1 H1 env1 v y s1 R1 o1 h1 => ⟨F1, env1, ex, _, R1, h1, hw, fun F2 H2 env2 v2 y2 s2 R2 o2 h2 => ?_⟩⟩
    match y, y2, o1, o2, h2 with
    | .val (.int i), .val (.int j), o1, o2, ⟨q1, h2⟩ =>
      cases o1; cases o2
      exact ⟨i, j, rfl, q1, hk F2 H2 env2 _ _ (s1.trans s2) R2 (walkU_rng i j) h2⟩
end

/-! ### loops -/
def uFor (mi : UI) (g : UG) (n : US) : US := fun d env => mi d.ex env fun us env1 => ∃ I : Nat → List Slot → Prop, I 0 env1 ∧
  (∀ (i : Nat) u env', us[i]? = some u → I i env' → g u env' fun env2 => n { d with nx := I (i + 1), ct := I (i + 1), bk := d.nx } env2) ∧ ∀ env', I us.length env' → d.nx env'
def uWhile (t : UT) (n : US) : US := fun d env => ∃ I : Nat → List Slot → Prop, (∃ m, I m env) ∧
  ∀ m env', I m env' → t d.ex env' fun b env2 => if b = true then n { d with nx := fun env3 => ∃ m', m' < m ∧ I m' env3, ct := fun env3 => ∃ m', m' < m ∧ I m' env3, bk := d.nx } env2 else d.nx env2
section
variable {X : Cx} {c : Uc} {tgt iter d : Expr} {body : List Stmt} {mi : UI} {g : UG} {n : US} {mt : UT} {is : List Nat} {pos : Pos}
theorem us_for (hp : PassesOwn (model X.prog X.w) X.A X.env X.xe) (ft : Fit c X) (hi : PI X tgt iter (tI c mi)) (hg : PG X tgt (tg c is g)) (hb : PSs X body (ts c n)) (hs : ∀ x, foldedSetIterable iter X.env x = pure x := by intro _; rfl) (hc : X.calm = true := by rfl) : PS X (.For tgt iter body [] pos) (ts c (uFor mi g n)) :=
  PS.imp (ps_for hp hc hi hg hb hs) fun D σ H ⟨F, env, d, R, hm, E⟩ => by
    refine ⟨F, env, _, _, R, hm, E.ex, fun F1 H1 env1 us J s1 R1 wk ⟨I, h0, hs, hd⟩ => ?_⟩
    obtain ⟨G, Y, w, hG, hY⟩ := wk
    refine for_it w (fun i σ H => ∃ F env, Same F1 F ∧ Rel c F σ env H ∧ I i env) ⟨F1, env1, Same.refl F1, R1, h0⟩ (fun i σ H _ ⟨F2, env2, s2, R2, _⟩ => hG F2 H s2 R2.pool.sub) ?_ ?_
    · rintro i x σ2 H2 H3 hi ⟨F2, env2, s2, R2, hI⟩ y
      obtain ⟨F3, u, x3, eu, ru⟩ := hY F2 i H2 x H3 s2 R2.pool hi y
      have s3 : Same F1 F3 := s2.trans x3.same
      refine ⟨F3, env2, u, _, R2.ext x3, ru, hs i u env2 eu hI, fun σ4 env4 R4 _ k4 => ⟨F3, env4, _, R4, k4, ?_⟩⟩
      exact ⟨fun F' σ' env' H' s' R' h' => ⟨F', env', s3.trans s', R', h'⟩, fun F' σ' env' H' s' R' h' => E.nx _ _ _ _ ((s1.same.trans s3).trans s') R' h',
        fun F' σ' env' H' s' R' h' => ⟨F', env', s3.trans s', R', h'⟩, E.rt, E.ex⟩
    · rintro σ2 H2 ⟨F2, env2, s2, R2, hI⟩
      exact E.nx _ _ _ _ (s1.same.trans s2) R2 (hd env2 hI)
theorem us_while (hp : PassesOwn (model X.prog X.w) X.A X.env X.xe) (hc : PT X d (tt c mt)) (hb : PSs X body (ts c n)) : PS X (.While d body [] pos) (ts c (uWhile mt n)) :=
  PS.imp (ps_while hp hc hb) fun D σ H ⟨F, env, d, R, ⟨I, ⟨m0, h0⟩, hs⟩, E⟩ => by
    refine ⟨fun m σ H => ∃ F2 env2, Same F F2 ∧ Rel c F2 σ env2 H ∧ I m env2, ⟨m0, F, env, Same.refl F, R, h0⟩, ?_⟩
    rintro m σ2 H2 ⟨F2, env2, s2, R2, hI⟩
    refine ⟨F2, env2, _, _, R2, hs m env2 hI, E.ex, fun F3 H3 env3 b s3 R3 h3 => ?_⟩
    cases b with
    | false =>
      rw [if_neg Bool.false_ne_true] at h3 ⊢
      exact E.nx _ _ _ _ (s2.trans s3.same) R3 h3
    | true =>
      rw [if_pos rfl] at h3 ⊢
      refine ⟨fun σ' H' => ∃ m', m' < m ∧ ∃ F4 env4, Same F F4 ∧ Rel c F4 σ' env4 H' ∧ I m' env4, fun σ' H' h => h, F3, env3, _, R3, h3, ?_⟩
      have s4 := s2.trans s3.same
      exact ⟨fun F' σ' env' H' s' R' ⟨m', hm, h'⟩ => ⟨m', hm, F', env', s4.trans s', R', h'⟩, fun F' σ' env' H' s' R' h' => E.nx _ _ _ _ (s4.trans s') R' h',
        fun F' σ' env' H' s' R' ⟨m', hm, h'⟩ => ⟨m', hm, F', env', s4.trans s', R', h'⟩, E.rt, E.ex⟩
end
end UL

namespace UL
open PySem PySem.Spec PyProof.Rows L2
section
variable {c : Uc} {σ : List (Option V)} {F F1 H H1 : Hp} {env env1 : List Slot}
theorem Stp.unnox (s : Stp c.nox σ F env H F1 env1 H1) : Stp c σ F env H F1 env1 H1 := ⟨s.same, s.own, s.pas, s.keep, s.new, s.liv, s.pl⟩
theorem Pool.put {W : Wd} {D : Addr} {o : HO} (P : Pool W F H) (fp : F D = none) (ns : ∀ a cc, W.st = some (a, cc) → D ≠ a) : Pool W F (upd H D o) where
  sub := fun b u e => by
    have n : b ≠ D := fun z => by rw [z, fp] at e; cases e
    rw [upd_ne n]; exact P.sub b u e
  sto := fun a cc e => by
    obtain ⟨h1, h2, q, st, ct, hd, lf, h3, h4⟩ := P.sto a cc e
    exact ⟨h1, h2, q, st, ct, hd, lf, h3, by rw [upd_ne (ns a cc e).symm]; exact h4⟩
/-- a thing changed that was not there at first -/
theorem Stp.put {D : Addr} {o : HO} (s : Stp c σ F env H F1 env1 H1) (hp : H D = none) (fp : F1 D = none) (ns : ∀ a cc, c.W.st = some (a, cc) → D ≠ a) : Stp c σ F env H F1 env1 (upd H1 D o) where
  same := s.same
  own := s.own
  pas := s.pas
  keep := fun b u h n f => by
    rw [upd_ne (ne_of_none h hp)]; exact s.keep b u h n f
  new := s.new
  liv := fun b h => by
    by_cases e : b = D
    · subst e; exact hp
    · rw [upd_ne e] at h; exact s.liv b h
  pl := s.pl.put fp ns
theorem FL.put {D : Addr} {vs ws : List V} {us zs : List U} (L : FL c F σ env H D vs us) (r : reps c.W F ws zs) : FL c F σ env (upd H D (.lst ws)) D ws zs where
  fp := L.fp
  hp := L.hp
  at_ := upd_same
  its := r
  ns := L.ns
  off := L.off
  fpx := L.R.fpNext' L.fpx rfl rfl (fun i t e => ⟨e, rfl⟩) (Same.refl F) (fun b o e _ _ ob => by
      by_cases z : b = D
      · subst z; rw [L.at_] at e; cases e; exact absurd (List.mem_singleton.mpr rfl) (ob (.inl ⟨_, rfl⟩))
      · rw [upd_ne z]; exact e) (fun _ _ z => .inl z) (fun j xs b e f => .inr (.inl ⟨j, xs, e, f⟩)) fun b z => .inl z
  R := {
    fp := L.R.fpNext' L.fpx rfl rfl (fun i t e => ⟨e, rfl⟩) (Same.refl F) (fun b o e _ _ ob => by
      by_cases z : b = D
      · subst z; rw [L.at_] at e; cases e; exact absurd (List.mem_singleton.mpr rfl) (ob (.inl ⟨_, rfl⟩))
      · rw [upd_ne z]; exact e) (fun _ _ z => .inl z) (fun j xs b e f => .inr (.inl ⟨j, xs, e, f⟩)) fun b z => by simp at z
    pool := L.R.pool.put L.fp L.ns
    base := ⟨fun b o n e => by rw [upd_ne (ne_of_none e L.hp)]; exact L.R.base.keep b o n e, L.R.base.pool, L.R.base.new⟩
    len := L.R.len
    slot := fun j s e => by
      obtain ⟨o, h1, h2⟩ := L.R.slot j s e
      refine ⟨o, h1, ?_⟩
      cases s with
      | no => cases o <;> trivial
      | val u => cases o with
        | none => exact h2.elim
        | some v => exact h2
      | own xs =>
        cases o with
        | none => exact h2.elim
        | some v =>
          obtain ⟨q, ws, rfl, h3, h4, h5, h6⟩ := h2
          have n : q ≠ D := fun z => L.off j xs e (by rw [h1, z])
          exact ⟨q, ws, rfl, h3, h4, by rw [upd_ne n]; exact h5, h6⟩
      | mk cn fs =>
        cases o with
        | none => exact h2.elim
        | some v =>
          obtain ⟨q, C, dx, ws, rfl, h0, h3, h4, h5, h6⟩ := h2
          have n : q ≠ D := ne_of h5 L.at_ (by intro z; cases z)
          exact ⟨q, C, dx, ws, rfl, h0, h3, h4, by rw [upd_ne n]; exact h5, h6⟩
      | pas t =>
        cases o with
        | none => exact h2.elim
        | some v => trivial
    dist := L.R.dist
    one := L.R.one }
end

/-! ### list comprehensions -/
def lcRun (turn : U → (Option U → Prop) → Prop) : List U → List U → (List U → Prop) → Prop
  | [], acc, k => k acc
  | u :: us, acc, k => turn u fun o => lcRun turn us (acc ++ o.toList) k
def lcTurn (g : UG) (mt : UT) (me : UM) (env : List Slot) (u : U) (κ : Option U → Prop) : Prop :=
  g u env fun env2 => mt exF env2 fun b env3 => env3 = env2 ∧ if b = true then me exF env2 fun y env4 => env4 = env2 ∧ (match y with
    | .val z => κ (some z)
    | _ => False) else κ none
def fLc (mi : UI) (g : UG) (mt : UT) (me : UM) (vs : List Nat) : UF := fun ex env k => mi ex env fun us env1 => us.length ≤ 1000000 ∧ lcRun (lcTurn g mt me (wipeE env1 vs)) us [] fun zs => k zs env1
def uYes : UT := fun _ env k => k true env
theorem drop_get {α : Type} {l : List α} {i : Nat} {x : α} (h : l[i]? = some x) : l.drop i = x :: l.drop (i + 1) := by
  obtain ⟨h1, h2⟩ := List.getElem?_eq_some_iff.mp h
  rw [List.drop_eq_getElem_cons h1, h2]
theorem PTs.imp {X : Cx} {e : List Expr} {t t' : TT} (h : PTs X e t) (k : ∀ σ H Q, t' σ H Q → t σ H Q) : PTs X e t' := ⟨fun pins s σ H Q I q => h.run pins s σ H Q I (k σ H Q q)⟩
section
variable {X : Cx} {c : Uc}
theorem uts_nil : PTs X [] (tt c uYes) := PTs.imp pts_nil fun σ H Q ⟨F, env, ex, k, R, hm, hw, hk⟩ => hk F H env true (.refl R.pool) R hm
theorem uts_one {e : Expr} {m : UT} (h : PT X e (tt c m)) : PTs X [e] (tt c m) := pts_one h
theorem tm_lc {σ : List (Option V)} {H : Hp} {Q : VK} {mi : UI} {g : UG} {mt : UT} {me : UM} {vs is : List Nat} (hv : ∀ j ∈ is, j ∈ vs) (h : tf c (fLc mi g mt me vs) σ H Q) : tLc (tI c mi) (tg c.nox is g) (tt c.nox mt) (tm c.nox me) vs σ H Q := by
  obtain ⟨F, env, ex, k, R, hm, hw, hk⟩ := h
  refine ⟨F, env, ex, _, R, hm, hw, fun F1 H1 env1 us J s1 R1 wk ⟨hl, h1⟩ D hD => ?_⟩
  obtain ⟨G, Y, w, hG, hY⟩ := wk
  have hD0 : H D = none := s1.liv D hD
  refine lc_it w (fun i H' => ∃ F2 ws acc, Stp c σ F env H F2 env1 H' ∧ Same F1 F2 ∧ FL c F2 σ env1 H' D ws acc ∧ acc.length ≤ i ∧ lcRun (lcTurn g mt me (wipeE env1 vs)) (us.drop i) acc fun zs => k zs env1)
    ⟨F1, [], [], s1.new1 hD, Same.refl F1, R1.alloc hD .nil, Nat.zero_le _, h1⟩ (fun i H' _ ⟨F2, ws, acc, s2, sm, L, _⟩ => hG F2 H' sm L.R.pool.sub) ?_ ?_
  · rintro i x H2 H3 hi ⟨F2, ws, acc, s2, sm, L, la, lr⟩ y
    obtain ⟨F3, u, x3, eu, ru⟩ := hY F2 i H2 x H3 sm L.R.pool hi y
    have L3 : FL c F3 σ env1 H3 D ws acc := L.step ((Stp.refl L.R.pool).ext x3) (L.R.ext x3)
    have s3 : Stp c σ F env H F3 env1 H3 := s2.ext x3
    have m3 := sm.trans x3.same
    rw [drop_get eu] at lr
    refine ⟨F3, wipeE env1 vs, u, _, (L3.R.wipe vs).nox, ru, lr, fun σ4 env4 R4 ag k4 => ⟨by rw [ag.wipe hv, wipe_wipe], F3, env4, exF, _, R4, k4, wantsF, fun F5 H5 env5 b s5 R5 ⟨e5, h5⟩ => ?_⟩⟩
    subst e5
    cases b with
    | false =>
      rw [if_neg Bool.false_ne_true] at h5 ⊢
      obtain ⟨Rb, Sb⟩ := L3.R.back hv ag s5.unnox R5.unnox
      exact ⟨F5, ws, acc, s3.trans Sb, m3.trans Sb.same, L3.step Sb Rb, Nat.le_succ_of_le la, by rw [Option.toList_none, List.append_nil] at h5; exact h5⟩
    | true =>
      rw [if_pos rfl] at h5 ⊢
      refine ⟨F5, env5, exF, _, R5, h5, wantsF, fun F6 H6 env6 v y s6 R6 o6 ⟨e6, h6⟩ => ?_⟩
      subst e6
      obtain ⟨Rb, Sb⟩ := L3.R.back hv ag (s5.trans s6).unnox R6.unnox
      have L6 := L3.step Sb Rb
      match y, o6, h6 with
      | .val z, o6, h6 =>
        have o6 : rep c.W F6 v z := o6
        refine ⟨ws, L6.at_, ?_, F6, ws ++ [v], acc ++ [z], (s3.trans Sb).put hD0 L6.fp L6.ns, m3.trans Sb.same, L6.put (L6.its.append (.cons o6 .nil)), by rw [List.length_append]; exact Nat.succ_le_succ la, h6⟩
        rw [L6.its.length]
        exact Nat.lt_of_le_of_lt la (Nat.lt_of_lt_of_le hi (Nat.le_trans hl (by decide)))
  · rintro H' ⟨F2, ws, acc, s2, sm, L, la, lr⟩
    rw [List.drop_length] at lr
    exact hk F2 H' env1 D ws acc hD0 s2 L lr
theorem uf_lc {elt tgt iter : Expr} {ifs : List Expr} {scope : Scope} {own : List (Str × Nat)} {pos : Pos} {mi : UI} {g : UG} {mt : UT} {me : UM} {is : List Nat} (ft : Fit c X) (hN : X.N.Nodup) (hi : PI X tgt iter (tI c mi)) (ok : BlkOk X.N X.env.scope scope own)
    (hg : ∀ (s : Shared) (H : Hp) (C : Addr) (cl : List (Str × Addr)) (fp : List Addr), Fit c.nox (X.blk s H scope (compEnvC scope cl C X.env) fp) → PG (X.blk s H scope (compEnvC scope cl C X.env) fp) tgt (tg c.nox is g))
    (ht : ∀ (s : Shared) (H : Hp) (C : Addr) (cl : List (Str × Addr)) (fp : List Addr), Fit c.nox (X.blk s H scope (compEnvC scope cl C X.env) fp) → PTs (X.blk s H scope (compEnvC scope cl C X.env) fp) ifs (tt c.nox mt))
    (he : ∀ (s : Shared) (H : Hp) (C : Addr) (cl : List (Str × Addr)) (fp : List Addr), Fit c.nox (X.blk s H scope (compEnvC scope cl C X.env) fp) → PE (X.blk s H scope (compEnvC scope cl C X.env) fp) elt (tm c.nox me))
    (hv : ∀ j ∈ is, j ∈ own.map (·.2)) (hs : ∀ x, foldedSetIterable iter X.env x = pure x := by intro _; rfl) (hc : X.calm = true := by rfl) :
    PE X (.ListComp elt [⟨tgt, iter, ifs, 0⟩] scope pos) (tf c (fLc mi g mt me (own.map (·.2)))) :=
  have ft' : ∀ (s : Shared) (H : Hp) (C : Addr) (cl : List (Str × Addr)) (fp : List Addr), Fit c.nox (X.blk s H scope (compEnvC scope cl C X.env) fp) := fun s H C cl fp => ⟨ft.K, ft.mg, ft.cool, ft.dn, takes0⟩
  PE.imp (pe_lc hc hN hi ok (fun s H C cl fp => hg s H C cl fp (ft' s H C cl fp)) (fun s H C cl fp => ht s H C cl fp (ft' s H C cl fp)) (fun s H C cl fp => he s H C cl fp (ft' s H C cl fp)) hs) fun σ H Q h => tm_lc hv h
theorem us_setLc {i : Nat} {y : Str} {py : Pos} {elt tgt iter : Expr} {ifs : List Expr} {scope : Scope} {own : List (Str × Nat)} {pos spos : Pos} {mi : UI} {g : UG} {mt : UT} {me : UM} {is : List Nat} (ft : Fit c X) (hN : X.N.Nodup) (hy : X.N[i]? = some y) (hyl : X.env.scope.names.lookup y = some .local)
    (hsw : swapsWith (.ListComp elt [⟨tgt, iter, ifs, 0⟩] scope pos) (some (.Name y py)) spos.line X.env = pure true) (hi : PI X tgt iter (tI c mi)) (ok : BlkOk X.N X.env.scope scope own)
    (hg : ∀ (s : Shared) (H : Hp) (C : Addr) (cl : List (Str × Addr)) (fp : List Addr), Fit c.nox (X.blk s H scope (compEnvC scope cl C X.env) fp) → PG (X.blk s H scope (compEnvC scope cl C X.env) fp) tgt (tg c.nox is g))
    (ht : ∀ (s : Shared) (H : Hp) (C : Addr) (cl : List (Str × Addr)) (fp : List Addr), Fit c.nox (X.blk s H scope (compEnvC scope cl C X.env) fp) → PTs (X.blk s H scope (compEnvC scope cl C X.env) fp) ifs (tt c.nox mt))
    (he : ∀ (s : Shared) (H : Hp) (C : Addr) (cl : List (Str × Addr)) (fp : List Addr), Fit c.nox (X.blk s H scope (compEnvC scope cl C X.env) fp) → PE (X.blk s H scope (compEnvC scope cl C X.env) fp) elt (tm c.nox me))
    (hv : ∀ j ∈ is, j ∈ own.map (·.2)) (hs : ∀ x, foldedSetIterable iter X.env x = pure x := by intro _; rfl) (hc : X.calm = true := by rfl) :
    PS X (.Assign [.Name y py] (.ListComp elt [⟨tgt, iter, ifs, 0⟩] scope pos) spos) (ts c (uSet i (uOfF (fLc mi g mt me (own.map (·.2)))))) :=
  have ft' : ∀ (s : Shared) (H : Hp) (C : Addr) (cl : List (Str × Addr)) (fp : List Addr), Fit c.nox (X.blk s H scope (compEnvC scope cl C X.env) fp) := fun s H C cl fp => ⟨ft.K, ft.mg, ft.cool, ft.dn, takes0⟩
  PS.imp (ps_setLc hc hN hy hyl hsw hi ok (fun s H C cl fp => hg s H C cl fp (ft' s H C cl fp)) (fun s H C cl fp => ht s H C cl fp (ft' s H C cl fp)) (fun s H C cl fp => he s H C cl fp (ft' s H C cl fp)) hs) fun D σ H ⟨F, env, d, R, hm, E⟩ =>
    tm_lc hv ⟨F, env, _, _, R, hm, E.ex, fun F' H' env' p vs us hp s' L h' => by
      obtain ⟨s2, R2, r2⟩ := L.freeze
      exact E.nx _ _ _ _ (s'.same.trans s2) (R2.set i r2) h'⟩
theorem us_setLcO {i : Nat} {y : Str} {py : Pos} {elt tgt iter : Expr} {ifs : List Expr} {scope : Scope} {own : List (Str × Nat)} {pos spos : Pos} {mi : UI} {g : UG} {mt : UT} {me : UM} {is : List Nat} (ft : Fit c X) (hN : X.N.Nodup) (hy : X.N[i]? = some y) (hyl : X.env.scope.names.lookup y = some .local)
    (hsw : swapsWith (.ListComp elt [⟨tgt, iter, ifs, 0⟩] scope pos) (some (.Name y py)) spos.line X.env = pure true) (hi : PI X tgt iter (tI c mi)) (ok : BlkOk X.N X.env.scope scope own)
    (hg : ∀ (s : Shared) (H : Hp) (C : Addr) (cl : List (Str × Addr)) (fp : List Addr), Fit c.nox (X.blk s H scope (compEnvC scope cl C X.env) fp) → PG (X.blk s H scope (compEnvC scope cl C X.env) fp) tgt (tg c.nox is g))
    (ht : ∀ (s : Shared) (H : Hp) (C : Addr) (cl : List (Str × Addr)) (fp : List Addr), Fit c.nox (X.blk s H scope (compEnvC scope cl C X.env) fp) → PTs (X.blk s H scope (compEnvC scope cl C X.env) fp) ifs (tt c.nox mt))
    (he : ∀ (s : Shared) (H : Hp) (C : Addr) (cl : List (Str × Addr)) (fp : List Addr), Fit c.nox (X.blk s H scope (compEnvC scope cl C X.env) fp) → PE (X.blk s H scope (compEnvC scope cl C X.env) fp) elt (tm c.nox me))
    (hv : ∀ j ∈ is, j ∈ own.map (·.2)) (hs : ∀ x, foldedSetIterable iter X.env x = pure x := by intro _; rfl) (hc : X.calm = true := by rfl) :
    PS X (.Assign [.Name y py] (.ListComp elt [⟨tgt, iter, ifs, 0⟩] scope pos) spos) (ts c (uSetO i (fLc mi g mt me (own.map (·.2))))) :=
  have ft' : ∀ (s : Shared) (H : Hp) (C : Addr) (cl : List (Str × Addr)) (fp : List Addr), Fit c.nox (X.blk s H scope (compEnvC scope cl C X.env) fp) := fun s H C cl fp => ⟨ft.K, ft.mg, ft.cool, ft.dn, takes0⟩
  PS.imp (ps_setLc hc hN hy hyl hsw hi ok (fun s H C cl fp => hg s H C cl fp (ft' s H C cl fp)) (fun s H C cl fp => ht s H C cl fp (ft' s H C cl fp)) (fun s H C cl fp => he s H C cl fp (ft' s H C cl fp)) hs) fun D σ H ⟨F, env, d, R, hm, E⟩ =>
    tm_lc hv ⟨F, env, _, _, R, hm, E.ex, fun F' H' env' p vs us hp s' L h' => E.nx _ _ _ _ s'.same (L.setOwn i) h'⟩
end

/-! ### defs -/
abbrev Spec := List U → (Str → List (Str × U) → Prop) → (U → Prop) → Prop
/-- a def's promise: from data of a pool to data of a greater one -/
def Pr (P : Program) (w : World) (K : PySem.W.Frag) (mg : Str → Option Value) (fr : Bool) (spec : Spec) : Sp := fun vs H Q E => ∃ (st : Option (Addr × Addr)) (F : Hp) (us : List U) (ex : Str → List (Str × U) → Prop) (k : U → Prop), Pool ⟨K, mg, st, none, DN P w⟩ F H ∧ reps ⟨K, mg, st, none, DN P w⟩ F vs us ∧ spec us ex k ∧
  (∀ F' H' C d fvs cn fus, Ext ⟨K, mg, st, none, DN P w⟩ F H F' H' → mg cn = some (.ref C) → H' d = some (.xd fvs) → repf ⟨K, mg, st, none, DN P w⟩ F' fvs fus → ex cn fus → E (.ref C) (some d) H') ∧
  (∀ F' H' v u, Ext ⟨K, mg, st, none, DN P w⟩ F H F' H' → rep ⟨K, mg, st, none, DN P w⟩ F' v u → (fr = true → FrR ⟨K, mg, st, none, DN P w⟩ F H v u H') → k u → Q v H')
def startE (n : Nat) (us : List U) : List Slot := us.map Slot.val ++ List.replicate (n - us.length) .no
theorem rel_start {c : Uc} {N : List Str} {vs : List V} {us : List U} (P : Pool c.W c.F0 c.H0) (r : reps c.W c.F0 vs us) : Rel c c.F0 (L2.start N vs) (startE N.length us) c.H0 where
  pool := P
  base := .refl
  len := by unfold L2.start startE; simp [r.length]
  slot := fun i s e => by
    unfold startE at e
    unfold L2.start
    by_cases hi : i < us.length
    · rw [List.getElem?_append_left (by simpa using hi), List.getElem?_map] at e
      cases h : us[i]? with
      | none => rw [h] at e; cases e
      | some u =>
        rw [h] at e; cases e
        obtain ⟨v, h1, h2⟩ := r.get' h
        exact ⟨some v, by rw [List.getElem?_append_left (by rw [List.length_map, r.length]; exact hi), List.getElem?_map, h1]; rfl, h2⟩
    · rw [List.getElem?_append_right (by simpa using hi), List.getElem?_replicate] at e
      rw [List.length_map] at e
      split at e
      · cases e
        rename_i hlt
        refine ⟨none, ?_, trivial⟩
        rw [List.getElem?_append_right (by rw [List.length_map, r.length]; omega), List.getElem?_replicate, List.length_map, r.length, if_pos hlt]
      · cases e
  dist := fun i j p xs ys _ ei _ _ _ => by
    unfold startE at ei
    by_cases hi : i < us.length
    · rw [List.getElem?_append_left (by simpa using hi), List.getElem?_map] at ei
      cases h : us[i]? <;> rw [h] at ei <;> cases ei
    · rw [List.getElem?_append_right (by simpa using hi), List.getElem?_replicate] at ei
      split at ei <;> cases ei
  one := fun i cn fs ei => by
    unfold startE at ei
    by_cases hi : i < us.length
    · rw [List.getElem?_append_left (by simpa using hi), List.getElem?_map] at ei
      cases h : us[i]? <;> rw [h] at ei <;> cases ei
    · rw [List.getElem?_append_right (by simpa using hi), List.getElem?_replicate] at ei
      split at ei <;> cases ei
  fp := FtOk.none fun i t ei => by
    unfold startE at ei
    by_cases hi : i < us.length
    · rw [List.getElem?_append_left (by simpa using hi), List.getElem?_map] at ei
      cases h : us[i]? <;> rw [h] at ei <;> cases ei
    · rw [List.getElem?_append_right (by simpa using hi), List.getElem?_replicate] at ei
      split at ei <;> cases ei
section
variable {P : Program} {w : World} {K : PySem.W.Frag} {mg : Str → Option Value} {base : Heap}
abbrev cxU (P : Program) (w : World) (K : PySem.W.Frag) (mg : Str → Option Value) (base : Heap) (N : List Str) (qual : Str) (st : Stmt) (f : Addr) (cdv : Value) (A : Around) (outer : List Env) (s : Shared) (H : Hp) (E : XK) : Cx := cxOf (L2.CX P w) P w K mg base N qual (defScope st) f cdv A outer s H E
theorem fn_u {x qual : Str} {st : Stmt} {f : Addr} {fd : FuncData} {N ps : List Str} {k : Nat} (Fd : Fun K x qual st f fd) (S : FnScope N ps (defScope st)) (fr : Bool) (spec : Spec) (len : ∀ us ex k, spec us ex k → us.length = ps.length)
    (h : ∃ m : US, (∀ (cdv : Value) (A : Around) (outer : List Env) (s : Shared) (H : Hp) (E : XK) (c : Uc), c.W.K = K → c.W.mg = mg → c.fr = fr → Room k (A.deeper (envOfC qual (defScope st) s.heap.objs.size f cdv)) →
        Fit c (cxU P w K mg base N qual st f cdv A outer s H E) → PSs (cxU P w K mg base N qual st f cdv A outer s H E) (defBody st) (ts c m)) ∧
      ∀ us ex k, spec us ex k → m { nx := fun _ => fr = false ∧ k .non, rt := k, ex := fun _ => ex } (startE N.length us)) :
    FnOk P w K mg base (L2.CX P w) (k + 1) f fd ps (Pr P w K mg fr spec) := by
  obtain ⟨m, hm, hs⟩ := h
  refine Fd.okX S (fun vs H Q E h => ?_) (fun cdv A outer s H vs Q E hr h => ?_)
  · obtain ⟨st, F, us, ex, k, p, r, h, _⟩ := h
    rw [r.length]
    exact len _ _ _ h
  · obtain ⟨st, F, us, ex, k, p, r, h, hx, hk⟩ := h
    refine ⟨_, hm cdv A outer s H E ⟨⟨K, mg, st, none, DN P w⟩, F, H, fun C d _ H => E C d H, fr, (0, 0)⟩ rfl rfl rfl hr ⟨rfl, rfl, rfl, rfl, takes_of rfl rfl rfl rfl⟩, F, _, _, rel_start (c := ⟨⟨K, mg, st, none, DN P w⟩, F, H, fun C d _ H => E C d H, fr, (0, 0)⟩) p r, hs us _ _ h, ?_⟩
    exact ⟨fun F' σ' env' H' _ R' ⟨hf, h'⟩ => hk F' H' _ _ ⟨R'.base, R'.pool⟩ .non (fun z => by rw [hf] at z; cases z) h', fun _ _ _ _ _ _ h' => h'.elim, fun _ _ _ _ _ _ h' => h'.elim, fun F' H' v u x r' hf h' => hk F' H' v u x r' hf h',
      fun F' σ' env' H' C d fvs cn fus R' e1 e2 e3 h' => hx F' H' C d fvs cn fus ⟨R'.base, R'.pool⟩ e1 e2 e3 h'⟩
end
/-! ### calls of defs -/
def flatU : U → Bool
  | .non => true
  | .bl _ => true
  | .int _ => true
  | .str _ => true
  | _ => false
theorem flat_rep {W W' : Wd} {F F' : Hp} {v : V} {u : U} (h : flatU u = true) (r : rep W F v u) : rep W' F' v u := by
  cases r with
  | non => exact .non
  | bl => exact .bl _
  | int => exact .int _
  | str => exact .str _
  | _ => cases h
/-- what is handed in is kept by the pool from now on -/
def uCall (spec : Spec) (ms : UA) : UM := fun ex env k => ms ex env fun ys env1 => UL.pins env1 ys fun us env2 => spec us (ex env2) fun r => k (.val r) env2
def fCall (spec : Spec) (ms : UA) : UF := fun ex env k => ms ex env fun ys env1 => UL.pins env1 ys fun us env2 => spec us (ex env2) fun r => match r with
  | .lst zs => k zs env2
  | _ => False
/-- what is handed in is only read, what comes back is flat -/
def uCallV (spec : Spec) (ms : UA) : UM := fun ex env k => ms ex env fun ys env1 => vws env1 ys fun us => spec us (fun cn fus => (∀ p ∈ fus, flatU p.2 = true) ∧ ex env1 cn fus) fun r => flatU r = true ∧ k (.val r) env1
theorem flat_repf {W W' : Wd} {F F' : Hp} {vs : List (Str × V)} {us : List (Str × U)} (r : repf W F vs us) (h : ∀ p ∈ us, flatU p.2 = true) : repf W' F' vs us := by
  induction vs generalizing us with
  | nil => cases r; exact .nil
  | cons v vs ih =>
    cases r with
    | cons a r => exact .cons (flat_rep (h _ (List.mem_cons_self ..)) a) (ih r fun p hp => h p (List.mem_cons_of_mem _ hp))
section
variable {X : Cx} {c : Uc} {k : Nat} {f : Addr} {fd : FuncData} {ps : List Str} {spec : Spec} {fr : Bool} {x : Str} {p pos : Pos} {e : Expr} {es : List Expr} {ms : UA}
theorem Rel.fpCall {F H F' H' : Hp} {σ : List (Option V)} {env : List Slot} {p : Addr} (R : Rel c F σ env H) (x : Ext c.W F H F' H') (h0 : H p = none) : FtOk c F' σ env H' [p] :=
  R.fpNext' R.fp rfl rfl (fun i t e => ⟨e, rfl⟩) x.same (fun b o e n _ _ => x.1.keep b o n e) (fun b o e => (x.1.new b o e).elim .inl fun z => .inr (.inl z)) (fun j xs b e f => .inr (.inl ⟨j, xs, e, f⟩)) fun b z => .inr (by rw [List.mem_singleton] at z; rw [z]; exact h0)
theorem spec_call {F H : Hp} {σ : List (Option V)} {env : List Slot} {ex : XC} {vs : List V} {us : List U} {k : U → Prop} {Q : VK} (ft : Fit c X) (R : Rel c F σ env H) (r : reps c.W F vs us) (hw : Wants c ex) (h : spec us (ex env) k)
    (hk : ∀ F' H' v u, Ext c.W F H F' H' → Rel c F' σ env H' → rep c.W F' v u → (fr = true → FrR c.W F H v u H') → k u → Q v H') : Pr X.prog X.w X.K X.mg fr spec vs H Q (WE c.wx σ) := by
  obtain ⟨⟨cK, cmg, cst, chot, cdn⟩, cF, cH, cwx, cfr, cme⟩ := c
  obtain rfl : chot = none := ft.cool
  obtain rfl : cdn = DN X.prog X.w := ft.dn
  rw [← ft.K, ← ft.mg]
  exact ⟨cst, F, us, _, k, R.pool, r, h, fun F' H' C d fvs cn fus x e1 e2 e3 h' => hw F' σ env H' C d fvs cn fus (R.ext x) e1 e2 e3 h', fun F' H' v u x r' hf h' => hk F' H' v u x (R.ext x) r' hf h'⟩
theorem ue_call (ft : Fit c X) (G : FnOk X.prog X.w X.K X.mg X.base (L2.CX X.prog X.w) k f fd ps (Pr X.prog X.w X.K X.mg fr spec)) (hr : Room k X.A) (hg : Gl X x) (hm : X.mg x = some (.ref f)) (hk : PySem.W.keepIn X.K (.ref f) = true) (hb : Binds X.K fd ps []) (ha : PA X (e :: es) (ta c ms))
    (hdb : (x == ("__debug__" : Str)) = false := by decide) (he : starEach (e :: es) X.env = (false, eval e X.env) :: starEach es X.env := by rfl) (hpl : (backTo pos (starEach es X.env)).any (·.1) = false := by rfl) : PE X (.Call (.Name x p) (e :: es) [] pos) (tm c (uCall spec ms)) :=
  PE.imp (pe_callS G hr hg hm hk hb (fun σ => passAt ft.tk σ) ha hdb he hpl) fun σ H Q ⟨F, env, ex, k, R, hm, hw, hk⟩ => by
    refine ⟨F, env, ex, _, R, hm, hw, fun F1 H1 env1 vs ys s1 R1 o1 h1 => ?_⟩
    obtain ⟨F2, env2, us, s2, R2, r2, h2⟩ := R1.pins o1 h1
    exact spec_call ft R2 r2 hw h2 fun F3 H3 v u x3 R3 r3 _ h3 => hk F3 H3 env2 v (.val u) ((s1.trans s2).ext x3) R3 r3 h3
theorem uf_call (ft : Fit c X) (G : FnOk X.prog X.w X.K X.mg X.base (L2.CX X.prog X.w) k f fd ps (Pr X.prog X.w X.K X.mg true spec)) (hr : Room k X.A) (hg : Gl X x) (hm : X.mg x = some (.ref f)) (hk : PySem.W.keepIn X.K (.ref f) = true) (hb : Binds X.K fd ps []) (ha : PA X (e :: es) (ta c ms))
    (hdb : (x == ("__debug__" : Str)) = false := by decide) (he : starEach (e :: es) X.env = (false, eval e X.env) :: starEach es X.env := by rfl) (hpl : (backTo pos (starEach es X.env)).any (·.1) = false := by rfl) : PE X (.Call (.Name x p) (e :: es) [] pos) (tf c (fCall spec ms)) :=
  PE.imp (pe_callS G hr hg hm hk hb (fun σ => passAt ft.tk σ) ha hdb he hpl) fun σ H Q ⟨F, env, ex, k, R, hm, hw, hk⟩ => by
    refine ⟨F, env, ex, _, R, hm, hw, fun F1 H1 env1 vs ys s1 R1 o1 h1 => ?_⟩
    obtain ⟨F2, env2, us, s2, R2, r2, h2⟩ := R1.pins o1 h1
    refine spec_call ft R2 r2 hw h2 fun F3 H3 v u x3 R3 r3 hf h3 => ?_
    obtain ⟨p, ws, zs, Fm, rfl, rfl, h0, hm, h4, h5, h6⟩ := hf rfl
    have x := s1.trans s2
    exact hk Fm H3 env2 p ws zs (x.liv p h0) (x.ext h6) ⟨R2.ext h6, hm, R2.freshH0 h0, h4, h5, R2.pool.neStore h0, (fun j ys ej z => by
      obtain ⟨o, k1, k2⟩ := R2.slot j _ ej
      rw [z] at k1; cases k1
      obtain ⟨p', ws', e', _, _, k5, _⟩ := k2
      cases e'
      rw [h0] at k5; cases k5), R2.fpCall h6 h0⟩ h3
open Classical in
/-- all but the store -/
noncomputable def allBut (W : Wd) (H : Hp) : Hp := fun b => if ∃ a cc, W.st = some (a, cc) ∧ b = a then none else H b
theorem allBut_of {W : Wd} {H : Hp} {b : Addr} (h : ∀ a cc, W.st = some (a, cc) → b ≠ a) : allBut W H b = H b := by
  unfold allBut
  rw [if_neg]
  rintro ⟨a, cc, h1, h2⟩
  exact h a cc h1 h2
theorem allBut_sub {W : Wd} {H : Hp} : Same (allBut W H) H := fun b o e => by
  unfold allBut at e
  split at e
  · cases e
  · exact e
theorem Pool.le_all {W : Wd} {F H : Hp} (P : Pool W F H) : Same F (allBut W H) := fun b o e => by
  rw [allBut_of fun a cc h z => by rw [z, (P.sto a cc h).1] at e; cases e]
  exact P.sub b o e
theorem Pool.all {W : Wd} {F H : Hp} (P : Pool W F H) : Pool W (allBut W H) H where
  sub := allBut_sub
  sto := fun a cc h => by
    obtain ⟨h1, ⟨ns, h2⟩, h3⟩ := P.sto a cc h
    refine ⟨?_, ⟨ns, P.le_all _ _ h2⟩, h3⟩
    unfold allBut
    rw [if_pos ⟨a, cc, h, rfl⟩]
theorem Views.reps {W : Wd} {F H : Hp} (P : Pool W F H) {vs : List V} {us : List U} (h : Views W F H vs us) : UL.reps W (allBut W H) vs us := by
  induction h with
  | nil => exact .nil
  | cons a _ ih =>
    refine .cons ?_ ih
    cases a with
    | pool r => exact r.mono P.le_all
    | own h r n => exact .lst (by rw [allBut_of n]; exact h) (r.mono P.le_all)
theorem Rel.beside {F H F' H' : Hp} {σ : List (Option V)} {env : List Slot} (R : Rel c F σ env H) (x : Ext c.W (allBut c.W H) H F' H') : Rel c F σ env H' ∧ Stp c σ F env H F env H' := by
  have kp : ∀ b o, H b = some o → (∀ a cc, c.W.st = some (a, cc) → b ≠ a) → H' b = some o := fun b o e n => x.1.keep b o n e
  have lv : ∀ b, H' b = none → H b = none := fun b h => by
    cases q : H b with
    | none => rfl
    | some o =>
      by_cases n : ∀ a cc, c.W.st = some (a, cc) → b ≠ a
      · rw [kp b o q n] at h; cases h
      · exfalso; apply n; intro a' cc hs e; subst e; exact x.2.alive hs h
  have P' : Pool c.W F H' := ⟨fun b o e => x.2.sub b o (x.1.pool b o (R.pool.le_all b o e)), fun a cc h => by
    obtain ⟨h1, h2, _⟩ := R.pool.sto a cc h
    obtain ⟨_, _, h3⟩ := x.2.sto a cc h
    exact ⟨h1, h2, h3⟩⟩
  refine ⟨⟨P', ⟨fun b o n e => kp b o (R.base.keep b o n e) n, R.base.pool, R.base.new⟩, R.len, fun j s e => ?_, R.dist, R.one, R.fpNext rfl rfl (fun i t e => ⟨e, rfl⟩) (Same.refl F) (fun b o e n _ => kp b o e n) (fun _ _ z => .inl z) fun j xs b e f => .inr ⟨j, xs, e, f⟩⟩, ⟨Same.refl F, fun j ys h => ⟨ys, h⟩, fun _ _ h => h, fun b o h n _ => kp b o h n, fun _ _ h => .inl h, lv, P'⟩⟩
  obtain ⟨o, h1, h2⟩ := R.slot j s e
  refine ⟨o, h1, ?_⟩
  cases s with
  | no => cases o <;> trivial
  | val u => cases o with
    | none => exact h2.elim
    | some v => exact h2
  | own xs =>
    cases o with
    | none => exact h2.elim
    | some v =>
      obtain ⟨q, ws, rfl, h3, h4, h5, h6, h7⟩ := h2
      exact ⟨q, ws, rfl, h3, h4, kp q _ h5 h7, h6, h7⟩
  | mk cn fs =>
    cases o with
    | none => exact h2.elim
    | some v =>
      obtain ⟨q, C, dx, ws, rfl, h0, h3, h4, h5, h6, h7⟩ := h2
      exact ⟨q, C, dx, ws, rfl, h0, h3, h4, kp q _ h5 h7, h6, h7⟩
  | pas t =>
    cases o with
    | none => exact h2.elim
    | some v => trivial
theorem ue_callV (ft : Fit c X) (G : FnOk X.prog X.w X.K X.mg X.base (L2.CX X.prog X.w) k f fd ps (Pr X.prog X.w X.K X.mg fr spec)) (hr : Room k X.A) (hg : Gl X x) (hm : X.mg x = some (.ref f)) (hk : PySem.W.keepIn X.K (.ref f) = true) (hb : Binds X.K fd ps []) (ha : PA X (e :: es) (ta c ms))
    (hdb : (x == ("__debug__" : Str)) = false := by decide) (he : starEach (e :: es) X.env = (false, eval e X.env) :: starEach es X.env := by rfl) (hpl : (backTo pos (starEach es X.env)).any (·.1) = false := by rfl) : PE X (.Call (.Name x p) (e :: es) [] pos) (tm c (uCallV spec ms)) :=
  PE.imp (pe_callS G hr hg hm hk hb (fun σ => passAt ft.tk σ) ha hdb he hpl) fun σ H Q ⟨F, env, ex, k, R, hm, hw, hk⟩ => by
    refine ⟨F, env, ex, _, R, hm, hw, fun F1 H1 env1 vs ys s1 R1 o1 h1 => ?_⟩
    obtain ⟨us, e1, h1⟩ := vws_elim h1
    have r1 := (R1.views o1 e1).reps R1.pool
    obtain ⟨⟨cK, cmg, cst, chot, cdn⟩, cF, cH, cwx, cfr, cme⟩ := c
    obtain rfl : chot = none := ft.cool
    obtain rfl : cdn = DN X.prog X.w := ft.dn
    rw [← ft.K, ← ft.mg]
    refine ⟨cst, allBut ⟨cK, cmg, cst, none, DN X.prog X.w⟩ H1, us, _, _, R1.pool.all, r1, h1, fun F' H' C d fvs cn fus x e1 e2 e3 ⟨hf, h'⟩ => ?_, fun F' H' v u x r' _ ⟨hf, h'⟩ => ?_⟩
    · exact hw F1 σ env1 H' C d fvs cn fus (R1.beside x).1 e1 e2 (flat_repf e3 hf) h'
    · obtain ⟨R', s'⟩ := R1.beside x
      exact hk F1 H' env1 v (.val u) (s1.trans s') R' (flat_rep hf r') h'
end
end UL

namespace UL
open PySem PySem.Spec PyProof.Rows L2
/-! ### operators -/
def gI (C : Int → Int → Prop) (g : Int → Int → U) : G2 := fun u w κ => match u, w with
  | .int i, .int j => C i j ∧ κ (g i j)
  | _, _ => False
def gI0 (g : Int → Int → U) : G2 := fun u w κ => match u, w with
  | .int i, .int j => κ (g i j)
  | _, _ => False
section
variable {W : Wd}
theorem snd_I {C : Int → Int → Prop} {g : Int → Int → V} {g' : Int → Int → U} (h : ∀ i j F, rep W F (g i j) (g' i j)) : Snd2 W (rI C g) (gI C g') := fun F H x u y w κ Q P hx hy hg hk => by
  unfold gI at hg
  split at hg
  · rename_i i j
    obtain ⟨c, hg⟩ := hg
    exact ⟨i, j, hx.int, hy.int, c, hk F H _ _ (Ext.refl P) (h i j F) hg⟩
  · exact hg.elim
theorem snd_I0 {g : Int → Int → V} {g' : Int → Int → U} (h : ∀ i j F, rep W F (g i j) (g' i j)) : Snd2 W (rI0 g) (gI0 g') := fun F H x u y w κ Q P hx hy hg hk => by
  unfold gI0 at hg
  split at hg
  · rename_i i j
    exact ⟨i, j, hx.int, hy.int, hk F H _ _ (Ext.refl P) (h i j F) hg⟩
  · exact hg.elim
/-- two texts -/
def gS (C : Str → Str → Prop) (g : Str → Str → U) : G2 := fun u w κ => match u, w with
  | .str i, .str j => C i j ∧ κ (g i j)
  | _, _ => False
def gS0 (g : Str → Str → U) : G2 := fun u w κ => match u, w with
  | .str i, .str j => κ (g i j)
  | _, _ => False
theorem snd_S {C : Str → Str → Prop} {g : Str → Str → V} {g' : Str → Str → U} (h : ∀ i j F, rep W F (g i j) (g' i j)) : Snd2 W (fun x y H Q => ∃ i j, x = .str i ∧ y = .str j ∧ C i j ∧ Q (g i j) H) (gS C g') := fun F H x u y w κ Q P hx hy hg hk => by
  unfold gS at hg
  split at hg
  · rename_i i j
    obtain ⟨c, hg⟩ := hg
    exact ⟨i, j, hx.str, hy.str, c, hk F H _ _ (Ext.refl P) (h i j F) hg⟩
  · exact hg.elim
theorem snd_S0 {g : Str → Str → V} {g' : Str → Str → U} (h : ∀ i j F, rep W F (g i j) (g' i j)) : Snd2 W (fun x y H Q => ∃ i j, x = .str i ∧ y = .str j ∧ Q (g i j) H) (gS0 g') := fun F H x u y w κ Q P hx hy hg hk => by
  unfold gS0 at hg
  split at hg
  · rename_i i j
    exact ⟨i, j, hx.str, hy.str, hk F H _ _ (Ext.refl P) (h i j F) hg⟩
  · exact hg.elim
/-- == of flat data of one kind -/
def eqU : U → U → Bool
  | .non, .non => true
  | .bl a, .bl b => a == b
  | .bl a, .int b => (if a then 1 else 0) == b
  | .int a, .bl b => a == (if b then 1 else 0)
  | .int a, .int b => a == b
  | .str a, .str b => a == b
  | _, _ => false
def scalU : U → U → Bool
  | .non, .non => true
  | .non, .int _ => true
  | .int _, .non => true
  | .non, .bl _ => true
  | .bl _, .non => true
  | .non, .str _ => true
  | .str _, .non => true
  | .int _, .int _ => true
  | .bl _, .bl _ => true
  | .str _, .str _ => true
  | .int _, .str _ => true
  | .str _, .int _ => true
  | .bl _, .str _ => true
  | .str _, .bl _ => true
  | _, _ => false
def gEq (neg : Bool) : G2 := fun u w κ => scalU u w = true ∧ κ (.bl (if neg then !eqU u w else eqU u w))
theorem scal_of {F : Hp} {x y : V} {u w : U} (hx : rep W F x u) (hy : rep W F y w) (h : scalU u w = true) : scal x y = true ∧ decide (x = y) = eqU u w := by
  match u, w, hx, hy, h with
  | .non, .non, hx, hy, _ => cases hx; cases hy; exact ⟨rfl, rfl⟩
  | .non, .int j, hx, hy, _ => cases hx; cases hy; exact ⟨rfl, rfl⟩
  | .int i, .non, hx, hy, _ => cases hx; cases hy; exact ⟨rfl, rfl⟩
  | .non, .bl j, hx, hy, _ => cases hx; cases hy; exact ⟨rfl, rfl⟩
  | .bl i, .non, hx, hy, _ => cases hx; cases hy; exact ⟨rfl, rfl⟩
  | .non, .str j, hx, hy, _ => cases hx; cases hy; exact ⟨rfl, rfl⟩
  | .str i, .non, hx, hy, _ => cases hx; cases hy; exact ⟨rfl, rfl⟩
  | .int i, .int j, hx, hy, _ => cases hx; cases hy; exact ⟨rfl, by show decide (V.int i = V.int j) = (i == j); by_cases e : i = j <;> simp [e]⟩
  | .bl i, .bl j, hx, hy, _ => cases hx; cases hy; exact ⟨rfl, by cases i <;> cases j <;> rfl⟩
  | .str i, .str j, hx, hy, _ => cases hx; cases hy; exact ⟨rfl, by show decide (V.str i = V.str j) = (i == j); by_cases e : i = j <;> simp [e]⟩
  | .int i, .str j, hx, hy, _ => cases hx; cases hy; exact ⟨rfl, rfl⟩
  | .str i, .int j, hx, hy, _ => cases hx; cases hy; exact ⟨rfl, rfl⟩
  | .bl i, .str j, hx, hy, _ => cases hx; cases hy; exact ⟨rfl, rfl⟩
  | .str i, .bl j, hx, hy, _ => cases hx; cases hy; exact ⟨rfl, rfl⟩
theorem View.flat {F H : Hp} {x : V} {u : U} (h : View W F H x u) (f : flatU u = true) : UL.rep W F x u := by
  cases h with
  | pool r => exact r
  | own => cases f
theorem scalU_flat {u w : U} (h : scalU u w = true) : flatU u = true ∧ flatU w = true := by
  match u, w, h with
  | .non, .non, _ => exact ⟨rfl, rfl⟩
  | .non, .int j, _ => exact ⟨rfl, rfl⟩
  | .int i, .non, _ => exact ⟨rfl, rfl⟩
  | .non, .bl j, _ => exact ⟨rfl, rfl⟩
  | .bl i, .non, _ => exact ⟨rfl, rfl⟩
  | .non, .str j, _ => exact ⟨rfl, rfl⟩
  | .str i, .non, _ => exact ⟨rfl, rfl⟩
  | .int i, .int j, _ => exact ⟨rfl, rfl⟩
  | .bl i, .bl j, _ => exact ⟨rfl, rfl⟩
  | .str i, .str j, _ => exact ⟨rfl, rfl⟩
  | .int i, .str j, _ => exact ⟨rfl, rfl⟩
  | .str i, .int j, _ => exact ⟨rfl, rfl⟩
  | .bl i, .str j, _ => exact ⟨rfl, rfl⟩
  | .str i, .bl j, _ => exact ⟨rfl, rfl⟩
theorem snd_eq : Snd2 W rEq (gEq false) := fun F H x u y w κ Q P hx hy ⟨hs, hg⟩ hk => by
  obtain ⟨f1, f2⟩ := scalU_flat hs
  obtain ⟨h1, h2⟩ := scal_of (hx.flat f1) (hy.flat f2) hs
  exact ⟨h1, by rw [h2]; exact hk F H _ _ (Ext.refl P) (.bl _) hg⟩
theorem snd_ne : Snd2 W rNe (gEq true) := fun F H x u y w κ Q P hx hy ⟨hs, hg⟩ hk => by
  obtain ⟨f1, f2⟩ := scalU_flat hs
  obtain ⟨h1, h2⟩ := scal_of (hx.flat f1) (hy.flat f2) hs
  exact ⟨h1, by rw [h2]; exact hk F H _ _ (Ext.refl P) (.bl _) hg⟩
/-- is None -/
def isNon : U → Bool
  | .non => true
  | _ => false
def gIsN (neg : Bool) : G2 := fun u w κ => match w with
  | .non => κ (.bl (if neg then !isNon u else isNon u))
  | _ => False
theorem isNon_of {F H : Hp} {x : V} {u : U} (h : View W F H x u) : decide (x = .non) = isNon u := by
  cases h with
  | pool r => cases r <;> rfl
  | own => rfl
theorem snd_isN : Snd2 W (fun x y H Q => y = .non ∧ Q (.bl (decide (x = .non))) H) (gIsN false) := fun F H x u y w κ Q P hx hy hg hk => by
  unfold gIsN at hg
  split at hg
  · skip
    cases hy with
    | pool r => cases r; exact ⟨rfl, by rw [isNon_of hx]; exact hk F H _ _ (Ext.refl P) (.bl _) hg⟩
  · exact hg.elim
theorem snd_notN : Snd2 W (fun x y H Q => y = .non ∧ Q (.bl (!decide (x = .non))) H) (gIsN true) := fun F H x u y w κ Q P hx hy hg hk => by
  unfold gIsN at hg
  split at hg
  · skip
    cases hy with
    | pool r => cases r; exact ⟨rfl, by rw [isNon_of hx]; exact hk F H _ _ (Ext.refl P) (.bl _) hg⟩
  · exact hg.elim
/-- in a list, in a tuple: flat things -/
def inU (u : U) (us : List U) : Bool := us.any fun y => eqU y u
def gIn (neg : Bool) : G2 := fun u w κ => flatU u = true ∧ match w with
  | .lst us => us.all flatU = true ∧ κ (.bl (if neg then !inU u us else inU u us))
  | .tup us => us.all flatU = true ∧ κ (.bl (if neg then !inU u us else inU u us))
  | _ => False
theorem flat_V {F : Hp} {x : V} {u : U} (h : rep W F x u) (f : flatU u = true) : flatV x = true := by
  cases h <;> first | rfl | cases f
theorem flats_V {F : Hp} : ∀ {xs : List V} {us : List U}, reps W F xs us → us.all flatU = true → xs.all flatV = true
  | _, _, .nil, _ => rfl
  | _, _, .cons a r, h => by
    rw [List.all_cons, Bool.and_eq_true] at h
    rw [List.all_cons, flat_V a h.1, flats_V r h.2]; rfl
theorem eqV_of {F : Hp} {x y : V} {u w : U} (hx : rep W F x u) (hy : rep W F y w) (f1 : flatU u = true) (f2 : flatU w = true) : eqV x y = eqU u w := by
  match u, w, hx, hy, f1, f2 with
  | .non, .non, hx, hy, _, _ => cases hx; cases hy; rfl
  | .non, .bl j, hx, hy, _, _ => cases hx; cases hy; rfl
  | .non, .int j, hx, hy, _, _ => cases hx; cases hy; rfl
  | .non, .str j, hx, hy, _, _ => cases hx; cases hy; rfl
  | .bl i, .non, hx, hy, _, _ => cases hx; cases hy; rfl
  | .bl i, .bl j, hx, hy, _, _ => cases hx; cases hy; rfl
  | .bl i, .int j, hx, hy, _, _ => cases hx; cases hy; rfl
  | .bl i, .str j, hx, hy, _, _ => cases hx; cases hy; rfl
  | .int i, .non, hx, hy, _, _ => cases hx; cases hy; rfl
  | .int i, .bl j, hx, hy, _, _ => cases hx; cases hy; rfl
  | .int i, .int j, hx, hy, _, _ => cases hx; cases hy; rfl
  | .int i, .str j, hx, hy, _, _ => cases hx; cases hy; rfl
  | .str i, .non, hx, hy, _, _ => cases hx; cases hy; rfl
  | .str i, .bl j, hx, hy, _, _ => cases hx; cases hy; rfl
  | .str i, .int j, hx, hy, _, _ => cases hx; cases hy; rfl
  | .str i, .str j, hx, hy, _, _ => cases hx; cases hy; rfl
theorem inV_of {F : Hp} {x : V} {u : U} (hx : rep W F x u) (f1 : flatU u = true) : ∀ {xs : List V} {us : List U}, reps W F xs us → us.all flatU = true → inV x xs = inU u us
  | _, _, .nil, _ => rfl
  | _, _, .cons a r, h => by
    rw [List.all_cons, Bool.and_eq_true] at h
    have ih := inV_of hx f1 r h.2
    unfold inV inU at ih ⊢
    rw [List.any_cons, List.any_cons, eqV_of a hx h.1 f1, ih]
theorem snd_in (neg : Bool) : Snd2 W (rIn W.K neg) (gIn neg) := fun F H x u y w κ Q P hx hy ⟨f, hg⟩ hk => by
  have hx' := hx.flat f
  match w, hy, hg with
  | .lst us, hy, ⟨fa, hg⟩ =>
    obtain ⟨p, vs, rfl, h1, h2⟩ := hy.list P.sub
    refine ⟨p, vs, rfl, .inl (.inl (.inl h1)), flat_V hx' f, flats_V h2 fa, ?_⟩
    rw [inV_of hx' f h2 fa]
    exact hk F H _ _ (Ext.refl P) (.bl _) hg
  | .tup us, hy, ⟨fa, hg⟩ =>
    obtain ⟨p, vs, rfl, h1, h2⟩ := hy.tupl P.sub
    refine ⟨p, vs, rfl, .inr (Same.seqT P.sub h1), flat_V hx' f, flats_V h2 fa, ?_⟩
    rw [inV_of hx' f h2 fa]
    exact hk F H _ _ (Ext.refl P) (.bl _) hg
/-- one sign in a text -/
def gInS (neg : Bool) : G2 := fun u w κ => match u, w with
  | .str x, .str z => ∃ c, x = ⟨#[c]⟩ ∧ κ (.bl (if neg then !decide (c ∈ z.cps.toList) else decide (c ∈ z.cps.toList)))
  | _, _ => False
theorem snd_inS : Snd2 W (fun x y H Q => ∃ (c : Nat) (z : Str), x = .str ⟨#[c]⟩ ∧ y = .str z ∧ Q (.bl (decide (c ∈ z.cps.toList))) H) (gInS false) := fun F H x u y w κ Q P hx hy hg hk => by
  unfold gInS at hg
  split at hg
  · rename_i i j
    obtain ⟨c, e, hg⟩ := hg
    exact ⟨c, j, by rw [← e]; exact hx.str, hy.str, hk F H _ _ (Ext.refl P) (.bl _) hg⟩
  · exact hg.elim
theorem snd_notInS : Snd2 W (fun x y H Q => ∃ (c : Nat) (z : Str), x = .str ⟨#[c]⟩ ∧ y = .str z ∧ Q (.bl (!decide (c ∈ z.cps.toList))) H) (gInS true) := fun F H x u y w κ Q P hx hy hg hk => by
  unfold gInS at hg
  split at hg
  · rename_i i j
    obtain ⟨c, e, hg⟩ := hg
    exact ⟨c, j, by rw [← e]; exact hx.str, hy.str, hk F H _ _ (Ext.refl P) (.bl _) hg⟩
  · exact hg.elim
mutual
def toPy : U → Option PyData
  | .non => some .none
  | .bl b => some (.bool b)
  | .int i => some (.int i)
  | .str x => some (.str x)
  | .lst xs => (toPys xs).map .list
  | .tup xs => (toPys xs).map .tuple
  | .dct _ => none
  | .dcn _ _ => none
  | .ins _ _ => none
  | .sto => none
  | .ty _ => none
  | .cls _ => none
  | .exc _ _ => none
def toPys : List U → Option (List PyData)
  | [] => some []
  | x :: xs => match toPy x, toPys xs with
    | some d, some ds => some (d :: ds)
    | _, _ => none
end
mutual
theorem dp_of {F : Hp} : ∀ {x : V} {u : U} {d : PyData}, rep W F x u → toPy u = some d → Dp W.K F x d
  | _, _, _, .non, e => by cases e; exact .non
  | _, _, _, .bl b, e => by cases e; exact .bl b
  | _, _, _, .int i, e => by cases e; exact .int i
  | _, _, _, .str z, e => by cases e; exact .str z
  | _, _, _, .lst (us := us) h r, e => by
    unfold toPy at e
    cases q : toPys us with
    | none => rw [q] at e; cases e
    | some ds => rw [q] at e; cases e; exact .lst (.inl (.inl h)) (dps_of r q)
  | _, _, _, .tup (us := us) h r, e => by
    unfold toPy at e
    cases q : toPys us with
    | none => rw [q] at e; cases e
    | some ds => rw [q] at e; cases e; exact .tup h (dps_of r q)
  | _, _, _, .dct _ _, e => by unfold toPy at e; cases e
  | _, _, _, .dcn _ _ _, e => by unfold toPy at e; cases e
  | _, _, _, .ins _ _ _, e => by unfold toPy at e; cases e
  | _, _, _, .sto _, e => by unfold toPy at e; cases e
  | _, _, _, .ty _, e => by unfold toPy at e; cases e
  | _, _, _, .cls _, e => by unfold toPy at e; cases e
  | _, _, _, .exc _ _ _ _, e => by unfold toPy at e; cases e
theorem dps_of {F : Hp} : ∀ {x : List V} {u : List U} {d : List PyData}, reps W F x u → toPys u = some d → DpAll W.K F x d
  | _, _, _, .nil, e => by cases e; exact .nil
  | _, _, _, .cons (u := u) (us := us) a r, e => by
    unfold toPys at e
    cases q1 : toPy u with
    | none => simp only [q1] at e; cases e
    | some d =>
      cases q2 : toPys us with
      | none => simp only [q1, q2] at e; cases e
      | some ds => simp only [q1, q2] at e; cases e; exact .cons (dp_of a q1) (dps_of r q2)
end
def gEqD (neg : Bool) : G2 := fun u w κ => ∃ d e, toPy u = some d ∧ toPy w = some e ∧ SeqAt.shaped d = true ∧ SeqAt.shaped e = true ∧ κ (.bl (if neg then !PyData.eqv d e else PyData.eqv d e))
theorem snd_eqD : Snd2 W (rEqD W.K) (gEqD false) := fun F H x u y w κ Q P hx hy ⟨d, e, h1, h2, h3, h4, hg⟩ hk =>
  ⟨d, e, dp_of (hx.rep P.sub) h1, dp_of (hy.rep P.sub) h2, h3, h4, hk F H _ _ (Ext.refl P) (.bl _) hg⟩
theorem snd_neD : Snd2 W (rNeD W.K) (gEqD true) := fun F H x u y w κ Q P hx hy ⟨d, e, h1, h2, h3, h4, hg⟩ hk =>
  ⟨d, e, dp_of (hx.rep P.sub) h1, dp_of (hy.rep P.sub) h2, h3, h4, hk F H _ _ (Ext.refl P) (.bl _) hg⟩
/-! subscripts -/
def gIxL : G2 := fun u w κ => match u, w with
  | .lst us, .int i => ∃ r, atI us i = some r ∧ κ r
  | _, _ => False
def gIxT : G2 := fun u w κ => match u, w with
  | .tup us, .int i => ∃ r, atI us i = some r ∧ κ r
  | _, _ => False
def gIxS : G2 := fun u w κ => match u, w with
  | .str z, .int i => z.length ≤ 1000000 ∧ ∃ c, atI z.cps.toList i = some c ∧ κ (.str ⟨#[c]⟩)
  | _, _ => False
theorem atI_reps {F : Hp} {vs : List V} {us : List U} {i : Int} {r : U} (h : reps W F vs us) (e : atI us i = some r) : ∃ v, atI vs i = some v ∧ rep W F v r := by
  unfold atI at e ⊢
  rw [h.length]
  cases q : ixN us.length i with
  | none => rw [q] at e; cases e
  | some j =>
    rw [q] at e
    obtain ⟨v, h1, h2⟩ := h.get' (i := j) (u := r) e
    exact ⟨v, h1, h2⟩
theorem snd_ixL : Snd2 W (rIxL W.K) gIxL := fun F H x u y w κ Q P hx hy hg hk => by
  unfold gIxL at hg
  split at hg
  · rename_i us i
    obtain ⟨r, e, hg⟩ := hg
    obtain ⟨p, vs, rfl, h1, h2⟩ := hx.list P.sub
    obtain ⟨v, h3, h4⟩ := atI_reps h2 e
    exact ⟨p, vs, i, v, rfl, hy.int, .inl (.inl h1), h3, hk F H _ _ (Ext.refl P) h4 hg⟩
  · exact hg.elim
theorem snd_ixT : Snd2 W (rIxT W.K) gIxT := fun F H x u y w κ Q P hx hy hg hk => by
  unfold gIxT at hg
  split at hg
  · rename_i us i
    obtain ⟨r, e, hg⟩ := hg
    obtain ⟨p, vs, rfl, h1, h2⟩ := hx.tupl P.sub
    obtain ⟨v, h3, h4⟩ := atI_reps h2 e
    exact ⟨p, vs, i, v, rfl, hy.int, Same.seqT P.sub h1, h3, hk F H _ _ (Ext.refl P) h4 hg⟩
  · exact hg.elim
theorem szl {n : Nat} (h : n ≤ 1000000) : n ≤ sizeLine := Nat.le_trans h (by decide)
theorem szt {n : Nat} (h : n ≤ 1000000) : n < sizeLine := Nat.lt_of_le_of_lt h (by decide)
theorem snd_ixS : Snd2 W rIxS gIxS := fun F H x u y w κ Q P hx hy hg hk => by
  unfold gIxS at hg
  split at hg
  · rename_i z i
    obtain ⟨hl, c, e, hg⟩ := hg
    exact ⟨z, i, c, hx.str, hy.int, szl hl, e, hk F H _ _ (Ext.refl P) (.str _) hg⟩
  · exact hg.elim
/-! slices -/
def gSlS : U → Option Int → Option Int → (U → Prop) → Prop := fun u lo hi κ => match u with
  | .str z => z.length ≤ 1000000 ∧ κ (.str (cutS z lo hi))
  | _ => False
def cutU (us : List U) (lo hi : Option Int) : List U := (us.drop (HT.sIx us.length 0 lo)).take (HT.sIx us.length us.length hi - HT.sIx us.length 0 lo)
def gSlL : U → Option Int → Option Int → (List U → Prop) → Prop := fun u lo hi κ => match u with
  | .lst us => κ (cutU us lo hi)
  | _ => False
theorem snd_slS : Snd3 W rSlS gSlS := fun F H x u lo hi κ Q P hx hg hk => by
  unfold gSlS at hg
  split at hg
  · rename_i z
    obtain ⟨hl, hg⟩ := hg
    exact ⟨z, hx.str, szl hl, hk F H _ _ (Ext.refl P) (.str _) hg⟩
  · exact hg.elim
theorem cut_reps {F : Hp} {vs : List V} {us : List U} {lo hi : Option Int} (h : reps W F vs us) : reps W F (cutV vs lo hi) (cutU us lo hi) := by
  unfold cutV cutU
  rw [h.length]
  exact (h.drop _).take _
theorem snd_slL : Snd3F W (rSlL W.K) gSlL := fun F H x u lo hi κ Q P hx hg hk => by
  unfold gSlL at hg
  split at hg
  · rename_i us
    obtain ⟨p, vs, rfl, h1, h2⟩ := hx.list P.sub
    exact ⟨p, vs, rfl, .inl (.inl h1), fun q hq => hk q _ _ hq (cut_reps h2) hg⟩
  · exact hg.elim
/-! lists added -/
def gCat : L2' := fun u w κ => match u, w with
  | .lst us, .lst ws => us.length + ws.length ≤ 1000000 ∧ κ (us ++ ws)
  | _, _ => False
theorem snd_cat : Snd2F W rCat gCat := fun F H x u y w κ Q P hx hy hg hk => by
  unfold gCat at hg
  split at hg
  · rename_i us ws
    obtain ⟨hl, hg⟩ := hg
    obtain ⟨p, vs, rfl, h1, h2⟩ := hx.list P.sub
    obtain ⟨q, zs, rfl, h3, h4⟩ := hy.list P.sub
    exact ⟨p, q, vs, zs, rfl, rfl, h1, h3, by rw [h2.length, h4.length]; exact szl hl, fun r hr => hk r _ _ hr (h2.append h4) hg⟩
  · exact hg.elim
def gRep : L2' := fun u w κ => match u, w with
  | .lst us, .int k => 0 ≤ k ∧ k ≤ 1000000 ∧ us.length * k.toNat ≤ 1000000 ∧ κ (List.replicate k.toNat us).flatten
  | _, _ => False
theorem reps_flatten {F : Hp} {vs : List V} {us : List U} (h : reps W F vs us) : ∀ n, reps W F (List.replicate n vs).flatten (List.replicate n us).flatten
  | 0 => .nil
  | n + 1 => by rw [List.replicate_succ, List.replicate_succ, List.flatten_cons, List.flatten_cons]; exact h.append (reps_flatten h n)
theorem snd_rep : Snd2F W rRep gRep := fun F H x u y w κ Q P hx hy hg hk => by
  unfold gRep at hg
  split at hg
  · rename_i us k
    obtain ⟨k0, k1, hl, hg⟩ := hg
    obtain ⟨p, vs, rfl, h1, h2⟩ := hx.list P.sub
    exact ⟨p, k, vs, rfl, hy.int, h1, by omega, by omega, by rw [h2.length]; exact szl hl, fun r hr => hk r _ _ hr (reps_flatten h2 _) hg⟩
  · exact hg.elim
/-! ### built-ins -/
def nLen : GN := fun us κ => match us with
  | [.lst xs] => κ (.int xs.length)
  | [.tup xs] => κ (.int xs.length)
  | _ => False
theorem Views.one {F H : Hp} {vs : List V} {u : U} (h : Views W F H vs [u]) : ∃ v, vs = [v] ∧ View W F H v u := by
  cases h with
  | cons a r => cases r; exact ⟨_, rfl, a⟩
theorem Views.two {F H : Hp} {vs : List V} {u w : U} (h : Views W F H vs [u, w]) : ∃ v x, vs = [v, x] ∧ View W F H v u ∧ View W F H x w := by
  cases h with
  | cons a r => cases r with | cons b r => cases r; exact ⟨_, _, rfl, a, b⟩
theorem snd_len : SndN W (fun xs H Q => ∃ p ys, xs = [.ref p] ∧ (SqL W.K H p ys ∨ SqT W.K H p ys) ∧ Q (.int ys.length) H) nLen := fun F H vs us κ Q P hv hg hk => by
  unfold nLen at hg
  split at hg
  · rename_i xs
    obtain ⟨v, rfl, h⟩ := hv.one
    obtain ⟨p, vs, rfl, h1, h2⟩ := h.list P.sub
    exact ⟨p, vs, rfl, .inl (.inl (.inl h1)), by rw [h2.length]; exact hk F H _ _ (Ext.refl P) (.int _) hg⟩
  · rename_i xs
    obtain ⟨v, rfl, h⟩ := hv.one
    obtain ⟨p, vs, rfl, h1, h2⟩ := h.tupl P.sub
    exact ⟨p, vs, rfl, .inr (Same.seqT P.sub h1), by rw [h2.length]; exact hk F H _ _ (Ext.refl P) (.int _) hg⟩
  · exact hg.elim
def nLenS : GN := fun us κ => match us with
  | [.str z] => z.length ≤ 1000000 ∧ κ (.int z.length)
  | _ => False
theorem snd_lenS : SndN W (fun xs H Q => ∃ z, xs = [.str z] ∧ z.length ≤ sizeLine ∧ Q (.int z.length) H) nLenS := fun F H vs us κ Q P hv hg hk => by
  unfold nLenS at hg
  split at hg
  · rename_i z
    obtain ⟨hl, hg⟩ := hg
    obtain ⟨v, rfl, h⟩ := hv.one
    exact ⟨z, by rw [h.str], szl hl, hk F H _ _ (Ext.refl P) (.int _) hg⟩
  · exact hg.elim
def nInt : GN := fun us κ => match us with
  | [.int i] => κ (.int i)
  | [.bl k] => κ (.int (if k then 1 else 0))
  | _ => False
theorem snd_int : SndN W (fun xs H Q => (∃ i, xs = [.int i] ∧ Q (.int i) H) ∨ ∃ k, xs = [.bl k] ∧ Q (.int (if k then 1 else 0)) H) nInt := fun F H vs us κ Q P hv hg hk => by
  unfold nInt at hg
  split at hg
  · rename_i i
    obtain ⟨v, rfl, h⟩ := hv.one
    exact .inl ⟨i, by rw [h.int], hk F H _ _ (Ext.refl P) (.int _) hg⟩
  · rename_i i
    obtain ⟨v, rfl, h⟩ := hv.one
    exact .inr ⟨i, by rw [h.bl], hk F H _ _ (Ext.refl P) (.int _) hg⟩
  · exact hg.elim
def nStrI : GN := fun us κ => match us with
  | [.int i] => i.natAbs < 10 ^ 200 ∧ κ (.str (toString i))
  | _ => False
theorem snd_strI : SndN W (fun xs H Q => ∃ i, xs = [.int i] ∧ i.natAbs.log2 < 1920 ∧ Q (.str (toString i)) H) nStrI := fun F H vs us κ Q P hv hg hk => by
  unfold nStrI at hg
  split at hg
  · rename_i i
    obtain ⟨hl, hg⟩ := hg
    obtain ⟨v, rfl, h⟩ := hv.one
    exact ⟨i, by rw [h.int], PySem.Flt.log2_lt_of (by decide) (Nat.lt_trans hl (by decide +kernel)), hk F H _ _ (Ext.refl P) (.str _) hg⟩
  · exact hg.elim
def nMax : GN := fun us κ => match us with
  | [.int i, .int j] => κ (.int (if j > i then j else i))
  | _ => False
def nMin : GN := fun us κ => match us with
  | [.int i, .int j] => κ (.int (if j < i then j else i))
  | _ => False
theorem snd_max : SndN W (fun xs H Q => ∃ i j, xs = [.int i, .int j] ∧ Q (.int (if j > i then j else i)) H) nMax := fun F H vs us κ Q P hv hg hk => by
  unfold nMax at hg
  split at hg
  · rename_i i j
    obtain ⟨v, x, rfl, h, h'⟩ := hv.two
    exact ⟨i, j, by rw [h.int, h'.int], hk F H _ _ (Ext.refl P) (.int _) hg⟩
  · exact hg.elim
theorem snd_min : SndN W (fun xs H Q => ∃ i j, xs = [.int i, .int j] ∧ Q (.int (if j < i then j else i)) H) nMin := fun F H vs us κ Q P hv hg hk => by
  unfold nMin at hg
  split at hg
  · rename_i i j
    obtain ⟨v, x, rfl, h, h'⟩ := hv.two
    exact ⟨i, j, by rw [h.int, h'.int], hk F H _ _ (Ext.refl P) (.int _) hg⟩
  · exact hg.elim
def nList : LN := fun us κ => match us with
  | [.lst xs] => κ xs
  | [.tup xs] => κ xs
  | _ => False
theorem snd_list : SndNF W (fun xs H Q => ∃ p ys, xs = [.ref p] ∧ (SqL W.K H p ys ∨ SqT W.K H p ys) ∧ ∀ l, H l = none → Q (.ref l) (upd H l (.lst ys))) nList := fun F H vs us κ Q P hv hg hk => by
  unfold nList at hg
  split at hg
  · rename_i xs
    obtain ⟨v, rfl, h⟩ := hv.one
    obtain ⟨p, vs, rfl, h1, h2⟩ := h.list P.sub
    exact ⟨p, vs, rfl, .inl (.inl (.inl h1)), fun l hl => hk l _ _ hl h2 hg⟩
  · rename_i xs
    obtain ⟨v, rfl, h⟩ := hv.one
    obtain ⟨p, vs, rfl, h1, h2⟩ := h.tupl P.sub
    exact ⟨p, vs, rfl, .inr (Same.seqT P.sub h1), fun l hl => hk l _ _ hl h2 hg⟩
  · exact hg.elim
def nTuple : GN := fun us κ => match us with
  | [.lst xs] => κ (.tup xs)
  | [.tup xs] => κ (.tup xs)
  | _ => False
theorem snd_tuple : SndN W (fun xs H Q => ∃ p ys, xs = [.ref p] ∧ ((SqL W.K H p ys ∧ ∀ l, H l = none → Q (.ref l) (upd H l (.tup ys))) ∨ (SqT W.K H p ys ∧ Q (.ref p) H))) nTuple := fun F H vs us κ Q P hv hg hk => by
  unfold nTuple at hg
  split at hg
  · rename_i xs
    obtain ⟨v, rfl, h⟩ := hv.one
    obtain ⟨p, vs, rfl, h1, h2⟩ := h.list P.sub
    exact ⟨p, vs, rfl, .inl ⟨.inl (.inl h1), fun l hl => by
      have x := Ext.new (o := .tup vs) P hl
      exact hk _ _ _ _ x (.tup (.inl (.inl upd_same)) (h2.mono x.same)) hg⟩⟩
  · rename_i xs
    obtain ⟨v, rfl, h⟩ := hv.one
    obtain ⟨p, vs, rfl, h1, h2⟩ := h.tupl P.sub
    exact ⟨p, vs, rfl, .inr ⟨Same.seqT P.sub h1, hk F H _ _ (Ext.refl P) (.tup h1 h2) hg⟩⟩
  · exact hg.elim
def bls : List U → Option (List Bool)
  | [] => some []
  | .bl b :: us => (bls us).map (b :: ·)
  | _ => none
theorem bls_of {F : Hp} : ∀ {vs : List V} {us : List U} {bs : List Bool}, reps W F vs us → bls us = some bs → vs = bs.map V.bl
  | _, _, _, .nil, e => by cases e; rfl
  | _, _, _, .cons (u := u) (us := us) a r, e => by
    match u, a, e with
    | .bl b, a, e =>
      cases a
      unfold bls at e
      cases q : bls us with
      | none => rw [q] at e; cases e
      | some cs => rw [q] at e; cases e; rw [List.map_cons, bls_of r q]
def nAll : GN := fun us κ => match us with
  | [.lst xs] => ∃ bs, bls xs = some bs ∧ κ (.bl (bs.all id))
  | _ => False
def nAny : GN := fun us κ => match us with
  | [.lst xs] => ∃ bs, bls xs = some bs ∧ κ (.bl (bs.any id))
  | _ => False
theorem snd_all : SndN W (rAll W.K) nAll := fun F H vs us κ Q P hv hg hk => by
  unfold nAll at hg
  split at hg
  · rename_i xs
    obtain ⟨bs, e, hg⟩ := hg
    obtain ⟨v, rfl, h⟩ := hv.one
    obtain ⟨p, vs, rfl, h1, h2⟩ := h.list P.sub
    exact ⟨p, bs, rfl, by rw [← bls_of h2 e]; exact .inl (.inl h1), hk F H _ _ (Ext.refl P) (.bl _) hg⟩
  · exact hg.elim
theorem snd_any : SndN W (rAny W.K) nAny := fun F H vs us κ Q P hv hg hk => by
  unfold nAny at hg
  split at hg
  · rename_i xs
    obtain ⟨bs, e, hg⟩ := hg
    obtain ⟨v, rfl, h⟩ := hv.one
    obtain ⟨p, vs, rfl, h1, h2⟩ := h.list P.sub
    exact ⟨p, bs, rfl, by rw [← bls_of h2 e]; exact .inl (.inl h1), hk F H _ _ (Ext.refl P) (.bl _) hg⟩
  · exact hg.elim
/-! texts -/
def txs (zs : List Str) : List U := zs.map U.str
theorem txs_of {F : Hp} : ∀ {zs : List Str} {vs : List V}, reps W F vs (txs zs) → vs = zs.map V.str
  | [], _, .nil => rfl
  | _ :: _, _, .cons a r => by cases a; rw [List.map_cons, txs_of r]
theorem of_txs {F : Hp} : ∀ {zs : List Str}, reps W F (zs.map V.str) (txs zs)
  | [] => .nil
  | _ :: _ => .cons (.str _) of_txs
end
end UL

namespace UL
open PySem PySem.Spec PyProof.Rows L2
section
variable {W : Wd}
abbrev gAddI : G2 := gI0 fun i j => .int (i + j)
abbrev gSubI : G2 := gI0 fun i j => .int (i - j)
abbrev gMulI : G2 := gI CMul fun i j => .int (i * j)
abbrev gModI : G2 := gI (fun _ j => j ≠ 0) fun i j => .int (i.fmod j)
abbrev gDivI : G2 := gI CDivW fun i j => .int (i / j)
abbrev gPowI : G2 := gI CPow fun i j => .int (i ^ j.toNat)
abbrev gLtI : G2 := gI0 fun i j => .bl (decide (i < j))
abbrev gLeI : G2 := gI0 fun i j => .bl (decide (i ≤ j))
abbrev gGtI : G2 := gI0 fun i j => .bl (decide (j < i))
abbrev gGeI : G2 := gI0 fun i j => .bl (decide (j ≤ i))
abbrev gAddS : G2 := gS (fun i j => i.length + j.length ≤ 1000000) fun i j => .str (i ++ j)
abbrev gLtS : G2 := gS0 fun i j => .bl (decide (i.cps.toList < j.cps.toList))
theorem s_addI : Snd2 W (rI0 fun i j => .int (i + j)) gAddI := snd_I0 fun _ _ _ => .int _
theorem s_subI : Snd2 W (rI0 fun i j => .int (i - j)) gSubI := snd_I0 fun _ _ _ => .int _
theorem s_mulI : Snd2 W (rI CMul fun i j => .int (i * j)) gMulI := snd_I fun _ _ _ => .int _
theorem s_modI : Snd2 W (rI (fun _ j => j ≠ 0) fun i j => .int (i.fmod j)) gModI := snd_I fun _ _ _ => .int _
theorem s_divI : Snd2 W (rI CDivW fun i j => .int (i / j)) gDivI := snd_I fun _ _ _ => .int _
theorem s_powI : Snd2 W (rI CPow fun i j => .int (i ^ j.toNat)) gPowI := snd_I fun _ _ _ => .int _
theorem s_ltI : Snd2 W (rI0 fun i j => .bl (decide (i < j))) gLtI := snd_I0 fun _ _ _ => .bl _
theorem s_leI : Snd2 W (rI0 fun i j => .bl (decide (i ≤ j))) gLeI := snd_I0 fun _ _ _ => .bl _
theorem s_gtI : Snd2 W (rI0 fun i j => .bl (decide (i > j))) gGtI := snd_I0 fun _ _ _ => .bl _
theorem s_geI : Snd2 W (rI0 fun i j => .bl (decide (i ≥ j))) gGeI := snd_I0 fun _ _ _ => .bl _
theorem s_addS : Snd2 W (fun x y H Q => ∃ i j, x = .str i ∧ y = .str j ∧ i.length + j.length ≤ sizeLine ∧ Q (.str (i ++ j)) H) gAddS := fun F H x u y w κ Q P hx hy hg hk =>
  snd_S (W := W) (C := fun i j => i.length + j.length ≤ sizeLine) (g := fun i j => .str (i ++ j)) (g' := fun i j => .str (i ++ j)) (fun _ _ _ => .str _) F H x u y w κ Q P hx hy (by
    unfold gAddS gS at hg
    unfold gS
    split at hg
    · exact ⟨szl hg.1, hg.2⟩
    · exact hg.elim) hk
theorem s_ltS : Snd2 W (fun x y H Q => ∃ i j, x = .str i ∧ y = .str j ∧ Q (.bl (decide (i.cps.toList < j.cps.toList))) H) gLtS := snd_S0 fun _ _ _ => .bl _
def gNegI : G1 := fun u κ => match u with
  | .int i => κ (.int (-i))
  | _ => False
theorem s_negI : Snd1 W (rU fun i => .int (-i)) gNegI := fun F H x u κ Q P hx hg hk => by
  unfold gNegI at hg
  split at hg
  · exact ⟨_, hx.int, hk F H _ _ (Ext.refl P) (.int _) hg⟩
  · exact hg.elim
end
section
variable {X : Cx} {c : Uc}
theorem k_in' (ft : Fit c X) : OpR X (compareOp .In) (rIn c.W.K false) := ft.K.symm ▸ op_in_seq
theorem k_notIn' (ft : Fit c X) : OpR X (compareOp .NotIn) (rIn c.W.K true) := ft.K.symm ▸ op_notIn_seq
theorem k_eqD' (ft : Fit c X) (hu : X.A.units + 64 < cLine) : OpR X (compareOp .Eq) (rEqD c.W.K) := ft.K.symm ▸ op_eqD hu
theorem k_neD' (ft : Fit c X) (hu : X.A.units + 64 < cLine) : OpR X (compareOp .NotEq) (rNeD c.W.K) := ft.K.symm ▸ op_neD hu
theorem k_ixL' (ft : Fit c X) : IxR X (rIxL c.W.K) := ft.K.symm ▸ ix_list
theorem k_ixT' (ft : Fit c X) : IxR X (rIxT c.W.K) := ft.K.symm ▸ ix_tup
theorem k_slL' (ft : Fit c X) : SlR X (rSlL c.W.K) := ft.K.symm ▸ sl_list
theorem k_len' (ft : Fit c X) : CallR X (.builtin "len") (fun xs H Q => ∃ p ys, xs = [.ref p] ∧ (SqL c.W.K H p ys ∨ SqT c.W.K H p ys) ∧ Q (.int ys.length) H) := ft.K.symm ▸ call_len_seq
theorem k_list' (ft : Fit c X) : CallR X (.type "list") (fun xs H Q => ∃ p ys, xs = [.ref p] ∧ (SqL c.W.K H p ys ∨ SqT c.W.K H p ys) ∧ ∀ l, H l = none → Q (.ref l) (upd H l (.lst ys))) := ft.K.symm ▸ call_list_of
theorem k_tuple' (ft : Fit c X) : CallR X (.type "tuple") (fun xs H Q => ∃ p ys, xs = [.ref p] ∧ ((SqL c.W.K H p ys ∧ ∀ l, H l = none → Q (.ref l) (upd H l (.tup ys))) ∨ (SqT c.W.K H p ys ∧ Q (.ref p) H))) := ft.K.symm ▸ call_tuple_of
theorem k_all' (ft : Fit c X) (hc : X.calm = true := by rfl) : CallR X (.builtin "all") (rAll c.W.K) := ft.K.symm ▸ cr_all hc
theorem k_any' (ft : Fit c X) (hc : X.calm = true := by rfl) : CallR X (.builtin "any") (rAny c.W.K) := ft.K.symm ▸ cr_any hc
/-! ### texts' methods -/
def uM0 (g : G1) (m : UM) : UM := uUn g m
def isStr : U → Prop
  | .str _ => True
  | _ => False
/-- s.m(e) of a text -/
def uM1 (g : G2) (m n : UM) : UM := fun ex env k => m ex env fun y env1 => match y with
  | .val (.str z) => n ex env1 fun y2 env2 => vw env2 y2 fun w => g (.str z) w fun r => k (.val r) env2
  | _ => False
theorem ue_m0 {o : Expr} {id : String} {name : Str} {apos pos : Pos} {r : V → List V → Hp → VK → Prop} {m : UM} {g : Str → (U → Prop) → Prop} (h : PE X o (tm c m))
    (slot : PySem.Slot "str" name id) (ty : typeOf (.builtin id) = pure (.type "method_descriptor")) (rule : MtR X id r) (sd : ∀ F H z κ Q, Pool c.W F H → g z κ → (∀ F' H' v u, Ext c.W F H F' H' → rep c.W F' v u → κ u → Q v H') → r (.str z) [] H Q)
    (hbase : attributeBase o name X.env (eval o X.env) = eval o X.env := by rfl) (hline : (apos.endLine == pos.line) = true := by rfl) :
    PE X (.Call (.Attribute o name apos) [] [] pos) (tm c (uUn (fun u κ => match u with | .str z => g z κ | _ => False) m)) := PE.imp (pe_m0 slot ty rule h hbase hline) fun σ H Q ⟨F, env, ex, k, R, hm, hw, hk⟩ => by
  refine ⟨F, env, ex, _, R, hm, hw, fun F1 H1 env1 v y s1 R1 o1 h1 => ?_⟩
  obtain ⟨u, e1, h1⟩ := vw_elim h1
  have vi := R1.view o1 e1
  split at h1
  · rename_i z
    have := vi.str
    subst this
    exact ⟨⟨z, rfl⟩, sd F1 H1 z _ Q R1.pool h1 fun F2 H2 v u x r' h' => hk F2 H2 env1 v (.val u) (s1.ext x) (R1.ext x) r' h'⟩
  · exact h1.elim
theorem ue_m1 {o e : Expr} {id : String} {name : Str} {apos pos : Pos} {r : V → List V → Hp → VK → Prop} {m n : UM} {g : Str → U → (U → Prop) → Prop} (h : PE X o (tm c m)) (h' : PE X e (tm c n))
    (slot : PySem.Slot "str" name id) (ty : typeOf (.builtin id) = pure (.type "method_descriptor")) (rule : MtR X id r) (sd : ∀ F H z x w κ Q, Pool c.W F H → View c.W F H x w → g z w κ → (∀ F' H' v u, Ext c.W F H F' H' → rep c.W F' v u → κ u → Q v H') → r (.str z) [x] H Q)
    (hs : starEach [e] X.env = [(false, eval e X.env)] := by rfl) (hbase : attributeBase o name X.env (eval o X.env) = eval o X.env := by rfl) (hline : (apos.endLine == pos.line) = true := by rfl) :
    PE X (.Call (.Attribute o name apos) [e] [] pos) (tm c (uM1 (fun u w κ => match u with | .str z => g z w κ | _ => False) m n)) := PE.imp (pe_m1 slot ty rule h h' hs hbase hline) fun σ H Q ⟨F, env, ex, k, R, hm, hw, hk⟩ => by
  refine ⟨F, env, ex, _, R, hm, hw, fun F1 H1 env1 v y s1 R1 o1 h1 => ?_⟩
  split at h1
  · rename_i z
    cases o1
    refine ⟨⟨z, rfl⟩, F1, env1, ex, _, R1, h1, hw, fun F2 H2 env2 v2 y2 s2 R2 o2 h2 => ?_⟩
    obtain ⟨w, e2, h2⟩ := vw_elim h2
    exact sd F2 H2 z v2 w _ Q R2.pool (R2.view o2 e2) h2 fun F3 H3 v u x r' h' => hk F3 H3 env2 v (.val u) ((s1.trans s2).ext x) (R2.ext x) r' h'
  · exact h1.elim
def gUpper : G1 := fun u κ => match u with
  | .str z => z.length ≤ 1000000 ∧ κ (.str (Txt.upper z))
  | _ => False
theorem ue_upper {o : Expr} {apos pos : Pos} {m : UM} (h : PE X o (tm c m)) (hbase : attributeBase o "upper" X.env (eval o X.env) = eval o X.env := by rfl) (hline : (apos.endLine == pos.line) = true := by rfl) :
    PE X (.Call (.Attribute o "upper" apos) [] [] pos) (tm c (uUn gUpper m)) := PE.imp (pe_upper h hbase hline) fun σ H Q ⟨F, env, ex, k, R, hm, hw, hk⟩ => by
  refine ⟨F, env, ex, _, R, hm, hw, fun F1 H1 env1 v y s1 R1 o1 h1 => ?_⟩
  obtain ⟨u, e1, h1⟩ := vw_elim h1
  have vi := R1.view o1 e1
  unfold gUpper at h1
  split at h1
  · rename_i z
    have := vi.str
    subst this
    exact ⟨⟨z, rfl⟩, z, rfl, rfl, Nat.le_trans h1.1 (by decide), hk F1 H1 env1 _ (.val (.str _)) s1 R1 (.str _) h1.2⟩
  · exact h1.elim
def gJoin : G2 := fun u w κ => match u with
  | .str a => ∃ zs : List Str, w = .lst (txs zs) ∧ (zs.map (·.length)).sum + zs.length * a.length ≤ 16777216 ∧ κ (.str (Txt.join a zs))
  | _ => False
theorem ue_join {o e : Expr} {apos pos : Pos} {m n : UM} (h : PE X o (tm c m)) (he : PE X e (tm c n)) (hs : starEach [e] X.env = [(false, eval e X.env)] := by rfl) (hbase : attributeBase o "join" X.env (eval o X.env) = eval o X.env := by rfl) (hline : (apos.endLine == pos.line) = true := by rfl) :
    PE X (.Call (.Attribute o "join" apos) [e] [] pos) (tm c (uM1 gJoin m n)) := PE.imp (pe_join h he hs hbase hline) fun σ H Q ⟨F, env, ex, k, R, hm, hw, hk⟩ => by
  refine ⟨F, env, ex, _, R, hm, hw, fun F1 H1 env1 v y s1 R1 o1 h1 => ?_⟩
  split at h1
  · rename_i z
    cases o1
    refine ⟨⟨z, rfl⟩, F1, env1, ex, _, R1, h1, hw, fun F2 H2 env2 v2 y2 s2 R2 o2 h2 => ?_⟩
    obtain ⟨w, e2, zs, rfl, hl, h2⟩ := vw_elim h2
    obtain ⟨p, vs, rfl, k1, k2⟩ := (R2.view o2 e2).list R2.pool.sub
    exact ⟨z, p, zs, rfl, rfl, .inl (.inl (.inl (by rw [← txs_of k2]; exact k1))), hl, hk F2 H2 env2 _ (.val (.str _)) (s1.trans s2) R2 (.str _) h2⟩
  · exact h1.elim
end
/-! ### own lists changed -/
section
variable {c : Uc} {F H : Hp} {σ : List (Option V)} {env : List Slot}
/-- the own list of slot i becomes zs -/
theorem Rel.putOwn {i : Nat} {xs : List U} {v : V} (R : Rel c F σ env H) (e : env[i]? = some (.own xs)) (o : σ[i]? = some (some v)) :
    ∃ p vs, v = .ref p ∧ H p = some (.lst vs) ∧ reps c.W F vs xs ∧ ∀ ws zs, reps c.W F ws zs → Rel c F σ (env.set i (.own zs)) (upd H p (.lst ws)) ∧ Stp c σ F env H F (env.set i (.own zs)) (upd H p (.lst ws)) := by
  obtain ⟨q, h1, h2⟩ := R.slot i _ e
  rw [o] at h1; cases h1
  obtain ⟨p, vs, rfl, h3, h4, h5, h6, h7⟩ := h2
  refine ⟨p, vs, rfl, h5, h6, fun ws zs r => ?_⟩
  have P' := R.pool.put (o := .lst ws) h3 h7
  have key : ∀ (j : Nat) (ys : List U), (env.set i (.own zs))[j]? = some (.own ys) → ∃ xs, env[j]? = some (.own xs) := fun j ys h => by
    rcases getset h with ⟨rfl, _⟩ | ⟨_, h⟩
    · exact ⟨xs, e⟩
    · exact ⟨ys, h⟩
  refine ⟨⟨P', ⟨fun b o n z => by rw [upd_ne (ne_of_none z h4)]; exact R.base.keep b o n z, R.base.pool, R.base.new⟩, by rw [List.length_set]; exact R.len, fun j s ej => ?_, fun j k q ys zs hjk ej ek => ?_, fun j cn fs ej => ?_,
      R.fpNext rfl rfl (fun j t h => ⟨(pas_set (by intro t z; cases z) h).2, rfl⟩) (Same.refl F) (fun b u h n f => by rw [upd_ne (fun z => f i xs e (by rw [z]; exact o))]; exact h) (fun _ _ h => .inl h) fun j ys b ej sj => by
        obtain ⟨ys', k⟩ := key j ys ej
        exact .inr ⟨j, ys', k, sj⟩⟩,
    ⟨Same.refl F, key, fun j t h => (pas_set (by intro t z; cases z) h).2, fun b u h n f => by rw [upd_ne (fun z => f i xs e (by rw [z]; exact o))]; exact h, fun _ _ h => .inl h, fun b h => by
      by_cases z : b = p
      · rw [z, upd_same] at h; cases h
      · rw [upd_ne z] at h; exact h, P'⟩⟩
  · rcases getset ej with ⟨rfl, rfl⟩ | ⟨hij, ej⟩
    · exact ⟨_, o, p, ws, rfl, h3, h4, upd_same, r, h7⟩
    · obtain ⟨q, k1, k2⟩ := R.slot j s ej
      refine ⟨q, k1, ?_⟩
      cases s with
      | no => cases q <;> trivial
      | val u => cases q with
        | none => exact k2.elim
        | some w => exact k2
      | own ys =>
        cases q with
        | none => exact k2.elim
        | some w =>
          obtain ⟨p', vs', rfl, g3, g4, g5, g6⟩ := k2
          have ne : p' ≠ p := fun z => R.dist i j p xs ys hij e ej o (by rw [k1, z])
          exact ⟨p', vs', rfl, g3, g4, by rw [upd_ne ne]; exact g5, g6⟩
      | mk cn fs =>
        cases q with
        | none => exact k2.elim
        | some w =>
          obtain ⟨p', C, dx, fvs, rfl, g0, g3, g4, g5, g6⟩ := k2
          have ne : p' ≠ p := ne_of g5 h5 (by intro z; cases z)
          exact ⟨p', C, dx, fvs, rfl, g0, g3, g4, by rw [upd_ne ne]; exact g5, g6⟩
      | pas t =>
        cases q with
        | none => exact k2.elim
        | some w => trivial
  · obtain ⟨ys', ej⟩ := key j ys ej
    obtain ⟨zs', ek⟩ := key k zs ek
    exact R.dist j k q _ _ hjk ej ek
  · rcases getset ej with ⟨_, z⟩ | ⟨_, ej⟩
    · cases z
    · exact R.one j cn fs ej
end
/-- a change of an own list: from its items and the arguments -/
abbrev GO := List U → List U → (List U → U → Prop) → Prop
def uOwnM (i : Nat) (g : GO) (ms : UA) : UM := fun ex env k => match env[i]? with
  | some (.own _) => ms ex env fun ys env1 => UL.pins env1 ys fun us env2 => match env2[i]? with
    | some (.own xs) => g xs us fun zs r => k (.val r) (env2.set i (.own zs))
    | _ => False
  | _ => False
def uOwnM0 (i : Nat) (g : GO) : UM := uOwnM i g uNil
def SndO (W : Wd) (r : V → List V → Hp → VK → Prop) (g : GO) : Prop := ∀ F H p vs xs as us κ Q, Same F H → H p = some (.lst vs) → reps W F vs xs → reps W F as us → g xs us κ →
  (∀ ws zs v u, reps W F ws zs → rep W F v u → κ zs u → Q v (upd H p (.lst ws))) → r (.ref p) as H Q
section
variable {X : Cx} {c : Uc}
theorem ue_own {i : Nat} {x : Str} {p apos cpos : Pos} {e : Expr} {es : List Expr} {name : Str} {id : String} {r : V → List V → Hp → VK → Prop} {g : GO} {ms : UA} (ft : Fit c X) (pa : PlainAttrs "list") (slot : PySem.Slot "list" name id) (hty : typeOf (.builtin id) = pure (.type "method_descriptor")) (hm : MtR X id r) (sd : SndO c.W r g)
    (ho : PE X (.Name x p) (tVar i)) (ha : PA X (e :: es) (ta c ms))
    (hbase : attributeBase (.Name x p) name X.env (eval (.Name x p) X.env) = eval (.Name x p) X.env := by rfl)
    (hfew : ((backTo cpos (starEach (e :: es) X.env)).all (fun x => !x.1) && (backToKw cpos (keywordEach [] X.env)).all (fun x => x.1.isSome)
      && decide ((e :: es).length + ([] : List Keyword).length + (if ([] : List Keyword).isEmpty then 0 else 1) < 30)) = true := by rfl)
    (hline : (apos.endLine == cpos.line) = true := by rfl) (hs : starEach (e :: es) X.env = (false, eval e X.env) :: starEach es X.env := by rfl) (hplain : (backTo cpos (starEach es X.env)).any (·.1) = false := by rfl) :
    PE X (.Call (.Attribute (.Name x p) name apos) (e :: es) [] cpos) (tm c (uOwnM i g ms)) := PE.imp (pe_bm pa slot hty hm ho ha hbase hfew hline hs hplain) fun σ H Q ⟨F, env, ex, k, R, hm, hw, hk⟩ => by
  unfold uOwnM at hm
  split at hm
  · rename_i xs0 e0
    obtain ⟨o, h1, h2⟩ := R.slot i _ e0
    cases o with
    | none => exact h2.elim
    | some v =>
      obtain ⟨q, vs0, rfl, _, _, h5, _⟩ := h2
      refine ⟨.ref q, h1, .inl ⟨rfl, vs0, .inl (.inl h5)⟩, F, env, ex, _, R, hm, hw, fun F1 H1 env1 as ys s1 R1 o1 k1 => ?_⟩
      obtain ⟨F2, env2, us, s2, R2, r2, k2⟩ := R1.pins o1 k1
      split at k2
      · rename_i xs e2
        obtain ⟨q', vs, hq, h6, h7, h8⟩ := R2.putOwn e2 h1
        cases hq
        refine sd F2 H1 q vs xs as us _ Q R2.pool.sub h6 h7 r2 k2 fun ws zs v u rw ru hκ => ?_
        obtain ⟨R3, s3⟩ := h8 ws zs rw
        exact hk F2 _ _ v (.val u) ((s1.trans s2).trans s3) R3 ru hκ
      · exact k2.elim
  · exact hm.elim
theorem ue_own0 {i : Nat} {x : Str} {p apos cpos : Pos} {name : Str} {id : String} {r : V → List V → Hp → VK → Prop} {g : GO} (ft : Fit c X) (pa : PlainAttrs "list") (slot : PySem.Slot "list" name id) (hty : typeOf (.builtin id) = pure (.type "method_descriptor")) (hm : MtR X id r) (sd : SndO c.W r g)
    (ho : PE X (.Name x p) (tVar i)) (hbase : attributeBase (.Name x p) name X.env (eval (.Name x p) X.env) = eval (.Name x p) X.env := by rfl) (hline : (apos.endLine == cpos.line) = true := by rfl) :
    PE X (.Call (.Attribute (.Name x p) name apos) [] [] cpos) (tm c (uOwnM i g uNil)) := PE.imp (pe_bm0 pa slot hty hm ho hbase hline) fun σ H Q ⟨F, env, ex, k, R, hm, hw, hk⟩ => by
  unfold uOwnM at hm
  split at hm
  · rename_i xs0 e0
    obtain ⟨o, h1, h2⟩ := R.slot i _ e0
    cases o with
    | none => exact h2.elim
    | some v =>
      obtain ⟨q, vs0, rfl, _, _, h5, _⟩ := h2
      refine ⟨.ref q, h1, .inl ⟨rfl, vs0, .inl (.inl h5)⟩, ?_⟩
      have k2 : (match env[i]? with | some (.own xs) => g xs [] fun zs r => k (.val r) (env.set i (.own zs)) | _ => False) := hm
      rw [e0] at k2
      obtain ⟨q', vs, hq, h6, h7, h8⟩ := R.putOwn e0 h1
      cases hq
      refine sd F H q vs _ [] [] _ Q R.pool.sub h6 h7 .nil k2 fun ws zs v u rw ru hκ => ?_
      obtain ⟨R3, s3⟩ := h8 ws zs rw
      exact hk F _ _ v (.val u) s3 R3 ru hκ
  · exact hm.elim
def oAppend : GO := fun xs us κ => match us with
  | [u] => xs.length < 1000000 ∧ κ (xs ++ [u]) .non
  | _ => False
def oExtend : GO := fun xs us κ => match us with
  | [.lst zs] => xs.length + zs.length ≤ 1000000 ∧ κ (xs ++ zs) .non
  | _ => False
def oClear : GO := fun xs us κ => match us with
  | [] => κ [] .non
  | _ => False
def oPopAt : GO := fun xs us κ => match us with
  | [.int i] => ∃ k y, -(2 ^ 63) ≤ i ∧ i < 2 ^ 63 ∧ seqIndex? i xs.length = some k ∧ xs[k]? = some y ∧ κ (xs.eraseIdx k) y
  | _ => False
def oPop : GO := fun xs us κ => match us with
  | [] => ∃ y, xs[xs.length - 1]? = some y ∧ κ xs.dropLast y
  | _ => False
theorem reps.eraseIdx {W : Wd} {F : Hp} {vs : List V} {us : List U} (h : reps W F vs us) (k : Nat) : reps W F (vs.eraseIdx k) (us.eraseIdx k) := by
  rw [List.eraseIdx_eq_take_drop_succ, List.eraseIdx_eq_take_drop_succ]
  exact (h.take k).append (h.drop _)
theorem so_append {W : Wd} : SndO W rAppend oAppend := fun F H p vs xs as us κ Q s hp r ra hg hk => by
  unfold oAppend at hg
  split at hg
  · rename_i u
    cases ra with
    | cons a ra => cases ra; exact ⟨p, vs, _, rfl, rfl, hp, by rw [r.length]; exact szt (Nat.le_of_lt hg.1), hk _ _ _ _ (r.append (.cons a .nil)) .non hg.2⟩
  · exact hg.elim
theorem so_extend {W : Wd} : SndO W rExtend oExtend := fun F H p vs xs as us κ Q s hp r ra hg hk => by
  unfold oExtend at hg
  split at hg
  · rename_i zs
    cases ra with
    | cons a ra =>
      cases ra
      cases a with
      | lst h1 h2 => exact ⟨p, _, vs, _, rfl, rfl, hp, s _ _ h1, by rw [r.length, h2.length]; exact szl hg.1, hk _ _ _ _ (r.append h2) .non hg.2⟩
  · exact hg.elim
theorem so_clear {W : Wd} : SndO W rClear oClear := fun F H p vs xs as us κ Q s hp r ra hg hk => by
  unfold oClear at hg
  split at hg
  · cases ra; exact ⟨p, vs, rfl, rfl, hp, hk _ _ _ _ .nil .non hg⟩
  · exact hg.elim
theorem so_popAt {W : Wd} : SndO W rPopAt oPopAt := fun F H p vs xs as us κ Q s hp r ra hg hk => by
  unfold oPopAt at hg
  split at hg
  · rename_i i
    obtain ⟨k, y, h1, h2, h3, h4, hg⟩ := hg
    cases ra with
    | cons a ra =>
      cases ra
      cases a
      obtain ⟨v, e, rv⟩ := r.get' h4
      exact ⟨p, vs, i, k, v, rfl, rfl, hp, h1, h2, by rw [r.length]; exact h3, e, hk _ _ _ _ (r.eraseIdx k) rv hg⟩
  · exact hg.elim
theorem so_pop {W : Wd} : SndO W rPop oPop := fun F H p vs xs as us κ Q s hp r ra hg hk => by
  unfold oPop at hg
  split at hg
  · obtain ⟨y, h4, hg⟩ := hg
    cases ra
    obtain ⟨v, e, rv⟩ := r.get' h4
    exact ⟨p, vs, v, rfl, rfl, hp, by rw [r.length]; exact e, hk _ _ _ _ r.dropLast rv hg⟩
  · exact hg.elim
end
end UL
namespace UL
open PySem PySem.Spec PyProof.Rows L2
section
variable {X : Cx} {c : Uc} {a b d : Expr} {ma mb mc : UM} {pos : Pos}
theorem ut_chain {op op' : CmpOp} {r r' : R2} {g g' : G2} (ho : OpR X (compareOp op) r) (sd : Snd2 c.W r g) (ho' : OpR X (compareOp op') r') (sd' : Snd2 c.W r' g') (ha : PE X a (tm c ma)) (hb : PE X b (tm c mb)) (hc : PE X d (tm c mc))
    (hm : lastMarks [op, op'] [b, d] = false := by with_unfolding_all rfl) : PT X (.Compare a [op, op'] [b, d] pos) (tt c (uVal (uChain g g' ma mb mc))) :=
  PT.imp (pt_chain ho ho' ha hb hc hm) fun σ H Q ⟨F, env, ex, k, R, hm, hw, hk⟩ => by
    refine ⟨F, env, ex, _, R, hm, hw, fun F1 H1 env1 v1 y1 s1 R1 o1 h1 => ⟨F1, env1, ex, _, R1, h1, hw, fun F2 H2 env2 v2 y2 s2 R2 o2 h2 => ?_⟩⟩
    obtain ⟨u, e1, h2⟩ := vw_elim h2
    obtain ⟨w, e2, h2⟩ := vw_elim h2
    refine sd F2 H2 v1 u v2 w _ _ R2.pool (R2.view (o1.mono s2.same) e1) (R2.view o2 e2) h2 fun F3 H3 v z x3 rz hz => ?_
    cases z with
    | bl q =>
      cases rz
      refine ⟨q, rfl, ?_⟩
      cases q with
      | false =>
        replace hz := ofF hz
        rw [if_neg Bool.false_ne_true]
        exact ⟨false, rfl, hk F3 H3 env2 false ((s1.trans s2).ext x3) (R2.ext x3) hz⟩
      | true =>
        replace hz := ofT hz
        rw [if_pos rfl]
        refine ⟨F3, env2, ex, _, R2.ext x3, hz, hw, fun F4 H4 env4 v4 y4 s4 R4 o4 h4 => ?_⟩
        obtain ⟨w', e3, h4⟩ := vw_elim h4
        obtain ⟨t, e4, h4⟩ := vw_elim h4
        refine sd' F4 H4 v2 w' v4 t _ _ R4.pool (R4.view ((o2.mono x3.same).mono s4.same) e3) (R4.view o4 e4) h4 fun F5 H5 v z x5 rz hz => ?_
        cases z with
        | bl b =>
          cases rz
          exact ⟨_, rfl, hk F5 H5 env4 _ ((((s1.trans s2).ext x3).trans s4).ext x5) (R4.ext x5) hz⟩
        | _ => exact (show False from hz).elim
    | _ => exact hz.elim
end
end UL
namespace UL
open PySem PySem.Spec PyProof.Rows L2
/-- a def of the text: where it stands, how it binds, its name in the module -/
structure Df (K : PySem.W.Frag) (mg : Str → Option Value) (x : Str) (st : Stmt) (ps : List Str) (f : Addr) (fd : FuncData) : Prop where
  F : Fun K x x st f fd
  b : Binds K fd ps []
  g : mg x = some (.ref f)
/-- built-ins that the module does not name -/
structure Tb (mg : Str → Option Value) : Prop where
  m_int : mg "int" = none
  m_max : mg "max" = none
  m_min : mg "min" = none
  m_range : mg "range" = none
  m_reversed : mg "reversed" = none
  m_len : mg "len" = none
  m_list : mg "list" = none
  m_tuple : mg "tuple" = none
  m_str : mg "str" = none
  m_dict : mg "dict" = none
  m_bool : mg "bool" = none
  m_isinstance : mg "isinstance" = none
  m_all : mg "all" = none
  m_any : mg "any" = none
  m_sorted : mg "sorted" = none
  m_set : mg "set" = none
  m_repr : mg "repr" = none
  m_enumerate : mg "enumerate" = none
  m_iter : mg "iter" = none
end UL

namespace UL
open PySem PySem.Spec PyProof.Rows L2
/-- what is known of a class of one's own -/
structure Cl (K : PySem.W.Frag) (mg : Str → Option Value) (cn : Str) (C : Addr) : Prop where
  g : mg cn = some (.ref C)
  cls : Cls K C
theorem repf.lookup {W : Wd} {F : Hp} {f : Str} {u : U} : ∀ {vs : List (Str × V)} {us : List (Str × U)}, repf W F vs us → us.lookup f = some u → ∃ v, vs.lookup f = some v ∧ rep W F v u
  | _, _, .nil, e => by cases e
  | _, _, .cons (k := k) (v := v) a r, e => by
    unfold List.lookup at e ⊢
    cases h : f == k with
    | true => simp only [h] at e ⊢; cases e; exact ⟨v, rfl, a⟩
    | false => simp only [h] at e ⊢; exact repf.lookup r e
theorem repf.lookupN {W : Wd} {F : Hp} {f : Str} : ∀ {vs : List (Str × V)} {us : List (Str × U)}, repf W F vs us → us.lookup f = none → vs.lookup f = none
  | _, _, .nil, _ => rfl
  | _, _, .cons (k := k) (v := v) a r, e => by
    unfold List.lookup at e ⊢
    cases h : f == k with
    | true => simp only [h] at e; cases e
    | false => simp only [h] at e ⊢; exact repf.lookupN r e
/-- an instance of the class cn -/
def gIns (cn : Str) (κ : List (Str × U) → Prop) (u : U) : Prop := match u with
  | .ins c fs => c = cn ∧ κ fs
  | _ => False
theorem gIns_elim {cn : Str} {κ : List (Str × U) → Prop} {u : U} (h : gIns cn κ u) : ∃ fs, u = .ins cn fs ∧ κ fs := by
  unfold gIns at h
  split at h
  · obtain ⟨rfl, h⟩ := h; exact ⟨_, rfl, h⟩
  · exact h.elim
def uFld (cn f : Str) (m : UM) : UM := fun ex env k => m ex env fun y env1 => match y with
  | .val u => gIns cn (fun fs => ∃ r, fs.lookup f = some r ∧ k (.val r) env1) u
  | _ => False
/-- self.f while self is being made -/
def uFldS (i : Nat) (f : Str) : UM := fun _ env k => match env[i]? with
  | some (.mk _ fs) => ∃ r, fs.lookup f = some r ∧ k (.val r) env
  | _ => False
/-- putF on data -/
def putU (f : Str) (u : U) : List (Str × U) → List (Str × U)
  | [] => [(f, u)]
  | (k, w) :: r => if k = f then (f, u) :: r else (k, w) :: putU f u r
section
variable {X : Cx} {c : Uc} {e : Expr} {m : UM} {pos : Pos} {cn f : Str} {C : Addr}
theorem ue_fld (ft : Fit c X) (cl : Cl X.K X.mg cn C) (na : NoAttr X.K C f) (he : PE X e (tm c m)) (hb : attributeBase e f X.env (eval e X.env) = eval e X.env := by rfl) : PE X (.Attribute e f pos) (tm c (uFld cn f m)) :=
  PE.imp (pe_fld he hb) fun σ H Q ⟨F, env, ex, k, R, hm, hw, hk⟩ => by
    refine ⟨F, env, ex, _, R, hm, hw, fun F1 H1 env1 v y s1 R1 o1 h1 => ?_⟩
    match y, o1, h1 with
    | .val u, o1, h1 =>
      obtain ⟨fs, rfl, r, hl, h1⟩ := gIns_elim h1
      cases o1 with
      | ins hg hp rs =>
        rw [ft.mg, cl.g] at hg
        cases hg
        obtain ⟨w, hl', rw'⟩ := rs.lookup hl
        exact ⟨_, _, _, _, w, rfl, R1.pool.sub _ _ hp, cl.cls, na, hl', hk F1 H1 env1 w (.val r) s1 R1 rw' h1⟩
theorem ue_fldS {i : Nat} {x : Str} {p : Pos} (ft : Fit c X) (cl : Cl X.K X.mg cn C) (na : NoAttr X.K C f) (h : PE X (.Name x p) (tVar i)) (hb : attributeBase (.Name x p) f X.env (eval (.Name x p) X.env) = eval (.Name x p) X.env := by rfl) : PE X (.Attribute (.Name x p) f pos) (tm c (fun ex env k => (∀ cn' fs, env[i]? = some (.mk cn' fs) → cn' = cn) ∧ uFldS i f ex env k)) :=
  PE.imp (pe_fld h hb) fun σ H Q ⟨F, env, ex, k, R, ⟨hc, hm⟩, hw, hk⟩ => by
    unfold uFldS at hm
    split at hm
    · rename_i cn' fs e0
      have := hc cn' fs e0
      subst this
      obtain ⟨o, h1, h2⟩ := R.slot i _ e0
      cases o with
      | none => exact h2.elim
      | some v =>
        obtain ⟨p, C', dx, fvs, rfl, g0, g3, g4, g5, g6, g7⟩ := h2
        obtain ⟨g0, _⟩ := g0
        rw [ft.mg, cl.g] at g0
        cases g0
        obtain ⟨r, hl, hm⟩ := hm
        obtain ⟨w, hl', rw'⟩ := g6.lookup hl
        exact ⟨_, h1, p, C, dx, fvs, w, rfl, g5, cl.cls, na, hl', hk F H env w (.val r) (.refl R.pool) R rw' hm⟩
    · exact hm.elim
theorem repf.put {W : Wd} {F : Hp} {f : Str} {v : V} {u : U} (a : rep W F v u) : ∀ {vs : List (Str × V)} {us : List (Str × U)}, repf W F vs us → repf W F (putF f v vs) (putU f u us)
  | _, _, .nil => .cons a .nil
  | _, _, .cons (k := k) b r => by
    unfold putF putU
    by_cases h : k = f
    · simp only [h]; simp; exact .cons a r
    · simp only [h]; simp; exact .cons b (repf.put a r)
theorem repf.length {W : Wd} {F : Hp} : ∀ {vs : List (Str × V)} {us : List (Str × U)}, repf W F vs us → vs.length = us.length
  | _, _, .nil => rfl
  | _, _, .cons _ r => by rw [List.length_cons, List.length_cons, repf.length r]
def uSetF (i : Nat) (cn f : Str) (m : UM) : US := fun d env => m d.ex env fun y env1 => UL.pin env1 y fun u env2 => match env2[i]? with
  | some (.mk c fs) => c = cn ∧ fs.length < 900 ∧ d.nx (env2.set i (.mk c (putU f u fs)))
  | _ => False
theorem us_fld {i : Nat} {x : Str} {p pos' : Pos} (ft : Fit c X) (cl : Cl X.K X.mg cn C) (na : NoAttr X.K C f) (h : PE X (.Name x p) (tVar i)) (hv : PE X e (tm c m)) (hs : swapsWith e (some (.Attribute (.Name x p) f pos')) pos.line X.env = pure false := by rfl) : PS X (.Assign [.Attribute (.Name x p) f pos'] e pos) (ts c (uSetF i cn f m)) :=
  PS.imp (ps_fld h hv hs) fun D σ H ⟨F, env, d, R, hm, E⟩ => ⟨F, env, _, _, R, hm, E.ex, fun F1 H1 env1 v y s1 R1 o1 h1 => by
    obtain ⟨F2, env2, u, s2, R2, r2, h2⟩ := R1.pin o1 h1
    split at h2
    · rename_i cn' fs e0
      obtain ⟨rfl, hl, h2⟩ := h2
      obtain ⟨o, k1, k2⟩ := R2.slot i _ e0
      cases o with
      | none => exact k2.elim
      | some w =>
        obtain ⟨q, C', dx, fvs, rfl, g0, g3, g4, g5, g6, g7⟩ := k2
        have g0' := g0.1
        rw [ft.mg, cl.g] at g0'
        cases g0'
        have P' := R2.pool.put (o := .ins C dx (putF f v fvs)) g3 g7
        refine ⟨_, k1, q, C, dx, fvs, rfl, g5, cl.cls, na, by rw [g6.length]; omega, ?_⟩
        refine E.nx F2 _ _ _ (s1.trans s2).same ⟨P', ⟨fun b o n z => by rw [upd_ne (ne_of_none z g4)]; exact R2.base.keep b o n z, R2.base.pool, R2.base.new⟩, by rw [List.length_set]; exact R2.len, fun j s ej => ?_, fun j k p xs ys hjk ej ek => ?_, fun j cn fs ej => ?_,
          R2.fp.step rfl (fun j t h => ⟨(pas_set (by intro t z; cases z) h).2, rfl⟩) (Same.refl F2) (fun b o e f => by
            have n : b ≠ q := fun z => by rw [z, g5] at e; cases e; rcases f with ⟨_, f⟩ | ⟨_, _, f⟩ <;> cases f
            rw [upd_ne n]; exact e) fun b o e ob fa na => by
            have n : b ≠ q := fun z => by rw [z, g5] at e; cases e; rcases ob with ⟨_, f⟩ | ⟨_, f⟩ | ⟨_, f⟩ <;> cases f
            exact ⟨by rw [upd_ne n]; exact e, ⟨fa.f, fa.h, fa.s, fun j xs ej sj => fa.o j xs (own_set (by intro t z; cases z) ej).2 sj⟩, na⟩⟩ h2
        · rcases getset ej with ⟨rfl, rfl⟩ | ⟨hij, ej⟩
          · exact ⟨_, k1, q, C, dx, _, rfl, g0, g3, g4, upd_same, g6.put r2, g7⟩
          · obtain ⟨o, z1, z2⟩ := R2.slot j s ej
            refine ⟨o, z1, ?_⟩
            cases s with
            | no => cases o <;> trivial
            | val u => cases o with
              | none => exact z2.elim
              | some w => exact z2
            | own ys =>
              cases o with
              | none => exact z2.elim
              | some w =>
                obtain ⟨p', vs', rfl, y3, y4, y5, y6⟩ := z2
                have ne : p' ≠ q := ne_of y5 g5 (by intro z; cases z)
                exact ⟨p', vs', rfl, y3, y4, by rw [upd_ne ne]; exact y5, y6⟩
            | mk cn fs => exact absurd ((R2.one i _ _ e0).trans (R2.one j _ _ ej).symm) hij
            | pas t => cases o with
              | none => exact z2.elim
              | some w => trivial
        · rcases getset ej with ⟨_, z⟩ | ⟨_, ej⟩
          · cases z
          · rcases getset ek with ⟨_, z⟩ | ⟨_, ek⟩
            · cases z
            · exact R2.dist j k p xs ys hjk ej ek
        · rcases getset ej with ⟨rfl, _⟩ | ⟨_, ej⟩
          · exact R2.one _ _ _ e0
          · exact R2.one _ _ _ ej
    · exact h2.elim⟩
end
/-! ### methods, properties -/
/-- o.m(..), with the wish at the slots -/
def tMethSD (C : Addr) (m : Str) (sp : Sp) (E : L2.St → XK) (ta : TE) (t : TA) : TE := fun σ H Q => ta σ H fun x H1 => ∃ a dx fs, x = .ref a ∧ H1 a = some (.ins C dx fs) ∧ fs.lookup m = none ∧
  t σ H1 fun vs H2 => sp (x :: vs) H2 Q (E σ)
section
variable {X : Cx} {CX : CXT} {k : Nat} {f C : Addr} {fd : FuncData} {ps : List Str} {sp : Sp} {E : L2.St → XK} {x m : Str} {p pos apos : Pos} {e o : Expr} {es : List Expr} {ta : TE} {t : TA}
theorem pe_methSD {pl : Sem Bool} (he : PE X o ta) (c : Cls X.K C) (hm : Meth X.K C m f) (F : FnOk X.prog X.w X.K X.mg X.base CX k f fd ps sp) (hr : Room k X.A) (hb : Binds X.K fd ps []) (hx : ∀ σ, PassesAt CX X σ (E σ)) (ha : PA X (e :: es) t)
    (hst : starEach (e :: es) X.env = (false, eval e X.env) :: starEach es X.env := by rfl) (hpl : (backTo pos (starEach es X.env)).any (·.1) = false := by rfl)
    (ht : eval (.Call (.Attribute o m apos) (e :: es) [] pos) X.env = (do
      let ov ← eval o X.env
      standAt apos.atName
      let (f, first) ← holding [ov] (getMethod ov m pl)
      callWith pos f first (backTo pos (starEach (e :: es) X.env)) (backToKw pos (keywordEach [] X.env))) := by rfl) :
    PE X (.Call (.Attribute o m apos) (e :: es) [] pos) (tMethSD C m sp E ta t) := by
  refine ⟨fun pins s σ H Q I h => ?_⟩
  refine PySem.W.methodCall_KW (pl := pl) (thn (he.run pins s σ H _ I h) fun u s1 ⟨x, H1, I1, rx, a, dx, fs, ex, ea, l, q⟩ => ?_) ht
  subst ex
  obtain rfl : u = Value.ref a := rx
  refine getmeth_ok I1 ea c hm l ?_
  refine PySem.W.callWith_K (first := [.ref a]) (h₀ := X.base) I.ok.mod.kin hm.kp (thn (ha.run pos pins s1 σ H1 _ I1 q) fun us s2 ⟨vs, H2, I2, r, q2⟩ => ⟨I2.kIn, ?_⟩) hst hpl
  exact run_fnS (us := .ref a :: us) (vs := .ref a :: vs) F hr hb (hx σ) I2 (.cons rfl r) q2
end
/-- what a method is: its class has it, it keeps its promise -/
def uMeth (cn m : Str) (spec : Spec) (mo : UM) (ms : UA) : UM := fun ex env k => mo ex env fun y env1 => match y with
  | .val u => gIns cn (fun fs => fs.lookup m = none ∧ ms ex env1 fun ys env2 => UL.pins env2 ys fun us env3 => spec (u :: us) (ex env3) fun r => k (.val r) env3) u
  | _ => False
def fMeth (cn m : Str) (spec : Spec) (mo : UM) (ms : UA) : UF := fun ex env k => mo ex env fun y env1 => match y with
  | .val u => gIns cn (fun fs => fs.lookup m = none ∧ ms ex env1 fun ys env2 => UL.pins env2 ys fun us env3 => spec (u :: us) (ex env3) fun r => match r with
    | .lst zs => k zs env3
    | _ => False) u
  | _ => False
def uProp (cn f : Str) (spec : Spec) (m : UM) : UM := fun ex env k => m ex env fun y env1 => match y with
  | .val u => gIns cn (fun _ => spec [u] (fun _ _ => False) fun r => k (.val r) env1) u
  | _ => False
def fProp (cn f : Str) (spec : Spec) (m : UM) : UF := fun ex env k => m ex env fun y env1 => match y with
  | .val u => gIns cn (fun _ => spec [u] (fun _ _ => False) fun r => match r with
    | .lst zs => k zs env1
    | _ => False) u
  | _ => False
section
variable {X : Cx} {c : Uc} {k : Nat} {f C : Addr} {fd : FuncData} {ps : List Str} {spec : Spec} {fr : Bool} {cn m : Str} {p pos apos : Pos} {e o : Expr} {es : List Expr} {mo : UM} {ms : UA}
theorem ue_meth {pl : Sem Bool} (ft : Fit c X) (cl : Cl X.K X.mg cn C) (hm : Meth X.K C m f) (G : FnOk X.prog X.w X.K X.mg X.base (L2.CX X.prog X.w) k f fd ps (Pr X.prog X.w X.K X.mg fr spec)) (hr : Room k X.A) (hb : Binds X.K fd ps []) (he : PE X o (tm c mo)) (ha : PA X (e :: es) (ta c ms))
    (hst : starEach (e :: es) X.env = (false, eval e X.env) :: starEach es X.env := by rfl) (hpl : (backTo pos (starEach es X.env)).any (·.1) = false := by rfl)
    (ht : eval (.Call (.Attribute o m apos) (e :: es) [] pos) X.env = (do
      let ov ← eval o X.env
      standAt apos.atName
      let (f, first) ← holding [ov] (getMethod ov m pl)
      callWith pos f first (backTo pos (starEach (e :: es) X.env)) (backToKw pos (keywordEach [] X.env))) := by rfl) :
    PE X (.Call (.Attribute o m apos) (e :: es) [] pos) (tm c (uMeth cn m spec mo ms)) := PE.imp (pe_methSD he cl.cls hm G hr hb (fun σ => passAt ft.tk σ) ha hst hpl ht) fun σ H Q ⟨F, env, ex, k, R, hm, hw, hk⟩ => by
  refine ⟨F, env, ex, _, R, hm, hw, fun F1 H1 env1 v y s1 R1 o1 h1 => ?_⟩
  match y, o1, h1 with
  | .val u, o1, h1 =>
    obtain ⟨fs, rfl, hl, h1⟩ := gIns_elim h1
    have o1' : rep c.W F1 v (.ins cn fs) := o1
    cases o1 with
    | ins hg hp rs =>
      rw [ft.mg, cl.g] at hg
      cases hg
      refine ⟨_, _, _, rfl, R1.pool.sub _ _ hp, rs.lookupN hl, F1, env1, ex, _, R1, h1, hw, fun F2 H2 env2 vs ys s2 R2 o2 h2 => ?_⟩
      obtain ⟨F3, env3, us, s3, R3, r3, h3⟩ := R2.pins o2 h2
      exact spec_call ft R3 (.cons (o1'.mono (s2.trans s3).same) r3) hw h3 fun F4 H4 v u x4 R4 r4 _ h4 => hk F4 H4 env3 v (.val u) (((s1.trans s2).trans s3).ext x4) R4 r4 h4
theorem uf_meth {pl : Sem Bool} (ft : Fit c X) (cl : Cl X.K X.mg cn C) (hm : Meth X.K C m f) (G : FnOk X.prog X.w X.K X.mg X.base (L2.CX X.prog X.w) k f fd ps (Pr X.prog X.w X.K X.mg true spec)) (hr : Room k X.A) (hb : Binds X.K fd ps []) (he : PE X o (tm c mo)) (ha : PA X (e :: es) (ta c ms))
    (hst : starEach (e :: es) X.env = (false, eval e X.env) :: starEach es X.env := by rfl) (hpl : (backTo pos (starEach es X.env)).any (·.1) = false := by rfl)
    (ht : eval (.Call (.Attribute o m apos) (e :: es) [] pos) X.env = (do
      let ov ← eval o X.env
      standAt apos.atName
      let (f, first) ← holding [ov] (getMethod ov m pl)
      callWith pos f first (backTo pos (starEach (e :: es) X.env)) (backToKw pos (keywordEach [] X.env))) := by rfl) :
    PE X (.Call (.Attribute o m apos) (e :: es) [] pos) (tf c (fMeth cn m spec mo ms)) := PE.imp (pe_methSD he cl.cls hm G hr hb (fun σ => passAt ft.tk σ) ha hst hpl ht) fun σ H Q ⟨F, env, ex, k, R, hm, hw, hk⟩ => by
  refine ⟨F, env, ex, _, R, hm, hw, fun F1 H1 env1 v y s1 R1 o1 h1 => ?_⟩
  match y, o1, h1 with
  | .val u, o1, h1 =>
    obtain ⟨fs, rfl, hl, h1⟩ := gIns_elim h1
    have o1' : rep c.W F1 v (.ins cn fs) := o1
    cases o1 with
    | ins hg hp rs =>
      rw [ft.mg, cl.g] at hg
      cases hg
      refine ⟨_, _, _, rfl, R1.pool.sub _ _ hp, rs.lookupN hl, F1, env1, ex, _, R1, h1, hw, fun F2 H2 env2 vs ys s2 R2 o2 h2 => ?_⟩
      obtain ⟨F3, env3, us, s3, R3, r3, h3⟩ := R2.pins o2 h2
      refine spec_call ft R3 (.cons (o1'.mono (s2.trans s3).same) r3) hw h3 fun F4 H4 v u x4 R4 r4 hf h4 => ?_
      obtain ⟨p, ws, zs, Fm, rfl, rfl, h0, hm, e4, e5, h6⟩ := hf rfl
      have x := (s1.trans s2).trans s3
      exact hk Fm H4 env3 p ws zs (x.liv p h0) (x.ext h6) ⟨R3.ext h6, hm, R3.freshH0 h0, e4, e5, R3.pool.neStore h0, (fun j ys ej z => by
        obtain ⟨o, k1, k2⟩ := R3.slot j _ ej
        rw [z] at k1; cases k1
        obtain ⟨p', ws', e', _, _, k5, _⟩ := k2
        cases e'
        rw [h0] at k5; cases k5), R3.fpCall h6 h0⟩ h4
theorem ue_prop {q : Addr} {fn : Str} (ft : Fit c X) (cl : Cl X.K X.mg cn C) (hp : PropOf X.K C fn q f) (G : FnOk X.prog X.w X.K X.mg X.base (L2.CX X.prog X.w) k f fd ps (Pr X.prog X.w X.K X.mg fr spec)) (hr : Room (k + 1) X.A) (hb : Binds X.K fd ps []) (he : PE X e (tm c mo)) (hab : attributeBase e fn X.env (eval e X.env) = eval e X.env := by rfl) :
    PE X (.Attribute e fn pos) (tm c (uProp cn fn spec mo)) := PE.imp (pe_prop (dvs := []) he cl.cls hp G hr hb .nil passL hab) fun σ H Q ⟨F, env, ex, k, R, hm, hw, hk⟩ => by
  refine ⟨F, env, ex, _, R, hm, hw, fun F1 H1 env1 v y s1 R1 o1 h1 => ?_⟩
  match y, o1, h1 with
  | .val u, o1, h1 =>
    obtain ⟨fs, rfl, h1⟩ := gIns_elim h1
    have o1' : rep c.W F1 v (.ins cn fs) := o1
    cases o1 with
    | ins hg hp rs =>
      rw [ft.mg, cl.g] at hg
      cases hg
      refine ⟨_, _, _, rfl, R1.pool.sub _ _ hp, ?_⟩
      obtain ⟨⟨cK, cmg, cst, chot, cdn⟩, cF, cH, cwx, cfr, cme⟩ := c
      obtain rfl : chot = none := ft.cool
      obtain rfl : cdn = DN X.prog X.w := ft.dn
      rw [← ft.K, ← ft.mg]
      exact ⟨cst, F1, _, _, _, R1.pool, .cons o1' .nil, h1, fun _ _ _ _ _ _ _ _ _ _ _ h => h.elim, fun F' H' v u x r' _ h' => hk F' H' env1 v (.val u) (s1.ext x) (R1.ext x) r' h'⟩
theorem uf_prop {q : Addr} {fn : Str} (ft : Fit c X) (cl : Cl X.K X.mg cn C) (hp : PropOf X.K C fn q f) (G : FnOk X.prog X.w X.K X.mg X.base (L2.CX X.prog X.w) k f fd ps (Pr X.prog X.w X.K X.mg true spec)) (hr : Room (k + 1) X.A) (hb : Binds X.K fd ps []) (he : PE X e (tm c mo)) (hab : attributeBase e fn X.env (eval e X.env) = eval e X.env := by rfl) :
    PE X (.Attribute e fn pos) (tf c (fProp cn fn spec mo)) := PE.imp (pe_prop (dvs := []) he cl.cls hp G hr hb .nil passL hab) fun σ H Q ⟨F, env, ex, k, R, hm, hw, hk⟩ => by
  refine ⟨F, env, ex, _, R, hm, hw, fun F1 H1 env1 v y s1 R1 o1 h1 => ?_⟩
  match y, o1, h1 with
  | .val u, o1, h1 =>
    obtain ⟨fs, rfl, h1⟩ := gIns_elim h1
    have o1' : rep c.W F1 v (.ins cn fs) := o1
    cases o1 with
    | ins hg hp rs =>
      rw [ft.mg, cl.g] at hg
      cases hg
      refine ⟨_, _, _, rfl, R1.pool.sub _ _ hp, ?_⟩
      obtain ⟨⟨cK, cmg, cst, chot, cdn⟩, cF, cH, cwx, cfr, cme⟩ := c
      obtain rfl : chot = none := ft.cool
      obtain rfl : cdn = DN X.prog X.w := ft.dn
      rw [← ft.K, ← ft.mg]
      refine ⟨cst, F1, _, _, _, R1.pool, .cons o1' .nil, h1, fun _ _ _ _ _ _ _ _ _ _ _ h => h.elim, fun F' H' v u x r' hf h' => ?_⟩
      obtain ⟨p, ws, zs, Fm, rfl, rfl, h0, hm, e4, e5, h6⟩ := hf rfl
      exact hk Fm H' env1 p ws zs (s1.liv p h0) (s1.ext h6) ⟨R1.ext h6, hm, R1.freshH0 h0, e4, e5, R1.pool.neStore h0, (fun j ys ej z => by
        obtain ⟨o, k1, k2⟩ := R1.slot j _ ej
        rw [z] at k1; cases k1
        obtain ⟨p', ws', e', _, _, k5, _⟩ := k2
        cases e'
        rw [h0] at k5; cases k5), R1.fpCall h6 h0⟩ h'
end
end UL

namespace UL
open PySem PySem.Spec PyProof.Rows L2
/-! ### making an instance -/
def rm (x : Addr) (H : Hp) : Hp := fun b => if b = x then none else H b
theorem rm_ne {x b : Addr} {H : Hp} (h : b ≠ x) : rm x H b = H b := if_neg h
theorem rm_same {x : Addr} {H : Hp} : rm x H x = none := if_pos rfl
abbrev SpecI := List U → (Str → List (Str × U) → Prop) → (List (Str × U) → Prop) → Prop
/-- an __init__'s promise -/
def PrI (P : Program) (w : World) (K : PySem.W.Frag) (mg : Str → Option Value) (cn : Str) (spec : SpecI) : Sp := fun vs H Q E => ∃ (st : Option (Addr × Addr)) (F : Hp) (x dx C : Addr) (ws : List V) (us : List U) (ex : Str → List (Str × U) → Prop) (k : List (Str × U) → Prop),
  vs = .ref x :: ws ∧ mg cn = some (.ref C) ∧ H x = some (.ins C dx []) ∧ F x = none ∧ (∀ a cc, st = some (a, cc) → x ≠ a) ∧ Pool ⟨K, mg, st, none, DN P w⟩ F H ∧ reps ⟨K, mg, st, none, DN P w⟩ F ws us ∧ spec us ex k ∧
  (∀ F' H' C d fvs cn fus, Ext ⟨K, mg, st, none, DN P w⟩ F (rm x H) F' H' → mg cn = some (.ref C) → H' d = some (.xd fvs) → repf ⟨K, mg, st, none, DN P w⟩ F' fvs fus → ex cn fus → E (.ref C) (some d) H') ∧
  (∀ F' H' fvs fus, Ext ⟨K, mg, st, none, DN P w⟩ F (rm x H) F' H' → F' x = none → H' x = some (.ins C dx fvs) → repf ⟨K, mg, st, none, DN P w⟩ F' fvs fus → k fus → Q .non H')
def startI (n : Nat) (cn : Str) (us : List U) : List Slot := .mk cn [] :: (us.map Slot.val ++ List.replicate (n - 1 - us.length) .no)
structure FunA (K : PySem.W.Frag) (x qual : Str) (st : Stmt) (f : Addr) (fd : FuncData) : Prop where
  ex : ∃ (oc : Value) (od : Option Addr) (dV kV doc pm : Value) (an : Option Addr) (cdv ct : Value) (osl : Array (Option Value)),
    fd = PySem.W.fnOf x qual (defArgs st) (defBody st) (defScope st) dV kV doc pm an cdv ct ∧ K.lookup f = some ⟨oc, od, .func fd, osl⟩ ∧ PySem.W.codeIn K cdv qual = true
section
variable {P : Program} {w : World} {K : PySem.W.Frag} {mg : Str → Option Value} {base : Heap}
theorem rel_startI {c : Uc} {N : List Str} {x dx C : Addr} {cn : Str} {ws : List V} {us : List U} {H : Hp} (P : Pool c.W c.F0 H) (h0 : c.H0 = rm x H) (hc : c.W.mg cn = some (.ref C)) (hm : (x, dx) = c.me) (hx : H x = some (.ins C dx [])) (fx : c.F0 x = none) (ns : ∀ a cc, c.W.st = some (a, cc) → x ≠ a)
    (r : reps c.W c.F0 ws us) : Rel c c.F0 (L2.start N (.ref x :: ws)) (startI N.length cn us) H where
  pool := P
  base := ⟨fun b o n e => by
    rw [h0] at e
    by_cases hb : b = x
    · subst hb; rw [rm_same] at e; cases e
    · rw [rm_ne hb] at e; exact e, Same.refl _, fun _ _ h => .inl h⟩
  len := by unfold L2.start startI; simp [r.length]; omega
  slot := fun i s e => by
    unfold startI at e
    unfold L2.start
    cases i with
    | zero =>
      cases e
      exact ⟨some (.ref x), rfl, x, C, dx, [], rfl, ⟨hc, hm⟩, fx, by rw [h0]; exact rm_same, hx, .nil, ns⟩
    | succ i =>
      rw [List.getElem?_cons_succ] at e
      rw [List.map_cons, List.cons_append, List.getElem?_cons_succ]
      by_cases hi : i < us.length
      · rw [List.getElem?_append_left (by simpa using hi), List.getElem?_map] at e
        cases h : us[i]? with
        | none => rw [h] at e; cases e
        | some u =>
          rw [h] at e; cases e
          obtain ⟨v, h1, h2⟩ := r.get' h
          exact ⟨some v, by rw [List.getElem?_append_left (by rw [List.length_map, r.length]; exact hi), List.getElem?_map, h1]; rfl, h2⟩
      · rw [List.getElem?_append_right (by simpa using hi), List.getElem?_replicate] at e
        rw [List.length_map] at e
        split at e
        · cases e
          rename_i hlt
          refine ⟨none, ?_, trivial⟩
          rw [List.getElem?_append_right (by rw [List.length_map, r.length]; omega), List.getElem?_replicate, List.length_map, r.length, List.length_cons, r.length, if_pos (by omega)]
        · cases e
  fp := FtOk.none fun i t ei => by
    unfold startI at ei
    cases i with
    | zero => cases ei
    | succ i =>
      rw [List.getElem?_cons_succ] at ei
      by_cases hi : i < us.length
      · rw [List.getElem?_append_left (by simpa using hi), List.getElem?_map] at ei
        cases h : us[i]? <;> rw [h] at ei <;> cases ei
      · rw [List.getElem?_append_right (by simpa using hi), List.getElem?_replicate] at ei
        split at ei <;> cases ei
  dist := fun i j p xs ys _ ei _ _ _ => by
    unfold startI at ei
    cases i with
    | zero => cases ei
    | succ i =>
      rw [List.getElem?_cons_succ] at ei
      by_cases hi : i < us.length
      · rw [List.getElem?_append_left (by simpa using hi), List.getElem?_map] at ei
        cases h : us[i]? <;> rw [h] at ei <;> cases ei
      · rw [List.getElem?_append_right (by simpa using hi), List.getElem?_replicate] at ei
        split at ei <;> cases ei
  one := fun i cn fs ei => by
    unfold startI at ei
    cases i with
    | zero => rfl
    | succ i =>
      rw [List.getElem?_cons_succ] at ei
      by_cases hi : i < us.length
      · rw [List.getElem?_append_left (by simpa using hi), List.getElem?_map] at ei
        cases h : us[i]? <;> rw [h] at ei <;> cases ei
      · rw [List.getElem?_append_right (by simpa using hi), List.getElem?_replicate] at ei
        split at ei <;> cases ei
theorem fn_uI {x qual : Str} {st : Stmt} {f : Addr} {fd : FuncData} {N ps : List Str} {k : Nat} {cn : Str} (Fd : FunA K x qual st f fd) (S : FnScope N ps (defScope st)) (spec : SpecI) (len : ∀ us ex k, spec us ex k → us.length + 1 = ps.length)
    (h : ∃ m : US, (∀ (cdv : Value) (A : Around) (outer : List Env) (s : Shared) (H : Hp) (E : XK) (c : Uc), c.W.K = K → c.W.mg = mg → c.fr = false → Room k (A.deeper (envOfC qual (defScope st) s.heap.objs.size f cdv)) →
        Fit c (cxU P w K mg base N qual st f cdv A outer s H E) → PSs (cxU P w K mg base N qual st f cdv A outer s H E) (defBody st) (ts c m)) ∧
      ∀ us ex k, spec us ex k → m { nx := fun env => ∃ fus, env[0]? = some (.mk cn fus) ∧ k fus, rt := fun _ => False, ex := fun _ => ex } (startI N.length cn us)) :
    FnOk P w K mg base (L2.CX P w) (k + 1) f fd ps (PrI P w K mg cn spec) := by
  obtain ⟨oc, od, dV, kV, doc, pm, an, cdv, ct, osl, rfl, lk, hcd⟩ := Fd.ex
  obtain ⟨m, hm, hs⟩ := h
  refine fn_of lk hcd S (fun vs H Q E h => ?_) (fun A outer s H vs Q E hr h => ?_)
  · obtain ⟨st, F, x, dx, C, ws, us, ex, k, rfl, _, _, _, _, p, r, h, _⟩ := h
    rw [List.length_cons, r.length]
    exact len _ _ _ h
  · obtain ⟨st', F, x, dx, C, ws, us, ex, k, rfl, hc, hx, fx, ns, p, r, h, he, hk⟩ := h
    refine ⟨_, hm cdv A outer s H E ⟨⟨K, mg, st', none, DN P w⟩, F, rm x H, fun C d _ H => E C d H, false, (x, dx)⟩ rfl rfl rfl hr ⟨rfl, rfl, rfl, rfl, takes_of rfl rfl rfl rfl⟩, F, _, _, rel_startI (c := ⟨⟨K, mg, st', none, DN P w⟩, F, rm x H, fun C d _ H => E C d H, false, (x, dx)⟩) p rfl hc rfl hx fx ns r, hs us _ _ h, ?_⟩
    refine ⟨fun F' σ' env' H' _ R' ⟨fus, e0, h'⟩ => ?_, fun _ _ _ _ _ _ h' => h'.elim, fun _ _ _ _ _ _ h' => h'.elim, fun _ _ _ _ _ _ _ h' => h'.elim,
      fun F' σ' env' H' C d fvs cn fus R' e1 e2 e3 h' => he F' H' C d fvs cn fus ⟨R'.base, R'.pool⟩ e1 e2 e3 h'⟩
    obtain ⟨o, k1, k2⟩ := R'.slot 0 _ e0
    cases o with
    | none => exact k2.elim
    | some v =>
      obtain ⟨p', C', dx', fvs, rfl, ⟨g0, g1⟩, g3, g4, g5, g6, g7⟩ := k2
      cases g1
      have g0 : mg cn = some (.ref C') := g0
      rw [hc] at g0
      cases g0
      exact hk F' H' fvs fus ⟨R'.base, R'.pool⟩ g3 g5 g6 h'
end
/-- C(..), the wish at the slots -/
def tMakeSD (C : Addr) (sp : Sp) (E : L2.St → XK) (t : TA) : TE := fun σ H Q => t σ H fun vs H1 => ∀ x dx, H1 x = none → H1 dx = none → dx ≠ x →
  sp (.ref x :: vs) (upd (upd H1 dx (.own x)) x (.ins C dx [])) (fun v H2 => v = .non ∧ Q (.ref x) H2) (E σ)
section
variable {X : Cx} {CX : CXT} {k : Nat} {f C : Addr} {fd : FuncData} {ps : List Str} {sp : Sp} {E : L2.St → XK} {x : Str} {p pos : Pos} {e : Expr} {es : List Expr} {t : TA}
theorem run_makeSD {pins : List (Addr × Obj)} {σ : L2.St} {H : Hp} {s : Shared} {Q : VK} {us : List Value} {vs : List V} (M : Mk X.K C f) (F : FnOk X.prog X.w X.K X.mg X.base CX k f fd ps sp) (hr : Room (k + 1) X.A) (hb : Binds X.K fd ps [])
    (hx : PassesAt CX X σ (E σ)) (I : Inv X pins σ H s) (r : Vals vs us)
    (h : ∀ x dx, H x = none → H dx = none → dx ≠ x → sp (.ref x :: vs) (upd (upd H dx (.own x)) x (.ins C dx [])) (fun v H2 => v = .non ∧ Q (.ref x) H2) (E σ)) :
    wpAny (model X.prog X.w) X.A (call (.ref C) us) (EP X pins σ Q) X.xe s := by
  have hq := h (s.heap.objs.size + 1) s.heap.objs.size (I.hok.fresh (Nat.le_succ _)) (I.hok.fresh (Nat.le_refl _)) (Nat.ne_of_lt (Nat.lt_succ_self _))
  have I2 := Inv.made (C := C) I
  have r2 : Vals (V.ref (s.heap.objs.size + 1) :: vs) (Value.ref (s.heap.objs.size + 1) :: us) := .cons rfl r
  have hl : (Value.ref (s.heap.objs.size + 1) :: us).length = ps.length := by
    have e := r2.length
    rw [F.len _ _ _ _ hq] at e
    exact e.symm
  have b := hb _ (Value.ref (s.heap.objs.size + 1) :: us) I2.kIn (by rw [List.append_nil]; exact hl)
  rw [List.append_nil] at b
  refine wpAny_call (make_map (f := f) I.kIn M.makes M.init (beq_iff_eq.mp M.fn) (codeAny_mono (F.run _ X.stack _ _ ⟨Value.ref (s.heap.objs.size + 1) :: us, []⟩ (Value.ref (s.heap.objs.size + 1) :: us) _ _ (E σ) (hr.make C us [])
    (I2.env0.make C us []) b r2 hq) fun r s' hq' => ?_))
  cases r with
  | error e => exact hx pins _ _ e s' I2 hq'
  | ok fl =>
    cases fl with
    | ret u =>
      obtain ⟨v, H', I3, rv, ev, q3⟩ := I2.after hq'
      subst ev
      exact ⟨rv, ⟨V.ref (s.heap.objs.size + 1), H', I3, rfl, q3⟩⟩
    | next => exact False.elim hq'
    | brk => exact False.elim hq'
    | cont => exact False.elim hq'
theorem pe_makeSD (M : Mk X.K C f) (F : FnOk X.prog X.w X.K X.mg X.base CX k f fd ps sp) (hr : Room (k + 1) X.A) (hg : Gl X x) (hm : X.mg x = some (.ref C)) (hb : Binds X.K fd ps []) (hx : ∀ σ, PassesAt CX X σ (E σ))
    (ha : PA X (e :: es) t) (hdb : (x == ("__debug__" : Str)) = false := by decide) (he : starEach (e :: es) X.env = (false, eval e X.env) :: starEach es X.env := by rfl) (hpl : (backTo pos (starEach es X.env)).any (·.1) = false := by rfl) :
    PE X (.Call (.Name x p) (e :: es) [] pos) (tMakeSD C sp E t) := by
  refine ⟨fun pins s σ H Q I h => ?_⟩
  refine wpAny_Call_Name_kw (ld_glob I hg hm ?_ hdb)
  refine PySem.W.callWith_K (h₀ := X.base) I.ok.mod.kin M.kp (thn (ha.run pos pins s σ H _ I h) fun us s1 ⟨vs, H1, I1, r, q⟩ => ⟨I1.kIn, ?_⟩) he hpl
  exact run_makeSD M F hr hb (hx σ) I1 r q
end
def uMake (cn : Str) (spec : SpecI) (ms : UA) : UM := fun ex env k => ms ex env fun ys env1 => UL.pins env1 ys fun us env2 => spec us (ex env2) fun fus => k (.val (.ins cn fus)) env2
section
variable {X : Cx} {c : Uc} {k : Nat} {f C : Addr} {fd : FuncData} {ps : List Str} {cn : Str} {spec : SpecI} {p pos : Pos} {e : Expr} {es : List Expr} {ms : UA}
theorem ue_make (ft : Fit c X) (M : Mk X.K C f) (G : FnOk X.prog X.w X.K X.mg X.base (L2.CX X.prog X.w) k f fd ps (PrI X.prog X.w X.K X.mg cn spec)) (hr : Room (k + 1) X.A) (hg : Gl X cn) (cl : Cl X.K X.mg cn C) (hb : Binds X.K fd ps []) (ha : PA X (e :: es) (ta c ms))
    (hdb : (cn == ("__debug__" : Str)) = false := by decide) (he : starEach (e :: es) X.env = (false, eval e X.env) :: starEach es X.env := by rfl) (hpl : (backTo pos (starEach es X.env)).any (·.1) = false := by rfl) :
    PE X (.Call (.Name cn p) (e :: es) [] pos) (tm c (uMake cn spec ms)) := PE.imp (pe_makeSD M G hr hg cl.g hb (fun σ => passAt ft.tk σ) ha hdb he hpl) fun σ H Q ⟨F, env, ex, k, R, hm, hw, hk⟩ => by
  refine ⟨F, env, ex, _, R, hm, hw, fun F1 H1 env1 vs ys s1 R1 o1 h1 x dx hx hdx hne => ?_⟩
  obtain ⟨F2, env2, us, s2, R2, r2, h2⟩ := R1.pins o1 h1
  have n1 : ∀ {b : Addr} {o : HO}, H1 b = some o → b ≠ x ∧ b ≠ dx := fun {b o} e => ⟨ne_of_none e hx, ne_of_none e hdx⟩
  have fx : F2 x = none := by
    cases q : F2 x with
    | none => rfl
    | some o => rw [R2.pool.sub _ _ q] at hx; cases hx
  have P2 : Pool c.W F2 (upd (upd H1 dx (.own x)) x (.ins C dx [])) := ⟨fun b o z => by
      obtain ⟨a1, a2⟩ := n1 (R2.pool.sub b o z)
      rw [upd_ne a1, upd_ne a2]; exact R2.pool.sub b o z, fun a cc z => by
      obtain ⟨h1, h2, q, st, ct, hd, lf, h3, h4⟩ := R2.pool.sto a cc z
      obtain ⟨a1, a2⟩ := n1 h4
      exact ⟨h1, h2, q, st, ct, hd, lf, h3, by rw [upd_ne a1, upd_ne a2]; exact h4⟩⟩
  have keep0 : ∀ {F' H' : Hp}, Ext c.W F2 (rm x (upd (upd H1 dx (.own x)) x (.ins C dx []))) F' H' → Grow c.W.st F2 H1 F' H' := fun {F' H'} z => ⟨fun b o n e => z.1.keep b o n (by
      obtain ⟨a1, a2⟩ := n1 e
      rw [rm_ne a1, upd_ne a1, upd_ne a2]; exact e), z.1.pool, fun b o e => by
      rcases z.1.new b o e with q | q
      · exact .inl q
      · right
        cases e' : H1 b with
        | none => rfl
        | some u =>
          obtain ⟨a1, a2⟩ := n1 e'
          rw [rm_ne a1, upd_ne a1, upd_ne a2, e'] at q; cases q⟩
  obtain ⟨⟨cK, cmg, cst, chot, cdn⟩, cF, cH, cwx, cfr, cme⟩ := c
  obtain rfl : chot = none := ft.cool
  obtain rfl : cdn = DN X.prog X.w := ft.dn
  rw [← ft.K, ← ft.mg]
  refine ⟨cst, F2, x, dx, C, vs, us, _, _, rfl, by rw [ft.mg]; exact cl.g, upd_same, fx, R2.pool.neStore hx, P2, r2, h2, fun F' H' C' d fvs cn' fus z e1 e2 e3 h' => hw F' σ env2 H' C' d fvs cn' fus (R2.ext ⟨keep0 z, z.2⟩) e1 e2 e3 h', fun F' H' fvs fus z f0 e1 e2 h' => ⟨rfl, ?_⟩⟩
  have g := keep0 z
  have sm : Same F' (upd F' x (.ins C dx fvs)) := fun b o e => by rw [upd_ne (ne_of_none e f0)]; exact e
  have P3 : Pool ⟨cK, cmg, cst, none, DN X.prog X.w⟩ (upd F' x (.ins C dx fvs)) H' := ⟨fun b o e => by
      by_cases hb : b = x
      · subst hb; rw [upd_same] at e; cases e; exact e1
      · rw [upd_ne hb] at e; exact z.2.sub b o e, fun a cc e => by
      obtain ⟨h1, ⟨ns, h2⟩, h3⟩ := z.2.sto a cc e
      exact ⟨by rw [upd_ne (R2.pool.neStore hx a cc e).symm]; exact h1, ⟨ns, sm _ _ h2⟩, h3⟩⟩
  have x3 : Ext ⟨cK, cmg, cst, none, DN X.prog X.w⟩ F2 H1 (upd F' x (.ins C dx fvs)) H' := ⟨⟨g.keep, g.pool.trans sm, fun b o e => by
      by_cases hb : b = x
      · right; rw [hb]; exact hx
      · rw [upd_ne hb] at e; exact g.new b o e⟩, P3⟩
  exact hk _ H' env2 (.ref x) (.val (.ins cn fus)) ((s1.trans s2).ext x3) (R2.ext x3) (.ins (by rw [ft.mg]; exact cl.g) upd_same (e2.mono sm)) h'
end

/-! ### raising an error of one's own -/
section
variable {c : Uc} {F H : Hp} {σ : List (Option V)} {env : List Slot}
theorem Rel.more {p : Addr} {o : HO} (R : Rel c F σ env H) (hp : H p = none) : Rel c F σ env (upd H p o) where
  pool := ⟨fun b o e => by rw [upd_ne (ne_of_none (R.pool.sub b o e) hp)]; exact R.pool.sub b o e, fun a cc e => by
      obtain ⟨h1, h2, q, st, ct, hd, lf, h3, h4⟩ := R.pool.sto a cc e
      exact ⟨h1, h2, q, st, ct, hd, lf, h3, by rw [upd_ne (R.pool.neStore hp a cc e).symm]; exact h4⟩⟩
  base := ⟨fun b o n e => by rw [upd_ne (ne_of_none (R.base.keep b o n e) hp)]; exact R.base.keep b o n e, R.base.pool, R.base.new⟩
  len := R.len
  slot := fun j s e => by
    obtain ⟨o, h1, h2⟩ := R.slot j s e
    refine ⟨o, h1, ?_⟩
    cases s with
    | no => cases o <;> trivial
    | val u => cases o with
      | none => exact h2.elim
      | some v => exact h2
    | own xs =>
      cases o with
      | none => exact h2.elim
      | some v =>
        obtain ⟨q, ws, rfl, h3, h4, h5, h6⟩ := h2
        exact ⟨q, ws, rfl, h3, h4, by rw [upd_ne (ne_of_none h5 hp)]; exact h5, h6⟩
    | mk cn fs =>
      cases o with
      | none => exact h2.elim
      | some v =>
        obtain ⟨q, C, dx, ws, rfl, h0, h3, h4, h5, h6⟩ := h2
        exact ⟨q, C, dx, ws, rfl, h0, h3, h4, by rw [upd_ne (ne_of_none h5 hp)]; exact h5, h6⟩
    | pas t =>
      cases o with
      | none => exact h2.elim
      | some v => trivial
  dist := R.dist
  one := R.one
  fp := R.fpNext rfl rfl (fun i t e => ⟨e, rfl⟩) (Same.refl F) (fun b o e _ _ => by rw [upd_ne (ne_of_none e hp)]; exact e) (fun _ _ z => .inl z) fun j xs b e f => .inr ⟨j, xs, e, f⟩
end
/-- what an error's __init__ promises: its fields, the last one first -/
def spErr (fs : List Str) : Sp := fun vs H Q _ => ∃ (a C : Addr) (ws : List V), vs = .ref a :: ws ∧ ws.length = fs.length ∧ H a = some (exo a C none) ∧
  ∀ d H2, H d = none → d ≠ a → (∀ b, b ≠ a → b ≠ d → H2 b = H b) → H2 a = some (exo a C (some d)) → H2 d = some (exd d (fs.zip ws).reverse) → Q .non H2
/-- an error class of one's own -/
structure Er (P : Program) (w : World) (K : PySem.W.Frag) (mg : Str → Option Value) (base : Heap) (cn : Str) (fs : List Str) (k : Nat) (C : Addr) : Prop where
  g : mg cn = some (.ref C)
  T : OexC K C
  i : ∃ fI fd, PySem.W.findIn K (.ref C) "__init__" = some (some (.ref fI)) ∧ PySem.W.typeIn K (.ref fI) = some (.type "function") ∧ FnOk P w K mg base (L2.CX P w) k fI fd ("self" :: fs) (spErr fs) ∧ Binds K fd ("self" :: fs) []
def uRaise (cn : Str) (fs : List Str) (ms : UA) : US := fun d env => ms d.ex env fun ys env1 => UL.pins env1 ys fun us env2 => us.length = fs.length ∧ d.ex env2 cn (fs.zip us).reverse
theorem zip_repf {W : Wd} {F : Hp} : ∀ {fs : List Str} {vs : List V} {us : List U}, reps W F vs us → repf W F (fs.zip vs) (fs.zip us)
  | [], _, _, _ => by rw [List.zip_nil_left, List.zip_nil_left]; exact .nil
  | _ :: _, _, _, .nil => .nil
  | f :: fs, _, _, .cons a r => .cons a (zip_repf r)
theorem repf.append {W : Wd} {F : Hp} : ∀ {vs ws : List (Str × V)} {us zs : List (Str × U)}, repf W F vs us → repf W F ws zs → repf W F (vs ++ ws) (us ++ zs)
  | _, _, _, _, .nil, k => k
  | _, _, _, _, .cons a r, k => .cons a (repf.append r k)
theorem repf.reverse {W : Wd} {F : Hp} : ∀ {vs : List (Str × V)} {us : List (Str × U)}, repf W F vs us → repf W F vs.reverse us.reverse
  | _, _, .nil => .nil
  | _, _, .cons a r => by rw [List.reverse_cons, List.reverse_cons]; exact r.reverse.append (.cons a .nil)
section
variable {X : Cx} {c : Uc} {k : Nat} {C : Addr} {cn : Str} {fs : List Str} {p pos rpos : Pos} {e : Expr} {es : List Expr} {ms : UA}
theorem us_raise (ft : Fit c X) (T : Er X.prog X.w X.K X.mg X.base cn fs k C) (hr : Room (k + 1) X.A) (hg : Gl X cn) (ha : PA X (e :: es) (ta c ms)) (hfs : fs.length ≤ 1000 := by decide)
    (hdb : (cn == ("__debug__" : Str)) = false := by decide) (he : starEach (e :: es) X.env = (false, eval e X.env) :: starEach es X.env := by rfl) (hpl : (backTo pos (starEach es X.env)).any (·.1) = false := by rfl) (hc : X.calm = true := by rfl) :
    PS X (.Raise (some (.Call (.Name cn p) (e :: es) [] pos)) none rpos) (ts c (uRaise cn fs ms)) := by
  obtain ⟨fI, fd, iC, tI, G, hb⟩ := T.i
  refine PS.imp (ps_raise hc ft.tk (pmk_oex (dvs := []) T.T iC tI G hr hb .nil (passL (X := X)) hg T.g ha hdb he hpl)) fun D σ H ⟨F, env, d, R, hm, E⟩ => ?_
  refine ⟨F, env, _, _, R, hm, E.ex, fun F1 H1 env1 vs ys s1 R1 o1 h1 => ?_⟩
  obtain ⟨F2, env2, us, s2, R2, r2, hl, h2⟩ := R1.pins o1 h1
  refine ⟨by rw [r2.length, hl]; exact hfs, fun a ha0 => ?_⟩
  refine ⟨a, C, vs ++ [], rfl, by rw [List.append_nil, r2.length]; exact hl, upd_same, fun dd H2 d1 d2 d3 d4 d5 => ⟨rfl, dd, _, d4, d5, by rw [upd_ne d2] at d1; exact d1, ?_⟩⟩
  rw [upd_ne d2] at d1
  have eH : upd (L2.del H2 a) dd (.xd (fs.zip (vs ++ [])).reverse) = upd H1 dd (.xd (fs.zip vs).reverse) := by
    funext b
    rw [List.append_nil]
    by_cases b1 : b = dd
    · subst b1; rw [upd_same, upd_same]
    · rw [upd_ne b1, upd_ne b1]
      by_cases b2 : b = a
      · subst b2; rw [del_same, ha0]
      · rw [del_ne b2, d3 b b2 b1, upd_ne b2]
  rw [eH]
  exact E.ex F2 σ env2 _ C dd _ cn _ (R2.more d1) (by rw [ft.mg]; exact T.g) upd_same (zip_repf r2).reverse h2
end
end UL

namespace UL
open PySem PySem.Spec PyProof.Rows L2
/-! ### stars -/
def uStar (m : UM) (ms : UA) : UA := fun ex env k => m ex env fun y env1 => vw env1 y fun u => match u with
  | .lst xs => ms ex env1 fun ys env2 => k (xs.map Y.val ++ ys) env2
  | .tup xs => ms ex env1 fun ys env2 => k (xs.map Y.val ++ ys) env2
  | _ => False
theorem ysOk_vals {c : Uc} {F : Hp} {σ : List (Option V)} : ∀ {vs : List V} {us : List U}, reps c.W F vs us → YsOk c F σ vs (us.map Y.val)
  | _, _, .nil => .nil
  | _, _, .cons a r => .cons a (ysOk_vals r)
theorem YsOk.append {c : Uc} {F : Hp} {σ : List (Option V)} : ∀ {vs ws : List V} {ys zs : List Y}, YsOk c F σ vs ys → YsOk c F σ ws zs → YsOk c F σ (vs ++ ws) (ys ++ zs)
  | _, _, _, _, .nil, k => k
  | _, _, _, _, .cons a r, k => .cons a (YsOk.append r k)
section
variable {X : Cx} {c : Uc} {e : Expr} {es : List Expr} {m : UM} {ms : UA} {p : Pos}
theorem ua_star (ft : Fit c X) (he : PE X e (tm c m)) (hr : PA X es (ta c ms)) (hs : starEach (.Starred e p :: es) X.env = (true, eval e X.env) :: starEach es X.env := by rfl) : PA X (.Starred e p :: es) (ta c (uStar m ms)) :=
  PA.imp (StX.pa_star he hr hs) fun σ H Q ⟨F, env, ex, k, R, hm, hw, hk⟩ => by
    refine ⟨F, env, ex, _, R, hm, hw, fun F1 H1 env1 v y s1 R1 o1 h1 => ?_⟩
    obtain ⟨u, e1, h1⟩ := vw_elim h1
    have vi := R1.view o1 e1
    split at h1
    · obtain ⟨q, vs, rfl, h2, h3⟩ := vi.list R1.pool.sub
      exact ⟨q, vs, rfl, .inr (.inl (.inl h2)), F1, env1, ex, _, R1, h1, hw, fun F2 H2 env2 ws ys s2 R2 o2 h4 => hk F2 H2 env2 _ _ (s1.trans s2) R2 ((ysOk_vals (h3.mono s2.same)).append o2) h4⟩
    · obtain ⟨q, vs, rfl, h2, h3⟩ := vi.tupl R1.pool.sub
      exact ⟨q, vs, rfl, .inl (ft.K ▸ Same.seqT R1.pool.sub h2), F1, env1, ex, _, R1, h1, hw, fun F2 H2 env2 ws ys s2 R2 o2 h4 => hk F2 H2 env2 _ _ (s1.trans s2) R2 ((ysOk_vals (h3.mono s2.same)).append o2) h4⟩
    · exact h1.elim
end
/-! ### enumerate -/
def enumU (us : List U) : List U := us.zipIdx.map fun p => U.tup [.int (p.2 : Nat), p.1]
def iEn (m : UM) : UI := fun ex env k => m ex env fun y env1 => UL.pin env1 y fun u env2 => match u with
  | .lst us => k (enumU us) env2
  | _ => False
section
variable {X : Cx} {c : Uc} {e : Expr} {m : UM}
theorem ui_enum {elts : List Expr} {kk : Nat} {tpos p pos : Pos} (ft : Fit c X) (hg : Gl X "enumerate") (hm : X.mg "enumerate" = none) (h : PE X e (tm c m)) (hs : starEach [e] X.env = [(false, eval e X.env)] := by rfl) :
    PI X (.Tuple elts kk tpos) (.Call (.Name "enumerate" p) [e] [] pos) (tI c (iEn m)) := PI.imp (pi_enum hg hm (pa_cons h pa_nil hs) hs) fun σ H Q ⟨F, env, ex, k, R, hm, hw, hk⟩ => by
  refine ⟨F, env, ex, _, R, hm, hw, fun F1 H1 env1 v y s1 R1 o1 h1 => ?_⟩
  obtain ⟨F2, env2, u, s2, R2, r2, h2⟩ := R1.pin o1 h1
  cases r2 with
  | lst hp rs =>
    rename_i q vs us
    refine ⟨q, vs, rfl, .inl (.inl (R2.pool.sub _ _ hp)), hk F2 H1 env2 _ _ (s1.trans s2) R2 ⟨fun H => SqL X.K H q vs, YPair (fun i => some (.int (i : Nat))) (fun i => vs[i]?), ?_, fun F3 H3 s3 s4 => .inl (.inl (s4 _ _ (s3 _ _ hp))), fun F3 i H3 x H4 s3 P hi y => ?_⟩ h2⟩
    · have : (enumU us).length = vs.length := by unfold enumU; rw [List.length_map, List.length_zipIdx, rs.length]
      rw [this]; exact walk_enum
    · obtain ⟨T, x1, y1, rfl, hT, rfl, e1, e2⟩ := y
      cases e1
      obtain ⟨u, h5, h6⟩ := rs.get e2
      have xx := Ext.new (o := .tup [.int (i : Nat), y1]) P hT
      refine ⟨_, .tup [.int (i : Nat), u], xx, ?_, .tup (.inl (.inl upd_same)) (.cons (.int _) (.cons (h6.mono (s3.trans xx.same)) .nil))⟩
      unfold enumU
      rw [List.getElem?_map, List.getElem?_zipIdx, h5, Nat.zero_add]; rfl
  | _ => exact h2.elim
end
/-! ### dicts -/
def keyU : U → Option L2.Key
  | .int i => some (.inl i)
  | .str z => some (.inr z)
  | _ => none
theorem keyU_of {W : Wd} {F : Hp} {v : V} {u : U} {k : L2.Key} (r : rep W F v u) (h : keyU u = some k) : v = kV k := by
  cases r <;> first | (cases h; rfl) | cases h
def valU (ks : List (L2.Key × U)) (k : L2.Key) : Option U := (ks.find? fun kv => decide (kv.1 = k)).map (·.2)
def putD (ks : List (L2.Key × U)) (k : L2.Key) (v : U) : List (L2.Key × U) :=
  if (ks.any fun kv => decide (kv.1 = k)) = true then ks.map (fun kv => if kv.1 = k then (kv.1, v) else kv) else ks ++ [(k, v)]
section
variable {W : Wd} {F : Hp}
theorem repk.length : ∀ {vs : List (L2.Key × V)} {us : List (L2.Key × U)}, repk W F vs us → vs.length = us.length
  | _, _, .nil => rfl
  | _, _, .cons _ r => by rw [List.length_cons, List.length_cons, repk.length r]
theorem repk.val {k : L2.Key} : ∀ {vs : List (L2.Key × V)} {us : List (L2.Key × U)}, repk W F vs us → (valV vs k = none ∧ valU us k = none) ∨ ∃ v u, valV vs k = some v ∧ valU us k = some u ∧ rep W F v u
  | _, _, .nil => .inl ⟨rfl, rfl⟩
  | _, _, .cons (k := k') (v := v) (u := u) a r => by
    by_cases h : k' = k
    · right
      exact ⟨v, u, by simp [valV, List.find?_cons, h], by simp [valU, List.find?_cons, h], a⟩
    · have e1 : ∀ l, valV ((k', v) :: l) k = valV l k := fun l => by simp [valV, List.find?_cons, h]
      have e2 : ∀ l, valU ((k', u) :: l) k = valU l k := fun l => by simp [valU, List.find?_cons, h]
      rw [e1, e2]
      exact repk.val r
theorem repk.any {k : L2.Key} : ∀ {vs : List (L2.Key × V)} {us : List (L2.Key × U)}, repk W F vs us → (vs.any fun kv => decide (kv.1 = k)) = (us.any fun kv => decide (kv.1 = k))
  | _, _, .nil => rfl
  | _, _, .cons _ r => by rw [List.any_cons, List.any_cons, repk.any r]
theorem repk.append : ∀ {vs ws : List (L2.Key × V)} {us zs : List (L2.Key × U)}, repk W F vs us → repk W F ws zs → repk W F (vs ++ ws) (us ++ zs)
  | _, _, _, _, .nil, k => k
  | _, _, _, _, .cons a r, k => .cons a (repk.append r k)
theorem repk.mapPut {k : L2.Key} {v : V} {u : U} (a : rep W F v u) : ∀ {vs : List (L2.Key × V)} {us : List (L2.Key × U)}, repk W F vs us → repk W F (vs.map fun kv => if kv.1 = k then (kv.1, v) else kv) (us.map fun kv => if kv.1 = k then (kv.1, u) else kv)
  | _, _, .nil => .nil
  | _, _, .cons (k := k') b r => by
    rw [List.map_cons, List.map_cons]
    by_cases h : k' = k
    · simp only [h, if_true]; exact .cons a (repk.mapPut a r)
    · simp only [h, if_false]; exact .cons b (repk.mapPut a r)
theorem repk.put {k : L2.Key} {v : V} {u : U} (a : rep W F v u) {vs : List (L2.Key × V)} {us : List (L2.Key × U)} (r : repk W F vs us) : repk W F (putK vs k v) (putD us k u) := by
  unfold putK putD
  rw [r.any]
  by_cases h : (us.any fun kv => decide (kv.1 = k)) = true
  · rw [if_pos h, if_pos h]; exact r.mapPut a
  · rw [if_neg h, if_neg h]; exact r.append (.cons a .nil)
theorem View.dct {F H : Hp} {v : V} {ks : List (L2.Key × U)} (P : Same F H) (h : View W F H v (.dct ks)) : ∃ p kvs, v = .ref p ∧ H p = some (.dK kvs) ∧ repk W F kvs ks := by
  cases h with
  | pool r => cases r with | dct h r => exact ⟨_, _, rfl, P _ _ h, r⟩
end
/-- k in d -/
def gInD (neg : Bool) : G2 := fun u w κ => ∃ k, keyU u = some k ∧ match w with
  | .dct ks => κ (.bl (if neg then !(valU ks k).isSome else (valU ks k).isSome))
  | _ => False
/-- d[k], there -/
def gGetD : G2 := fun w u κ => ∃ k, keyU u = some k ∧ match w with
  | .dct ks => ∃ r, valU ks k = some r ∧ κ r
  | _ => False
theorem keyU_flat {u : U} {k : L2.Key} (h : keyU u = some k) : flatU u = true := by
  cases u <;> first | rfl | cases h
section
variable {X : Cx} {c : Uc} {i o : Expr} {mi mo : UM} {pos : Pos}
theorem din_core {neg : Bool} {F H : Hp} {x y : V} {u w : U} {κ : U → Prop} {Q : VK} (P : Pool c.W F H) (hx : View c.W F H x u) (hy : View c.W F H y w) (h : gInD neg u w κ) (hk : ∀ b, κ (.bl b) → Q (.bl b) H) :
    ∃ a o, y = .ref a ∧ DGet H a x o ∧ Q (.bl (if neg then !o.isSome else o.isSome)) H := by
  obtain ⟨k, e, h⟩ := h
  have ex := keyU_of (hx.flat (keyU_flat e)) e
  subst ex
  split at h
  · rename_i ks
    obtain ⟨p, kvs, rfl, h1, h2⟩ := hy.dct P.sub
    refine ⟨p, _, rfl, DGet.k h1, ?_⟩
    have : (valV kvs k).isSome = (valU ks k).isSome := by
      rcases h2.val (k := k) with ⟨e1, e2⟩ | ⟨v, u, e1, e2, _⟩
      · rw [e1, e2]; rfl
      · rw [e1, e2]; rfl
    rw [this]
    exact hk _ h
  · exact h.elim
theorem ue_din (hu : X.A.units + 1 < cLine) (hi : PE X i (tm c mi)) (ho : PE X o (tm c mo)) (h1 : behindInMarks .In o = false := by rfl) : PE X (.Compare i [.In] [o] pos) (tm c (uOp (gInD false) mi mo)) :=
  PE.imp (pe_cmp (pc_din hu hi ho) h1) fun σ H Q ⟨F, env, ex, k, R, hm, hw, hk⟩ => by
    refine ⟨F, env, ex, _, R, hm, hw, fun F1 H1 env1 v1 y1 s1 R1 o1 h1 => ⟨F1, env1, ex, _, R1, h1, hw, fun F2 H2 env2 v2 y2 s2 R2 o2 h2 => ?_⟩⟩
    obtain ⟨u, e1, h2⟩ := vw_elim h2
    obtain ⟨w, e2, h2⟩ := vw_elim h2
    exact din_core (neg := false) R2.pool (R2.view (o1.mono s2.same) e1) (R2.view o2 e2) h2 fun b hb => hk F2 H2 env2 _ (.val (.bl b)) (s1.trans s2) R2 (.bl _) hb
theorem ut_din (hu : X.A.units + 1 < cLine) (hi : PE X i (tm c mi)) (ho : PE X o (tm c mo)) (h1 : behindInMarks .In o = false := by rfl) : PT X (.Compare i [.In] [o] pos) (tt c (uVal (uOp (gInD false) mi mo))) :=
  PT.imp (pt_cmp (pc_din hu hi ho) h1) fun σ H Q ⟨F, env, ex, k, R, hm, hw, hk⟩ => by
    refine ⟨F, env, ex, _, R, hm, hw, fun F1 H1 env1 v1 y1 s1 R1 o1 h1 => ⟨F1, env1, ex, _, R1, h1, hw, fun F2 H2 env2 v2 y2 s2 R2 o2 h2 => ?_⟩⟩
    obtain ⟨u, e1, h2⟩ := vw_elim h2
    obtain ⟨w, e2, h2⟩ := vw_elim h2
    exact din_core (neg := false) (Q := fun x H' => ∃ b, x = .bl b ∧ Q b H') R2.pool (R2.view (o1.mono s2.same) e1) (R2.view o2 e2) h2 fun b hb => ⟨b, rfl, hk F2 H2 env2 b (s1.trans s2) R2 hb⟩
theorem ut_dnotin (hu : X.A.units + 1 < cLine) (hi : PE X i (tm c mi)) (ho : PE X o (tm c mo)) (h1 : behindInMarks .NotIn o = false := by rfl) : PT X (.Compare i [.NotIn] [o] pos) (tt c (uVal (uOp (gInD true) mi mo))) :=
  PT.imp (pt_cmp (pc_dnotin hu hi ho) h1) fun σ H Q ⟨F, env, ex, k, R, hm, hw, hk⟩ => by
    refine ⟨F, env, ex, _, R, hm, hw, fun F1 H1 env1 v1 y1 s1 R1 o1 h1 => ⟨F1, env1, ex, _, R1, h1, hw, fun F2 H2 env2 v2 y2 s2 R2 o2 h2 => ?_⟩⟩
    obtain ⟨u, e1, h2⟩ := vw_elim h2
    obtain ⟨w, e2, h2⟩ := vw_elim h2
    exact din_core (neg := true) (Q := fun x H' => ∃ b, x = .bl b ∧ Q b H') R2.pool (R2.view (o1.mono s2.same) e1) (R2.view o2 e2) h2 fun b hb => ⟨b, rfl, hk F2 H2 env2 b (s1.trans s2) R2 hb⟩
theorem ue_dget (hu : X.A.units + 1 < cLine) (ho : PE X o (tm c mo)) (hi : PE X i (tm c mi)) (hs : NoSl i) : PE X (.Subscript o i pos) (tm c (uOp gGetD mo mi)) :=
  PE.imp (pe_dget hu ho hi hs) fun σ H Q ⟨F, env, ex, k, R, hm, hw, hk⟩ => by
    refine ⟨F, env, ex, _, R, hm, hw, fun F1 H1 env1 v1 y1 s1 R1 o1 h1 => ⟨F1, env1, ex, _, R1, h1, hw, fun F2 H2 env2 v2 y2 s2 R2 o2 h2 => ?_⟩⟩
    obtain ⟨w, e1, h2⟩ := vw_elim h2
    obtain ⟨u, e2, h2⟩ := vw_elim h2
    have hx := R2.view o2 e2
    have hy := R2.view (o1.mono s2.same) e1
    obtain ⟨k, ek, h2⟩ := h2
    have ex := keyU_of (hx.flat (keyU_flat ek)) ek
    subst ex
    split at h2
    · obtain ⟨p, kvs, rfl, h3, h4⟩ := hy.dct R2.pool.sub
      obtain ⟨r, hr, h2⟩ := h2
      rcases h4.val (k := k) with ⟨_, e2⟩ | ⟨v, u, e1, e2, rv⟩
      · rw [e2] at hr; cases hr
      · rw [e2] at hr
        cases hr
        exact ⟨p, v, rfl, by rw [← e1]; exact DGet.k h3, hk F2 H2 env2 v (.val _) (s1.trans s2) R2 rv h2⟩
    · exact h2.elim
end
/-! ### dict comprehensions -/
def dcTurn (g : UG) (mt : UT) (mk mv : UM) (env : List Slot) (u : U) (κ : Option (L2.Key × U) → Prop) : Prop :=
  g u env fun env2 => mt exF env2 fun b env3 => env3 = env2 ∧ if b = true then mk exF env2 fun y env4 => env4 = env2 ∧ mv exF env2 fun z env5 => env5 = env2 ∧ (match y, z with
    | .val ku, .val vu => ∃ k, keyU ku = some k ∧ κ (some (k, vu))
    | _, _ => False) else κ none
def dcRun (turn : U → (Option (L2.Key × U) → Prop) → Prop) : List U → List (L2.Key × U) → (List (L2.Key × U) → Prop) → Prop
  | [], acc, k => k acc
  | u :: us, acc, k => turn u fun o => dcRun turn us (match o with
    | some (key, v) => putD acc key v
    | none => acc) k
def uDc (mi : UI) (g : UG) (mt : UT) (mk mv : UM) (vs : List Nat) : UM := fun ex env k => mi ex env fun us env1 => us.length ≤ 1000000 ∧ dcRun (dcTurn g mt mk mv (wipeE env1 vs)) us [] fun ks => k (.val (.dct ks)) env1
theorem putD_length (ks : List (L2.Key × U)) (k : L2.Key) (v : U) : (putD ks k v).length ≤ ks.length + 1 := by
  unfold putD
  split
  · rw [List.length_map]; omega
  · rw [List.length_append]; exact Nat.le_refl _
/-- a thing tracked beside the pool -/
structure DL (c : Uc) (F : Hp) (σ : List (Option V)) (env : List Slot) (H : Hp) (p : Addr) (vs : List (L2.Key × V)) (us : List (L2.Key × U)) : Prop where
  R : Rel c F σ env H
  fp : F p = none
  hp : c.H0 p = none
  at_ : H p = some (.dK vs)
  its : repk c.W F vs us
  ns : ∀ a cc, c.W.st = some (a, cc) → p ≠ a
  fpx : FtOk c F σ env H [p]
section
variable {c : Uc} {F F' H H' : Hp} {σ : List (Option V)} {env env' : List Slot} {p : Addr} {vs : List (L2.Key × V)} {us : List (L2.Key × U)}
theorem DL.off (L : DL c F σ env H p vs us) : ∀ (j : Nat) ys, env[j]? = some (.own ys) → σ[j]? ≠ some (some (.ref p)) := fun j ys e z => by
  obtain ⟨o, h1, h2⟩ := L.R.slot j _ e
  rw [z] at h1; cases h1
  obtain ⟨q, ws, hq, _, _, h5, _⟩ := h2
  cases hq
  rw [L.at_] at h5; cases h5
theorem DL.step (L : DL c F σ env H p vs us) (s : Stp c σ F env H F' env' H') (R' : Rel c F' σ env' H') : DL c F' σ env' H' p vs us where
  R := R'
  fp := by
    cases q : F' p with
    | none => rfl
    | some o =>
      rcases s.new p o q with z | z | ⟨j, xs, h1, h2⟩
      · rw [L.fp] at z; cases z
      · rw [L.at_] at z; cases z
      · exact absurd h2 (L.off j xs h1)
  hp := L.hp
  at_ := s.keep p _ L.at_ L.ns L.off
  its := L.its.mono s.same
  ns := L.ns
  fpx := s.fpx L.R L.fpx fun b hb _ _ => by rw [List.mem_singleton] at hb; subst hb; exact ⟨L.ns, L.off⟩
theorem Rel.putTrack {p : Addr} {o o' : HO} (R : Rel c F σ env H) (fp : F p = none) (hp : c.H0 p = none) (at_ : H p = some o) (nl : ∀ vs, o ≠ .lst vs) (ni : ∀ C dx fs, o ≠ .ins C dx fs) (ns : ∀ a cc, c.W.st = some (a, cc) → p ≠ a) (ob : Obl o) (fpx : FtOk c F σ env H [p]) : Rel c F σ env (upd H p o') where
  fp := R.fpNext' fpx rfl rfl (fun i t e => ⟨e, rfl⟩) (Same.refl F) (fun b u e _ _ k => by
      by_cases z : b = p
      · subst z; rw [at_] at e; cases e; exact absurd (List.mem_singleton.mpr rfl) (k ob)
      · rw [upd_ne z]; exact e) (fun _ _ z => .inl z) (fun j xs b e f => .inr (.inl ⟨j, xs, e, f⟩)) fun b z => by simp at z
  pool := R.pool.put fp ns
  base := ⟨fun b o n e => by rw [upd_ne (ne_of_none e hp)]; exact R.base.keep b o n e, R.base.pool, R.base.new⟩
  len := R.len
  slot := fun j s e => by
    obtain ⟨q, h1, h2⟩ := R.slot j s e
    refine ⟨q, h1, ?_⟩
    cases s with
    | no => cases q <;> trivial
    | val u => cases q with
      | none => exact h2.elim
      | some v => exact h2
    | own xs =>
      cases q with
      | none => exact h2.elim
      | some v =>
        obtain ⟨q, ws, rfl, h3, h4, h5, h6⟩ := h2
        have n : q ≠ p := fun z => by rw [z, at_] at h5; cases h5; exact nl _ rfl
        exact ⟨q, ws, rfl, h3, h4, by rw [upd_ne n]; exact h5, h6⟩
    | mk cn fs =>
      cases q with
      | none => exact h2.elim
      | some v =>
        obtain ⟨q, C, dx, ws, rfl, h0, h3, h4, h5, h6⟩ := h2
        have n : q ≠ p := fun z => by rw [z, at_] at h5; cases h5; exact ni _ _ _ rfl
        exact ⟨q, C, dx, ws, rfl, h0, h3, h4, by rw [upd_ne n]; exact h5, h6⟩
    | pas t =>
      cases q with
      | none => exact h2.elim
      | some v => trivial
  dist := R.dist
  one := R.one
theorem DL.put (L : DL c F σ env H p vs us) {ws : List (L2.Key × V)} {zs : List (L2.Key × U)} (r : repk c.W F ws zs) : DL c F σ env (upd H p (.dK ws)) p ws zs :=
  ⟨L.R.putTrack L.fp L.hp L.at_ (fun _ z => nomatch z) (fun _ _ _ z => nomatch z) L.ns (.inr (.inl ⟨_, rfl⟩)) L.fpx, L.fp, L.hp, upd_same, r, L.ns,
    L.R.fpNext' L.fpx rfl rfl (fun i t e => ⟨e, rfl⟩) (Same.refl F) (fun b u e _ _ k => by
      by_cases z : b = p
      · subst z; rw [L.at_] at e; cases e; exact absurd (List.mem_singleton.mpr rfl) (k (.inr (.inl ⟨_, rfl⟩)))
      · rw [upd_ne z]; exact e) (fun _ _ z => .inl z) (fun j xs b e f => .inr (.inl ⟨j, xs, e, f⟩)) fun b z => .inl z⟩
theorem Rel.allocD (R : Rel c F σ env H) (hp : H p = none) : DL c F σ env (upd H p (.dK [])) p [] [] :=
  have fp : F p = none := by
    cases q : F p with
    | none => rfl
    | some o => rw [R.pool.sub _ _ q] at hp; cases hp
  ⟨R.more hp, fp, R.freshH0 hp, upd_same, .nil, R.pool.neStore hp, R.fpNext' R.fp rfl rfl (fun i t e => ⟨e, rfl⟩) (Same.refl F) (fun b o e _ _ _ => by rw [upd_ne (ne_of_none e hp)]; exact e) (fun _ _ z => .inl z) (fun j xs b ej sj => .inr (.inl ⟨j, xs, ej, sj⟩)) fun b z => .inr (by rw [List.mem_singleton] at z; rw [z]; exact hp)⟩
theorem DL.freeze (L : DL c F σ env H p vs us) : Same F (upd F p (.dK vs)) ∧ Rel c (upd F p (.dK vs)) σ env H ∧ rep c.W (upd F p (.dK vs)) (.ref p) (.dct us) := by
  have sm : Same F (upd F p (.dK vs)) := fun b u z => by rw [upd_ne (ne_of_none z L.fp)]; exact z
  refine ⟨sm, ⟨⟨fun b u z => ?_, fun a cc z => ?_⟩, ⟨L.R.base.keep, L.R.base.pool.trans sm, fun b u z => ?_⟩, L.R.len, fun j s ej => ?_, L.R.dist, L.R.one,
    L.R.fpNext' L.fpx rfl rfl (fun i t e => ⟨e, rfl⟩) sm (fun _ _ e _ _ _ => e) (fun b u z => by
      by_cases hb : b = p
      · exact .inr (.inr (.inr (List.mem_singleton.mpr hb)))
      · rw [upd_ne hb] at z; exact .inl z) (fun j xs b ej sj => .inr (.inl ⟨j, xs, ej, sj⟩)) fun b z => by simp at z⟩, .dct upd_same (L.its.mono sm)⟩
  · by_cases hb : b = p
    · subst hb; rw [upd_same] at z; cases z; exact L.at_
    · rw [upd_ne hb] at z; exact L.R.pool.sub b u z
  · obtain ⟨k1, ⟨ns, k2⟩, k3⟩ := L.R.pool.sto a cc z
    exact ⟨by rw [upd_ne (L.ns a cc z).symm]; exact k1, ⟨ns, sm _ _ k2⟩, k3⟩
  · by_cases hb : b = p
    · right; rw [hb]; exact L.hp
    · rw [upd_ne hb] at z; exact L.R.base.new b u z
  · obtain ⟨q, k1, k2⟩ := L.R.slot j s ej
    refine ⟨q, k1, ?_⟩
    cases s with
    | no => cases q <;> trivial
    | val u => cases q with
      | none => exact k2.elim
      | some w => exact rep.mono sm k2
    | own ys =>
      cases q with
      | none => exact k2.elim
      | some w =>
        obtain ⟨p', vs', rfl, g3, g4, g5, g6, g7⟩ := k2
        have ne : p' ≠ p := ne_of g5 L.at_ (by intro z; cases z)
        exact ⟨p', vs', rfl, by rw [upd_ne ne]; exact g3, g4, g5, g6.mono sm, g7⟩
    | mk cn fs =>
      cases q with
      | none => exact k2.elim
      | some w =>
        obtain ⟨p', C, dx, fvs, rfl, g0, g3, g4, g5, g6, g7⟩ := k2
        have ne : p' ≠ p := ne_of g5 L.at_ (by intro z; cases z)
        exact ⟨p', C, dx, fvs, rfl, g0, by rw [upd_ne ne]; exact g3, g4, g5, g6.mono sm, g7⟩
    | pas t =>
      cases q with
      | none => exact k2.elim
      | some w => trivial
end
/-- a dict comprehension over a walk -/
theorem dc_it {J : It} {n : Nat} {G : Hp → Prop} {Y : Nat → Hp → V → Hp → Prop} (w : Walk J n G Y) {g : TG} {tt : TT} {tk tv : TE} {vs : List Nat} {σ : L2.St} {H1 : Hp} {D : Addr} {Qd : Hp → Prop} (Pv : Nat → Hp → Prop) (h0 : Pv 0 (upd H1 D (.dK []))) (hG : ∀ i H, i ≤ n → Pv i H → G H)
    (hs : ∀ i x H H', i < n → Pv i H → Y i H x H' → g x (wipe σ vs) H' fun σ2 H2 => wipe σ2 vs = wipe σ vs ∧ tt σ2 H2 fun b H3 =>
      if b = true then tk σ2 H3 fun y H4 => tv σ2 H4 fun z H5 => ∃ kvs k, y = kV k ∧ H5 D = some (.dK kvs) ∧ kvs.length < sizeLine ∧ Pv (i + 1) (upd H5 D (.dK (putK kvs k z))) else Pv (i + 1) H3) (hd : ∀ H, Pv n H → Qd H) :
    ∃ W : Nat → Nat → Hp → Prop, (∃ m, W 0 m (upd H1 D (.dK []))) ∧ ∀ i m H, W i m H →
      (J.stop i H ∧ Qd H) ∨ (J.go i H ∧ ∃ Nx : Hp → Prop, (∀ H', Nx H' → ∃ m', m' < m ∧ W (i + 1) m' H') ∧ ∀ x H', J.yld i H x H' → g x (wipe σ vs) H' fun σ2 H2 => wipe σ2 vs = wipe σ vs ∧ tt σ2 H2 fun b H3 =>
        if b = true then tk σ2 H3 fun y H4 => tv σ2 H4 fun z H5 => ∃ kvs k, y = kV k ∧ H5 D = some (.dK kvs) ∧ kvs.length < sizeLine ∧ Nx (upd H5 D (.dK (putK kvs k z))) else Nx H3) := by
  refine ⟨fun i m H => m = n - i ∧ i ≤ n ∧ Pv i H, ⟨n, by simp, Nat.zero_le _, h0⟩, ?_⟩
  rintro i m H ⟨rfl, hi, p⟩
  have q := hG i H hi p
  by_cases hlt : i < n
  · refine .inr ⟨w.goes i H hlt q, Pv (i + 1), fun H' p' => ⟨n - (i + 1), by omega, rfl, hlt, p'⟩, fun x H' y => hs i x H H' hlt p (w.yields i H x H' hlt q y)⟩
  · have e : i = n := by omega
    subst e
    exact .inl ⟨w.stops H q, hd H p⟩
section
variable {X : Cx} {c : Uc}
theorem tm_dc {σ : List (Option V)} {H : Hp} {Q : VK} {mi : UI} {g : UG} {mt : UT} {mk mv : UM} {vs is : List Nat} (hv : ∀ j ∈ is, j ∈ vs) (h : tm c (uDc mi g mt mk mv vs) σ H Q) : tDc (tI c mi) (tg c.nox is g) (tt c.nox mt) (tm c.nox mk) (tm c.nox mv) vs σ H Q := by
  obtain ⟨F, env, ex, k, R, hm, hw, hk⟩ := h
  refine ⟨F, env, ex, _, R, hm, hw, fun F1 H1 env1 us J s1 R1 wk ⟨hl, h1⟩ D hD => ?_⟩
  obtain ⟨G, Y, w, hG, hY⟩ := wk
  have hD0 : H D = none := s1.liv D hD
  refine dc_it w (fun i H' => ∃ F2 ws acc, Stp c σ F env H F2 env1 H' ∧ Same F1 F2 ∧ DL c F2 σ env1 H' D ws acc ∧ acc.length ≤ i ∧ dcRun (dcTurn g mt mk mv (wipeE env1 vs)) (us.drop i) acc fun ks => k (.val (.dct ks)) env1)
    ⟨F1, [], [], s1.new1 hD, Same.refl F1, R1.allocD hD, Nat.zero_le _, h1⟩ (fun i H' _ ⟨F2, ws, acc, s2, sm, L, _⟩ => hG F2 H' sm L.R.pool.sub) ?_ ?_
  · rintro i x H2 H3 hi ⟨F2, ws, acc, s2, sm, L, la, lr⟩ y
    obtain ⟨F3, u, x3, eu, ru⟩ := hY F2 i H2 x H3 sm L.R.pool hi y
    have L3 : DL c F3 σ env1 H3 D ws acc := L.step ((Stp.refl L.R.pool).ext x3) (L.R.ext x3)
    have s3 : Stp c σ F env H F3 env1 H3 := s2.ext x3
    have m3 := sm.trans x3.same
    rw [drop_get eu] at lr
    refine ⟨F3, wipeE env1 vs, u, _, (L3.R.wipe vs).nox, ru, lr, fun σ4 env4 R4 ag k4 => ⟨by rw [ag.wipe hv, wipe_wipe], F3, env4, exF, _, R4, k4, wantsF, fun F5 H5 env5 b s5 R5 ⟨e5, h5⟩ => ?_⟩⟩
    subst e5
    cases b with
    | false =>
      rw [if_neg Bool.false_ne_true] at h5 ⊢
      obtain ⟨Rb, Sb⟩ := L3.R.back hv ag s5.unnox R5.unnox
      exact ⟨F5, ws, acc, s3.trans Sb, m3.trans Sb.same, L3.step Sb Rb, Nat.le_succ_of_le la, h5⟩
    | true =>
      rw [if_pos rfl] at h5 ⊢
      refine ⟨F5, env5, exF, _, R5, h5, wantsF, fun F6 H6 env6 v y s6 R6 o6 ⟨e6, h6⟩ => ⟨F6, env5, exF, _, e6 ▸ R6, h6, wantsF, fun F7 H7 env7 v7 y7 s7 R7 o7 ⟨e7, h7⟩ => ?_⟩⟩
      subst e6
      subst e7
      obtain ⟨Rb, Sb⟩ := L3.R.back hv ag ((s5.trans s6).trans s7).unnox R7.unnox
      have L6 := L3.step Sb Rb
      match y, y7, o6, o7, h7 with
      | .val ku, .val vu, o6, o7, ⟨key, ek, h7⟩ =>
        have o6 : rep c.W F6 v ku := o6
        have o7 : rep c.W F7 v7 vu := o7
        refine ⟨ws, key, keyU_of o6 ek, L6.at_, ?_, F7, _, _, (s3.trans Sb).put hD0 L6.fp L6.ns, m3.trans Sb.same, L6.put (L6.its.put (k := key) o7), Nat.le_trans (putD_length _ _ _) (Nat.succ_le_succ la), h7⟩
        rw [L6.its.length]
        exact Nat.lt_of_le_of_lt la (Nat.lt_of_lt_of_le hi (Nat.le_trans hl (by decide)))
  · rintro H' ⟨F2, ws, acc, s2, sm, L, la, lr⟩
    rw [List.drop_length] at lr
    obtain ⟨s3, R3, r3⟩ := L.freeze
    exact hk _ H' env1 (.ref D) (.val (.dct acc)) (s2.pool hD0 s3 (fun b o z => by by_cases e : b = D; exact .inr e; rw [upd_ne e] at z; exact .inl z) R3.pool) R3 r3 lr
theorem ue_dc {kx vx tgt iter : Expr} {ifs : List Expr} {scope : Scope} {own : List (Str × Nat)} {pos : Pos} {mi : UI} {g : UG} {mt : UT} {mk mv : UM} {is : List Nat} (ft : Fit c X) (hN : X.N.Nodup) (hi : PI X tgt iter (tI c mi)) (ok : BlkOk X.N X.env.scope scope own)
    (hg : ∀ (s : Shared) (H : Hp) (C : Addr) (cl : List (Str × Addr)) (fp : List Addr), Fit c.nox (X.blk s H scope (compEnvC scope cl C X.env) fp) → PG (X.blk s H scope (compEnvC scope cl C X.env) fp) tgt (tg c.nox is g))
    (ht : ∀ (s : Shared) (H : Hp) (C : Addr) (cl : List (Str × Addr)) (fp : List Addr), Fit c.nox (X.blk s H scope (compEnvC scope cl C X.env) fp) → PTs (X.blk s H scope (compEnvC scope cl C X.env) fp) ifs (tt c.nox mt))
    (hk : ∀ (s : Shared) (H : Hp) (C : Addr) (cl : List (Str × Addr)) (fp : List Addr), Fit c.nox (X.blk s H scope (compEnvC scope cl C X.env) fp) → PE (X.blk s H scope (compEnvC scope cl C X.env) fp) kx (tm c.nox mk))
    (he : ∀ (s : Shared) (H : Hp) (C : Addr) (cl : List (Str × Addr)) (fp : List Addr), Fit c.nox (X.blk s H scope (compEnvC scope cl C X.env) fp) → PE (X.blk s H scope (compEnvC scope cl C X.env) fp) vx (tm c.nox mv))
    (hv : ∀ j ∈ is, j ∈ own.map (·.2)) (hs : ∀ x, foldedSetIterable iter X.env x = pure x := by intro _; rfl) (hc : X.calm = true := by rfl) :
    PE X (.DictComp kx vx [⟨tgt, iter, ifs, 0⟩] scope pos) (tm c (uDc mi g mt mk mv (own.map (·.2)))) :=
  have ft' : ∀ (s : Shared) (H : Hp) (C : Addr) (cl : List (Str × Addr)) (fp : List Addr), Fit c.nox (X.blk s H scope (compEnvC scope cl C X.env) fp) := fun s H C cl fp => ⟨ft.K, ft.mg, ft.cool, ft.dn, takes0⟩
  PE.imp (pe_dc hc hN hi ok (fun s H C cl fp => hg s H C cl fp (ft' s H C cl fp)) (fun s H C cl fp => ht s H C cl fp (ft' s H C cl fp)) (fun s H C cl fp => hk s H C cl fp (ft' s H C cl fp)) (fun s H C cl fp => he s H C cl fp (ft' s H C cl fp)) hs) fun σ H Q h => tm_dc hv h
end
end UL

namespace UL
open PySem PySem.Spec PyProof.Rows L2 ItX
/-! ### x in o, o of a class of one's own -/
def rInOwn (C : Addr) (sp : Sp) (neg : Bool) : R2 := fun x y H Q => ∃ a dx fs, y = .ref a ∧ H a = some (.ins C dx fs) ∧ sp [.ref a, x] H (fun v H' => ∃ b, v = .bl b ∧ Q (.bl (if neg then !b else b)) H') E0
section
variable {X : Cx} {k : Nat} {f C : Addr} {fd : FuncData} {ps : List Str} {sp : Sp}
theorem own_in {pins : List (Addr × Obj)} {s : Shared} {σ : L2.St} {H : Hp} {a dx : Addr} {fs : List (Str × V)} {x : V} {v : Value} {K : Bool → Hp → Prop} (hc : PySem.W.findIn X.K (.ref C) "__contains__" = some (some (.ref f))) (hf : PySem.W.isFn X.K (.ref f) = true)
    (G : FnOk X.prog X.w X.K X.mg X.base (L2.CX X.prog X.w) k f fd ps sp) (hr : Room k X.A) (hb : Binds X.K fd ps []) (I : Inv X pins σ H s) (ha : H a = some (.ins C dx fs)) (rx : RelV x v)
    (h : sp [.ref a, x] H (fun v H' => ∃ b, v = .bl b ∧ K b H') E0) : wpAny (model X.prog X.w) X.A (call (.ref f) [.ref a, v]) (fun r s' => wpAny (model X.prog X.w) X.A (truthy r) (fun b s2 => ∃ H', Inv X pins σ H' s2 ∧ K b H') X.xe s') X.xe s := by
  refine thn (run_fnS (E := fun _ => E0) (us := [.ref a, v]) (vs := [.ref a, x]) G hr hb (fun pins H s e s' I c => passL pins σ H s e s' I c) I (.cons rfl (.cons rx .nil)) h) fun r s' ⟨z, H', I', rz, b, ez, hk⟩ => ?_
  subst ez
  cases rz
  exact wpAny_truthy_bool ⟨H', I', hk⟩
theorem op_inOwn (hc : PySem.W.findIn X.K (.ref C) "__contains__" = some (some (.ref f))) (hf : PySem.W.isFn X.K (.ref f) = true) (G : FnOk X.prog X.w X.K X.mg X.base (L2.CX X.prog X.w) k f fd ps sp) (hr : Room k X.A) (hb : Binds X.K fd ps []) : OpR X (compareOp .In) (rInOwn C sp false) := by
  intro pins s σ H x y v u Q I rx ry h
  obtain ⟨a, dx, fs, rfl, ha, h⟩ := h
  cases ry
  obtain ⟨mA, J, _⟩ := ins_get I.hok ha
  obtain ⟨od, J, _⟩ := J.look
  obtain ⟨m, hF⟩ := I.fr
  refine PySem.W.in_K hF I.ok.mod.kin J hc hf (thn (own_in (K := fun b H' => Q (.bl b) H') hc hf G hr hb I ha rx h) fun r s' h' => thn h' fun b s2 ⟨H', I', q⟩ => ?_)
  exact ⟨.bl b, H', I', rfl, q⟩
theorem op_notInOwn (hc : PySem.W.findIn X.K (.ref C) "__contains__" = some (some (.ref f))) (hf : PySem.W.isFn X.K (.ref f) = true) (G : FnOk X.prog X.w X.K X.mg X.base (L2.CX X.prog X.w) k f fd ps sp) (hr : Room k X.A) (hb : Binds X.K fd ps []) : OpR X (compareOp .NotIn) (rInOwn C sp true) := by
  intro pins s σ H x y v u Q I rx ry h
  obtain ⟨a, dx, fs, rfl, ha, h⟩ := h
  cases ry
  obtain ⟨mA, J, _⟩ := ins_get I.hok ha
  obtain ⟨od, J, _⟩ := J.look
  obtain ⟨m, hF⟩ := I.fr
  refine PySem.W.notIn_K hF I.ok.mod.kin J hc hf (thn (own_in (K := fun b H' => Q (.bl (!b)) H') hc hf G hr hb I ha rx h) fun r s' h' => thn h' fun b s2 ⟨H', I', q⟩ => ?_)
  exact ⟨.bl (!b), H', I', rfl, q⟩
end
def gInOwn (cn : Str) (spec : Spec) (neg : Bool) : G2 := fun u w κ => flatU u = true ∧ gIns cn (fun _ => spec [w, u] (fun _ _ => False) fun r => match r with
  | .bl b => κ (.bl (if neg then !b else b))
  | _ => False) w
theorem snd_inOwn {P : Program} {w : World} {W : Wd} {cn : Str} {C : Addr} {fr : Bool} {spec : Spec} (neg : Bool) (hh : W.hot = none) (hn : W.dn = DN P w) (hg : W.mg cn = some (.ref C)) : Snd2 W (rInOwn C (Pr P w W.K W.mg fr spec) neg) (gInOwn cn spec neg) := fun F H x u y w κ Q P hx hy ⟨hf, h⟩ hk => by
  obtain ⟨wK, wmg, wst, whot, wdn⟩ := W
  obtain rfl : whot = none := hh
  obtain rfl := (hn : wdn = _)
  obtain ⟨fs, rfl, h⟩ := gIns_elim h
  have rx := hx.flat hf
  cases hy with
  | pool ry =>
    have ry' := ry
    cases ry with
    | ins hg' hp rs =>
      rw [hg] at hg'
      cases hg'
      refine ⟨_, _, _, rfl, P.sub _ _ hp, wst, F, _, _, _, P, .cons ry' (.cons rx .nil), h, fun _ _ _ _ _ _ _ _ _ _ _ h => h.elim, fun F' H' v z x' r' q' h' => ?_⟩
      split at h'
      · rename_i b
        cases r'
        exact ⟨b, rfl, hk F' H' _ _ x' (.bl _) h'⟩
      · exact h'.elim
/-! ### walking over an instance whose __iter__ gives the iterator of a list of its own -/
structure FnIt (P : Program) (w : World) (K : PySem.W.Frag) (mg : Str → Option Value) (base : Heap) (C : Addr) (nm : Str) (k : Nat) (f : Addr) (fd : FuncData) : Prop where
  run : ∀ (A : Around) (outer : List Env) (s : Shared) (H : Hp) (args : Args) (a dx l : Addr) (fs : List (Str × V)) (zs : List V) (Q : VK), Room k A → Env0 P w K mg base A outer s H → BindsTo s fd args [("self", .ref a)] →
    H a = some (.ins C dx fs) → fs.lookup nm = some (.ref l) → H l = some (.lst zs) → (∀ it, H it = none → s.heap.objs.size ≤ it → Q (.ref it) (upd H it (ItO l it 0))) →
    codeAny (model P w) A (.call (.ref f) args) (CR (L2.CX P w) outer P w H s Q E0) s
theorem fn_iter {P : Program} {w : World} {K : PySem.W.Frag} {mg : Str → Option Value} {base : Heap} {x qual : Str} {st : Stmt} {f C : Addr} {fd : FuncData} {nm : Str} {p1 p2 p3 p4 p5 : Pos} (Fd : Fun K x qual st f fd) (S : FnScope ["self"] ["self"] (defScope st)) (hc : Cls K C) (na : NoAttr K C nm) (mi : mg "iter" = none)
    (hb : defBody st = [.Return (some (.Call (.Name "iter" p1) [.Attribute (.Name "self" p2) nm p3] [] p4)) p5]) (hgl : ∀ (s : Shared) (cdv : Value), (envOfC qual (defScope st) s.heap.objs.size f cdv).kindOf "iter" = some .globalImplicit) (hv : Vis (defScope st) "self") :
    FnIt P w K mg base C nm 1 f fd := by
  obtain ⟨oc, od, kV, doc, pm, an, cdv, ct, osl, rfl, lk, hcd⟩ := Fd.ex
  refine ⟨fun A outer s H args a dx l fs zs Q hr e0 hbd ha hl hz hq => ?_⟩
  have KX : K.In s.heap := e0.mod.kin.keeps fun b o e => (e0.bs b o e).1
  have lim : s.heap.NoLimit := e0.mod.nolimit.keeps fun b o e => (e0.bs b o e).1
  have hkind : ∀ y ∈ [(("self" : Str), Value.ref a)], (defScope st).names.lookup y.1 = some .local ∨ ((defScope st).names.lookup y.1 = some .cell ∧ ((cellsFrom (s.heap.objs.size + 1) (defScope st).names []).lookup y.1).isSome = true) := fun ⟨n, v⟩ hy => by
    have hn : n = "self" := by have := List.mem_singleton.mp hy; cases this; rfl
    subst hn
    rcases S.par "self" (List.mem_singleton.mpr rfl) with q | q
    · exact .inl q
    · exact .inr ⟨q, PySem.W.cellsFrom_some _ _ _ (.inl q)⟩
  refine codeAny_call_function hr.depth (KX _ _ lk) rfl S.co S.gen rfl (PySem.W.codeRec_of KX hcd) (hbd _ _ _ _ ?_)
  refine wpAny_newFunctionEnv_cells S.kind hkind fun env he s1 x => ?_
  subst he
  refine ⟨lim.keeps x.toInCall.keep, codeAny_func ?_⟩
  have I : Inv (cxOf (L2.CX P w) P w K mg base ["self"] qual (defScope st) f cdv A outer s H E0) [] (L2.start ["self"] [.ref a]) H s1 := inv_start (ps := ["self"]) (us := [.ref a]) (vs := [.ref a]) S hr.hd e0 rfl (.cons rfl .nil) x
  have X0 : ∀ (Y : Cx), Y = (cxOf (L2.CX P w) P w K mg base ["self"] qual (defScope st) f cdv A outer s H E0) → PSs Y (defBody st) (tRet (tCB (rIterN Y.K Y.s_0.heap.objs.size) (tCons (tFld Y.K (tVar 0) nm) tNil))) := fun Y hY => by
    subst hY
    rw [hb]
    refine pss_one (ps_ret (pe_callB call_iterN (hgl s cdv) mi (by decide +kernel) (pa_cons (pe_fld (pe_var (i := 0) rfl hv) rfl) pa_nil)))
  refine wpAny_mono ((X0 _ rfl).run [] s1 (L2.start ["self"] [.ref a]) H { nx := fun _ H' => Q .non H', rt := Q } I ?_) (fun fl s' hs => ?_) fun e s' hs => hs
  · exact ⟨.ref a, rfl, a, C, dx, fs, .ref l, rfl, ha, hc, na, hl, l, zs, rfl, .inl (.inl hz), fun it hn hle => hq it hn hle⟩
  have fin : ∀ {σ' : L2.St} {H' : Hp} {v : V} {u : Value}, Inv (cxOf (L2.CX P w) P w K mg base ["self"] qual (defScope st) f cdv A outer s H E0) [] σ' H' s' → RelV v u → Q v H' → CE outer P w H s Q u s' :=
    fun {σ' H' v u} J rv q => ⟨v, H', J.os, J.bare, J.base, J.hok, rv, q⟩
  cases fl with
  | ret u =>
    obtain ⟨v, σ', H', J, rv, q⟩ := hs
    exact fin J rv q
  | next =>
    obtain ⟨σ', H', J, q⟩ := hs
    exact fin (v := V.non) (u := Value.none) J rfl q
  | brk =>
    obtain ⟨_, _, _, q⟩ := hs
    exact False.elim q
  | cont =>
    obtain ⟨_, _, _, q⟩ := hs
    exact False.elim q
/-- a class whose instances are walked so -/
structure OwnIt (P : Program) (w : World) (K : PySem.W.Frag) (mg : Str → Option Value) (base : Heap) (C : Addr) (nm : Str) (k : Nat) (f : Addr) (fd : FuncData) : Prop where
  it : PySem.W.findIn K (.ref C) "__iter__" = some (some (.ref f))
  itF : PySem.W.isFn K (.ref f) = true
  F : FnIt P w K mg base C nm k f fd
  b : Binds K fd ["self"] []
  nolen : PySem.W.findIn K (.ref C) "__len__" = some none
  nohint : PySem.W.findIn K (.ref C) "__length_hint__" = some none
def iOwn (C : Addr) (nm : Str) (K : PySem.W.Frag) (te : TE) : TI := fun σ H R => te σ H fun x H1 => ∃ a dx fs l zs, x = .ref a ∧ H1 a = some (.ins C dx fs) ∧ fs.lookup nm = some (.ref l) ∧ H1 l = some (.lst zs) ∧ R (ItlF K l 0) H1
section
variable {X : Cx} {tg e : Expr} {te : TE} {k : Nat} {f C : Addr} {fd : FuncData} {nm : Str}
theorem pi_own (he : PE X e te) (T : OwnIt X.prog X.w X.K X.mg X.base C nm k f fd) (hr : Room k X.A) : PI X tg e (iOwn C nm X.K te) := by
  refine ⟨fun pins s σ H R I h => ?_⟩
  refine thn (he.run pins s σ H _ I h) fun u s1 ⟨x, H1, I1, r1, a, dx, fs, l, zs, ex, ha, hl, hz, q⟩ => ?_
  subst ex
  obtain rfl : u = Value.ref a := r1
  obtain ⟨mA, J, _⟩ := ins_get I1.hok ha
  obtain ⟨od, J, _⟩ := J.look
  obtain ⟨m, hF⟩ := I1.fr
  refine PySem.W.owit_iter hF I1.ok.mod.kin J T.it T.itF ?_
  have b := T.b s1 [.ref a] I1.kIn rfl
  refine wpAny_call (codeAny_mono (T.F.run X.A X.stack s1 H1 ⟨[.ref a], []⟩ a dx l fs zs (fun v H' => ∃ it, v = .ref it ∧ H1 it = none ∧ s1.heap.objs.size ≤ it ∧ H' = upd H1 it (ItO l it 0)) hr I1.env0 b ha hl hz fun it h1 h2 => ⟨it, rfl, h1, h2, rfl⟩) fun r s' hq => ?_)
  cases r with
  | error er => exact passL pins σ H1 s1 er s' I1 hq
  | ok fl =>
    cases fl with
    | ret u =>
      obtain ⟨v, H', I2, rv, it, rfl, h0, hle, rfl⟩ := I1.after hq
      cases rv
      have hi : upd H1 it (ItO l it 0) it = some (ItO l it 0) := upd_same
      have eo := itO_get I2 hi
      have st : s'.heap.IsListIter it l (0 + 0) := ⟨_, eo, rfl, rfl⟩
      have hT : s'.TypeIs (.ref it) "list_iterator" := ⟨_, eo, rfl⟩
      refine wpAny_specialOf (name := Str.ofString "__next__") hT slot_listiter_next.lookup ?_
      have hi' := hi
      unfold ItO at hi'
      have I3 := inv_drop I2 hi'
      rw [dropH_upd h0] at I3
      refine ⟨it, [it], _, _, H1, rfl, I3, turn_listF l it 0, st, fun b hb => ?_, q⟩
      have e : b = it := by simpa using hb
      rw [e]
      have := inv_fp I2 hi (Nat.le_trans I1.sz hle)
      rw [dropH_upd h0] at this
      exact this
    | next => exact False.elim hq
    | brk => exact False.elim hq
    | cont => exact False.elim hq
end
def iOwnU (cn nm : Str) (m : UM) : UI := fun ex env k => m ex env fun y env1 => match y with
  | .val u => gIns cn (fun fs => ∃ us, fs.lookup nm = some (.lst us) ∧ k us env1) u
  | _ => False
section
variable {X : Cx} {c : Uc} {tgt e : Expr} {m : UM} {k : Nat} {f C : Addr} {fd : FuncData} {cn nm : Str}
theorem walkU_listF {F : Hp} {p : Addr} {vs : List V} {us : List U} {K : PySem.W.Frag} (hp : F p = some (.lst vs)) (r : reps c.W F vs us) : WalkU c F (ItlF K p 0) us := by
  obtain ⟨G, Y, w, h1, h2⟩ := walkU_list (c := c) (K := K) hp r
  refine ⟨G, Y, ⟨fun i H hi g => ?_, fun H g => ?_, fun i H x H' hi g y => ?_⟩, h1, h2⟩
  · have := w.goes i H hi g
    show (Itl K p).go (0 + i) H
    rw [Nat.zero_add]; exact this
  · have := w.stops H g
    show (Itl K p).stop (0 + _) H
    rw [Nat.zero_add]; exact this
  · have y' : (Itl K p).yld (0 + i) H x H' := y
    rw [Nat.zero_add] at y'
    exact w.yields i H x H' hi g y'
theorem ui_own (ft : Fit c X) (cl : Cl X.K X.mg cn C) (T : OwnIt X.prog X.w X.K X.mg X.base C nm k f fd) (hr : Room k X.A) (h : PE X e (tm c m)) : PI X tgt e (tI c (iOwnU cn nm m)) := PI.imp (pi_own h T hr) fun σ H Q ⟨F, env, ex, k, R, hm, hw, hk⟩ => by
  refine ⟨F, env, ex, _, R, hm, hw, fun F1 H1 env1 v y s1 R1 o1 h1 => ?_⟩
  match y, o1, h1 with
  | .val u, o1, h1 =>
    obtain ⟨fs, rfl, us, hl, h1⟩ := gIns_elim h1
    cases o1 with
    | ins hg hp rs =>
      rw [ft.mg, cl.g] at hg
      cases hg
      obtain ⟨w, hl', rw'⟩ := rs.lookup hl
      cases rw' with
      | lst hq r => exact ⟨_, _, _, _, _, rfl, R1.pool.sub _ _ hp, hl', R1.pool.sub _ _ hq, hk F1 H1 env1 us _ s1 R1 (walkU_listF hq r) h1⟩
end
/-! ### sorted of texts -/
def nSortS : LN := fun us κ => match us with
  | [.lst xs] => ∃ zs, xs = txs zs ∧ zs.length < 64 ∧ ∀ ys : List Str, ys.Perm zs → sortedS ys = true → κ (txs ys)
  | _ => False
theorem snd_sortS {W : Wd} : SndNF W (rSortedS W.K) nSortS := fun F H vs us κ Q P hv hg hk => by
  unfold nSortS at hg
  split at hg
  · obtain ⟨zs, rfl, hl, hg⟩ := hg
    obtain ⟨v, rfl, h⟩ := hv.one
    obtain ⟨p, vs, rfl, h1, h2⟩ := h.list P.sub
    have := txs_of h2
    subst this
    exact ⟨p, zs, rfl, .inl (.inl h1), hl, fun ys q pm so hq => hk q _ _ hq of_txs (hg ys pm so)⟩
  · exact hg.elim
theorem k_sortS {X : Cx} {c : Uc} (ft : Fit c X) : CallR X (.builtin "sorted") (rSortedS c.W.K) := ft.K.symm ▸ cr_sortedS
/-! ### isinstance of data -/
def tyU : U → Option String
  | .non => some "NoneType"
  | .bl _ => some "bool"
  | .int _ => some "int"
  | .str _ => some "str"
  | .lst _ => some "list"
  | .tup _ => some "tuple"
  | .dct _ => some "dict"
  | _ => none
theorem tyX_of {W : Wd} {F H : Hp} {v : V} {u : U} {t : String} (P : Same F H) (h : View W F H v u) (e : tyU u = some t) : TyX W.K H v (.type t) := by
  cases h with
  | own h _ _ => cases e; exact .base (.lst h)
  | pool r =>
    cases r with
    | non => cases e; exact .base .non
    | bl => cases e; exact .base (.bl _)
    | int => cases e; exact .base (.int _)
    | str => cases e; exact .base (.str _)
    | lst h _ => cases e; exact .base (.lst (P _ _ h))
    | tup h _ =>
      cases e
      rcases h with (h | ⟨o, h⟩) | ⟨o, its, n, h1, h2, _⟩
      · exact .base (.tup (P _ _ h))
      · exact .fTuple (P _ _ h)
      · exact .kTuple h1 h2
    | dct h _ => cases e; exact .base (.dK (P _ _ h))
    | _ => cases e
def nIsi : GN := fun us κ => match us with
  | [u, .ty n] => ∃ t b, tyU u = some t ∧ kitB t n = some b ∧ κ (.bl b)
  | _ => False
theorem snd_isi {W : Wd} : SndN W (rIsi W.K) nIsi := fun F H vs us κ Q P hv hg hk => by
  unfold nIsi at hg
  split at hg
  · rename_i u n
    obtain ⟨t, b, h1, h2, hg⟩ := hg
    obtain ⟨v, x, rfl, h, h'⟩ := hv.two
    cases h' with
    | pool r => cases r; exact ⟨v, .ty n, _, _, b, rfl, .ty n, tyX_of P.sub h h1, kit_ty h2, hk F H _ _ (Ext.refl P) (.bl _) hg⟩
  · exact hg.elim
theorem k_isi' {X : Cx} {c : Uc} (ft : Fit c X) : CallR X (.builtin "isinstance") (rIsi c.W.K) := ft.K.symm ▸ call_isi
theorem ue_ty {X : Cx} {c : Uc} {x : Str} {pos : Pos} {n : String} (hg : Gl X x) (hm : X.mg x = none) (hv : bootBuiltins x = some (.type n)) (hn : x ≠ "__name__" := by decide) (hd : (x == ("__debug__" : Str)) = false := by decide) : PE X (.Name x pos) (tm c (uC (.ty n))) := ue_c (pe_bltn (v := .ty n) hg hm hv rfl hn hd) fun _ _ => .ty n
end UL

namespace UL
open PySem PySem.Spec PyProof.Rows L2
/-! ### comprehensions with two clauses -/
theorem walk_it {J : It} {n : Nat} {G : Hp → Prop} {Y : Nat → Hp → V → Hp → Prop} (w : Walk J n G Y) {body : (Hp → Prop) → V → Hp → Prop} {H0 : Hp} {Qd : Hp → Prop} (Pv : Nat → Hp → Prop) (h0 : Pv 0 H0) (hG : ∀ i H, i ≤ n → Pv i H → G H)
    (hs : ∀ i x H H', i < n → Pv i H → Y i H x H' → body (Pv (i + 1)) x H') (hd : ∀ H, Pv n H → Qd H) :
    ∃ W : Nat → Nat → Hp → Prop, (∃ m, W 0 m H0) ∧ ∀ i m H, W i m H → (J.stop i H ∧ Qd H) ∨ (J.go i H ∧ ∃ Nx : Hp → Prop, (∀ H', Nx H' → ∃ m', m' < m ∧ W (i + 1) m' H') ∧ ∀ x H', J.yld i H x H' → body Nx x H') := by
  refine ⟨fun i m H => m = n - i ∧ i ≤ n ∧ Pv i H, ⟨n, by simp, Nat.zero_le _, h0⟩, ?_⟩
  rintro i m H ⟨rfl, hi, p⟩
  have q := hG i H hi p
  by_cases hlt : i < n
  · refine .inr ⟨w.goes i H hlt q, Pv (i + 1), fun H' p' => ⟨n - (i + 1), by omega, rfl, hlt, p'⟩, fun x H' y => hs i x H H' hlt p (w.yields i H x H' hlt q y)⟩
  · have e : i = n := by omega
    subst e
    exact .inl ⟨w.stops H q, hd H p⟩
theorem FL.inner {c : Uc} {F H : Hp} {σ σ4 : List (Option V)} {env env4 : List Slot} {D : Addr} {ws : List V} {acc : List U} {vs is : List Nat} (L : FL c F σ env H D ws acc) (hv : ∀ j ∈ is, j ∈ vs) (a : Agr is (L2.wipe σ vs) σ4 (wipeE env vs) env4) (R4 : Rel c.nox F σ4 env4 H) : FL c.nox F σ4 env4 H D ws acc where
  R := R4
  fpx := L.fpx.step rfl (fun j t z => by
    by_cases hi : j ∈ is
    · exact absurd z (a.nop j t hi)
    · have e1 := a.slotE j hi
      rw [e1, wipeE_get] at z
      by_cases h : j ∈ vs
      · rw [if_pos h] at z; split at z <;> cases z
      · rw [if_neg h] at z
        exact ⟨z, by rw [a.slot j hi, wipe_get, if_neg h]⟩) (Same.refl F) (fun _ _ e _ => e) fun b o e _ fa na => ⟨e, ⟨fa.f, fa.h, fa.s, fun j xs z sj => by
    by_cases hi : j ∈ is
    · exact absurd z (a.no j xs hi)
    · have e1 := a.slotE j hi
      rw [e1, wipeE_get] at z
      by_cases h : j ∈ vs
      · rw [if_pos h] at z; split at z <;> cases z
      · rw [if_neg h] at z
        rw [a.slot j hi, wipe_get, if_neg h] at sj
        exact fa.o j xs z sj⟩, na⟩
  fp := L.fp
  hp := L.hp
  at_ := L.at_
  its := L.its
  ns := L.ns
  off := fun j ys z => by
    by_cases h : j ∈ vs
    · exfalso
      by_cases hi : j ∈ is
      · exact a.no j ys hi z
      · rw [a.slotE j hi, wipeE_get, if_pos h] at z
        split at z <;> cases z
    · have h' : j ∉ is := fun z => h (hv j z)
      rw [a.slotE j h', wipeE_get, if_neg h] at z
      rw [a.slot j h', wipe_get, if_neg h]
      exact L.off j ys z
def lcRun2 (turn : U → List U → (List U → Prop) → Prop) : List U → List U → (List U → Prop) → Prop
  | [], acc, k => k acc
  | u :: us, acc, k => turn u acc fun a => lcRun2 turn us a k
def lcTurn2 (g : UG) (mt : UT) (mi1 : UI) (turn1 : List Slot → U → (Option U → Prop) → Prop) (vs1 : List Nat) (env : List Slot) (u : U) (acc : List U) (κ : List U → Prop) : Prop :=
  g u env fun env2 => mt exF env2 fun b env3 => env3 = env2 ∧ if b = true then mi1 exF env2 fun us env4 => env4 = env2 ∧ acc.length + us.length ≤ 1000000 ∧ lcRun (turn1 (wipeE env2 vs1)) us acc κ else κ acc
def fLc2 (mi : UI) (g : UG) (mt : UT) (mi1 : UI) (g1 : UG) (mt1 : UT) (me : UM) (vs vs1 : List Nat) : UF := fun ex env k => mi ex env fun us env1 => lcRun2 (lcTurn2 g mt mi1 (lcTurn g1 mt1 me) vs1 (wipeE env1 vs)) us [] fun zs => k zs env1
section
variable {X : Cx} {c : Uc}
theorem tm_lc2 {σ : List (Option V)} {H : Hp} {Q : VK} {mi mi1 : UI} {g g1 : UG} {mt mt1 : UT} {me : UM} {vs is vs1 is1 : List Nat} (hv : ∀ j ∈ is, j ∈ vs) (hv1 : ∀ j ∈ is1, j ∈ vs1) (h : tf c (fLc2 mi g mt mi1 g1 mt1 me vs vs1) σ H Q) :
    tLc2 (tI c mi) (tg c.nox is g) (tt c.nox mt) (tI c.nox mi1) (tg c.nox is1 g1) (tt c.nox mt1) (tm c.nox me) vs vs1 σ H Q := by
  obtain ⟨F, env, ex, k, R, hm, hw, hk⟩ := h
  refine ⟨F, env, ex, _, R, hm, hw, fun F1 H1 env1 us J s1 R1 wk h1 D hD => ?_⟩
  obtain ⟨G, Y, w, hG, hY⟩ := wk
  have hD0 : H D = none := s1.liv D hD
  refine walk_it w (fun i H' => ∃ F2 ws acc, Stp c σ F env H F2 env1 H' ∧ Same F1 F2 ∧ FL c F2 σ env1 H' D ws acc ∧ lcRun2 (lcTurn2 g mt mi1 (lcTurn g1 mt1 me) vs1 (wipeE env1 vs)) (us.drop i) acc fun zs => k zs env1)
    ⟨F1, [], [], s1.new1 hD, Same.refl F1, R1.alloc hD .nil, h1⟩ (fun i H' _ ⟨F2, ws, acc, s2, sm, L, _⟩ => hG F2 H' sm L.R.pool.sub) ?_ ?_
  · rintro i x H2 H3 hi ⟨F2, ws, acc, s2, sm, L, lr⟩ y
    obtain ⟨F3, u, x3, eu, ru⟩ := hY F2 i H2 x H3 sm L.R.pool hi y
    have L3 : FL c F3 σ env1 H3 D ws acc := L.step ((Stp.refl L.R.pool).ext x3) (L.R.ext x3)
    have s3 : Stp c σ F env H F3 env1 H3 := s2.ext x3
    have m3 := sm.trans x3.same
    rw [drop_get eu] at lr
    refine ⟨F3, wipeE env1 vs, u, _, (L3.R.wipe vs).nox, ru, lr, fun σ4 env4 R4 ag k4 => ⟨by rw [ag.wipe hv, wipe_wipe], F3, env4, exF, _, R4, k4, wantsF, fun F5 H5 env5 b s5 R5 ⟨e5, h5⟩ => ?_⟩⟩
    subst e5
    cases b with
    | false =>
      rw [if_neg Bool.false_ne_true] at h5 ⊢
      obtain ⟨Rb, Sb⟩ := L3.R.back hv ag s5.unnox R5.unnox
      exact ⟨F5, ws, acc, s3.trans Sb, m3.trans Sb.same, L3.step Sb Rb, h5⟩
    | true =>
      rw [if_pos rfl] at h5 ⊢
      refine ⟨F5, env5, exF, _, R5, h5, wantsF, fun F6 H6 env6 us1 J1 s6 R6 wk1 ⟨e6, hl, h6⟩ => ?_⟩
      subst e6
      obtain ⟨G1, Y1, w1, hG1, hY1⟩ := wk1
      obtain ⟨Rb, Sb⟩ := L3.R.back hv ag (s5.trans s6).unnox R6.unnox
      have L6 := L3.step Sb Rb
      have s6' := s3.trans Sb
      have m6 := m3.trans Sb.same
      refine walk_it w1 (fun i1 H' => ∃ F7 ws' acc', Stp c σ F env H F7 env1 H' ∧ Same F1 F7 ∧ Same F6 F7 ∧ FL c F7 σ env1 H' D ws' acc' ∧ Rel c.nox F7 σ4 env6 H' ∧ acc'.length ≤ acc.length + i1 ∧ lcRun (lcTurn g1 mt1 me (wipeE env6 vs1)) (us1.drop i1) acc' fun a => lcRun2 (lcTurn2 g mt mi1 (lcTurn g1 mt1 me) vs1 (wipeE env1 vs)) (us.drop (i + 1)) a fun zs => k zs env1)
        ⟨F6, ws, acc, s6', m6, Same.refl F6, L6, R6, Nat.le_refl _, h6⟩ (fun i H' _ ⟨F7, ws', acc', _, _, sm', L, _⟩ => hG1 F7 H' sm' L.R.pool.sub) ?_ ?_
      · rintro i1 x1 H7 H8 hi1 ⟨F7, ws', acc', s7, m7, n7, L7, R7, la, lr1⟩ y1
        obtain ⟨F8, u1, x8, eu1, ru1⟩ := hY1 F7 i1 H7 x1 H8 n7 L7.R.pool hi1 y1
        have L8 : FL c F8 σ env1 H8 D ws' acc' := L7.step ((Stp.refl L7.R.pool).ext x8) (L7.R.ext x8)
        have R8 := R7.ext x8
        have s8 : Stp c σ F env H F8 env1 H8 := s7.ext x8
        have m8 := m7.trans x8.same
        have n8 := n7.trans x8.same
        rw [drop_get eu1] at lr1
        refine ⟨F8, wipeE env6 vs1, u1, _, R8.wipe vs1, ru1, lr1, fun σ9 env9 R9 ag9 k9 => ⟨by rw [ag9.wipe hv1, wipe_wipe], F8, env9, exF, _, R9, k9, wantsF, fun F10 H10 env10 b s10 R10 ⟨e10, h10⟩ => ?_⟩⟩
        subst e10
        cases b with
        | false =>
          rw [if_neg Bool.false_ne_true] at h10 ⊢
          obtain ⟨Ri, Si⟩ := R8.back hv1 ag9 s10 R10
          obtain ⟨Rb, Sb⟩ := L8.R.back hv ag Si.unnox Ri.unnox
          exact ⟨F10, ws', acc', s8.trans Sb, m8.trans Sb.same, n8.trans Sb.same, L8.step Sb Rb, Ri, Nat.le_succ_of_le la, by rw [Option.toList_none, List.append_nil] at h10; exact h10⟩
        | true =>
          rw [if_pos rfl] at h10 ⊢
          refine ⟨F10, env10, exF, _, R10, h10, wantsF, fun F11 H11 env11 v y s11 R11 o11 ⟨e11, h11⟩ => ?_⟩
          subst e11
          obtain ⟨Ri, Si⟩ := R8.back hv1 ag9 (s10.trans s11) R11
          obtain ⟨Rb, Sb⟩ := L8.R.back hv ag Si.unnox Ri.unnox
          have L11 := L8.step Sb Rb
          match y, o11, h11 with
          | .val z, o11, h11 =>
            have o11 : rep c.W F11 v z := o11
            have rs := L11.its.append (.cons o11 .nil)
            refine ⟨ws', L11.at_, ?_, F11, ws' ++ [v], acc' ++ [z], (s8.trans Sb).put hD0 L11.fp L11.ns, m8.trans Sb.same, n8.trans Sb.same, L11.put rs, ((L11.inner hv ag Ri).put rs).R, by rw [List.length_append]; exact Nat.succ_le_succ la, h11⟩
            rw [L11.its.length]
            have : acc.length + i1 < 1000000 := by omega
            exact Nat.lt_of_le_of_lt la (Nat.lt_of_lt_of_le this (by decide))
      · rintro H' ⟨F7, ws', acc', s7, m7, n7, L7, R7, la, lr1⟩
        rw [List.drop_length] at lr1
        exact ⟨F7, ws', acc', s7, m7, L7, lr1⟩
  · rintro H' ⟨F2, ws, acc, s2, sm, L, lr⟩
    rw [List.drop_length] at lr
    exact hk F2 H' env1 D ws acc hD0 s2 L lr
theorem uf_lc2 {elt tgt iter tgt1 iter1 : Expr} {ifs ifs1 : List Expr} {scope : Scope} {own : List (Str × Nat)} {pos : Pos} {mi mi1 : UI} {g g1 : UG} {mt mt1 : UT} {me : UM} {is is1 vs1 : List Nat} (ft : Fit c X) (hN : X.N.Nodup) (hi : PI X tgt iter (tI c mi)) (ok : BlkOk X.N X.env.scope scope own) (hv1' : ∀ i ∈ vs1, i ∈ own.map (·.2))
    (hg : ∀ (s : Shared) (H : Hp) (C : Addr) (cl : List (Str × Addr)) (fp : List Addr), Fit c.nox (X.blk s H scope (compEnvC scope cl C X.env) fp) → PG (X.blk s H scope (compEnvC scope cl C X.env) fp) tgt (tg c.nox is g))
    (ht : ∀ (s : Shared) (H : Hp) (C : Addr) (cl : List (Str × Addr)) (fp : List Addr), Fit c.nox (X.blk s H scope (compEnvC scope cl C X.env) fp) → PTs (X.blk s H scope (compEnvC scope cl C X.env) fp) ifs (tt c.nox mt))
    (hi1 : ∀ (s : Shared) (H : Hp) (C : Addr) (cl : List (Str × Addr)) (fp : List Addr), Fit c.nox (X.blk s H scope (compEnvC scope cl C X.env) fp) → PI (X.blk s H scope (compEnvC scope cl C X.env) fp) tgt1 iter1 (tI c.nox mi1))
    (hg1 : ∀ (s : Shared) (H : Hp) (C : Addr) (cl : List (Str × Addr)) (fp : List Addr), Fit c.nox (X.blk s H scope (compEnvC scope cl C X.env) fp) → PG (X.blk s H scope (compEnvC scope cl C X.env) fp) tgt1 (tg c.nox is1 g1))
    (ht1 : ∀ (s : Shared) (H : Hp) (C : Addr) (cl : List (Str × Addr)) (fp : List Addr), Fit c.nox (X.blk s H scope (compEnvC scope cl C X.env) fp) → PTs (X.blk s H scope (compEnvC scope cl C X.env) fp) ifs1 (tt c.nox mt1))
    (he : ∀ (s : Shared) (H : Hp) (C : Addr) (cl : List (Str × Addr)) (fp : List Addr), Fit c.nox (X.blk s H scope (compEnvC scope cl C X.env) fp) → PE (X.blk s H scope (compEnvC scope cl C X.env) fp) elt (tm c.nox me))
    (hv : ∀ j ∈ is, j ∈ own.map (·.2)) (hv1 : ∀ j ∈ is1, j ∈ vs1) (hs : ∀ x, foldedSetIterable iter X.env x = pure x := by intro _; rfl) (hs1 : ∀ env x, foldedSetIterable iter1 env x = pure x := by intro _ _; rfl) (hc : X.calm = true := by rfl) :
    PE X (.ListComp elt [⟨tgt, iter, ifs, 0⟩, ⟨tgt1, iter1, ifs1, 0⟩] scope pos) (tf c (fLc2 mi g mt mi1 g1 mt1 me (own.map (·.2)) vs1)) :=
  have ft' : ∀ (s : Shared) (H : Hp) (C : Addr) (cl : List (Str × Addr)) (fp : List Addr), Fit c.nox (X.blk s H scope (compEnvC scope cl C X.env) fp) := fun s H C cl fp => ⟨ft.K, ft.mg, ft.cool, ft.dn, takes0⟩
  PE.imp (pe_lc2 hc hN hi ok hv1' (fun s H C cl fp => hg s H C cl fp (ft' s H C cl fp)) (fun s H C cl fp => ht s H C cl fp (ft' s H C cl fp)) (fun s H C cl fp => hi1 s H C cl fp (ft' s H C cl fp)) (fun s H C cl fp => hg1 s H C cl fp (ft' s H C cl fp)) (fun s H C cl fp => ht1 s H C cl fp (ft' s H C cl fp)) (fun s H C cl fp => he s H C cl fp (ft' s H C cl fp)) hs hs1) fun σ H Q h => tm_lc2 hv hv1 h
end
end UL

namespace UL
open PySem PySem.Spec PyProof.Rows L2 ItX
/-! ### what the top says of a class -/
/-- a method: its class has it -/
structure Mt (K : PySem.W.Frag) (C : Addr) (m : Str) (ps : List Str) (f : Addr) (fd : FuncData) : Prop where
  at_ : Meth K C m f
  b : Binds K fd ps []
/-- a property -/
structure Pp (K : PySem.W.Frag) (C : Addr) (m : Str) (q f : Addr) (fd : FuncData) : Prop where
  at_ : PropOf K C m q f
  b : Binds K fd ["self"] []
/-- making -/
structure Mi (K : PySem.W.Frag) (C : Addr) (ps : List Str) (f : Addr) (fd : FuncData) : Prop where
  at_ : Mk K C f
  b : Binds K fd ps []
theorem hu1 {k : Nat} {A : Around} (hr : Room k A) : A.units + 1 < cLine := by have := hr.un; omega
section
variable {X : Cx} {c : Uc} {k : Nat} {f C : Addr} {fd : FuncData} {ps : List Str} {spec : Spec} {fr : Bool} {cn : Str}
/-- a class with its own `in` -/
structure In (K : PySem.W.Frag) (C : Addr) (f : Addr) (fd : FuncData) (ps : List Str) : Prop where
  at_ : PySem.W.findIn K (.ref C) "__contains__" = some (some (.ref f))
  fn : PySem.W.isFn K (.ref f) = true
  b : Binds K fd ps []
theorem k_inOwn (ft : Fit c X) (I : In X.K C f fd ps) (G : FnOk X.prog X.w X.K X.mg X.base (L2.CX X.prog X.w) k f fd ps (Pr X.prog X.w X.K X.mg fr spec)) (hr : Room k X.A) : OpR X (compareOp .In) (rInOwn C (Pr X.prog X.w c.W.K c.W.mg fr spec) false) := by
  rw [ft.K, ft.mg]; exact op_inOwn I.at_ I.fn G hr I.b
theorem k_notInOwn (ft : Fit c X) (I : In X.K C f fd ps) (G : FnOk X.prog X.w X.K X.mg X.base (L2.CX X.prog X.w) k f fd ps (Pr X.prog X.w X.K X.mg fr spec)) (hr : Room k X.A) : OpR X (compareOp .NotIn) (rInOwn C (Pr X.prog X.w c.W.K c.W.mg fr spec) true) := by
  rw [ft.K, ft.mg]; exact op_notInOwn I.at_ I.fn G hr I.b
theorem snd_inOwn' (ft : Fit c X) (cl : Cl X.K X.mg cn C) (neg : Bool) : Snd2 c.W (rInOwn C (Pr X.prog X.w c.W.K c.W.mg fr spec) neg) (gInOwn cn spec neg) := snd_inOwn neg ft.cool ft.dn (by rw [ft.mg]; exact cl.g)
end
end UL

namespace UL
open PySem PySem.Spec PyProof.Rows L2 ItX
/-! ### list(o): o's __iter__ gives the iterator of a list of its own -/
section
variable {X : Cx} {pins : List (Addr × Obj)} {σ : L2.St} {A1 : Around} {it l q : Addr} {zs : List V} {Rs : Result → Shared → Prop}
theorem lo_loop {H0 : Hp} (hh : A1.in1.handled = none) (hl0 : H0 l = some (.lst zs)) (hq0 : H0 q = none) (hz : zs.length ≤ sizeLine) (hn : ∀ acc, FpOk X pins (upd H0 q (.lst acc)) it)
    (hdone : ∀ s', Inv X pins σ (upd H0 q (.lst zs)) s' → Rs (.ok (.ret .none)) s') :
    ∀ (k i : Nat) (s : Shared), zs.length - i = k → i ≤ zs.length → Inv X pins σ (upd H0 q (.lst (zs.take i))) s → s.heap.IsListIter it l i → codeAny (model X.prog X.w) A1 (.builtin "list.extend.loop" ⟨[.ref q, .ref it, .none], []⟩) Rs s := by
  have lq : l ≠ q := ne_of_none hl0 hq0
  intro k
  induction k with
  | zero =>
    intro i s hk hi I st
    have e : i = zs.length := by omega
    subst e
    refine codeAny_builtin PySem.F.entry_extend_loop ?_
    rw [Around.under_plainId PySem.F.plain_extend_loop _]
    show wpAny _ A1.in1 (pyNext (.ref it) >>= _) _ _ s
    obtain ⟨its, rv, p, hz'⟩ := I.list (a := l) (xs := zs) (.inl (.inl (by rw [upd_ne lq]; exact hl0)))
    obtain ⟨f0, f1, f2, f3, f4, f5⟩ := hn (zs.take zs.length)
    have hl := rv.length
    refine wpAny_bind (wpAny_pyNext_list_end hh st p.isList (by simp; omega) fun h' eb => ?_)
    have I1 := I.turned (t' := s.toks) (h' := h') (it := it) (fun b o hb e => eb b o hb e) f0 f1 f3 f4 f5
    rw [List.take_length] at I1
    exact wpAny_pure (hdone _ I1)
  | succ k ih =>
    intro i s hk hi I st
    have hlt : i < zs.length := by omega
    refine codeAny_builtin PySem.F.entry_extend_loop ?_
    rw [Around.under_plainId PySem.F.plain_extend_loop _]
    show wpAny _ A1.in1 (pyNext (.ref it) >>= _) _ _ s
    obtain ⟨its, rv, p, hz'⟩ := I.list (a := l) (xs := zs) (.inl (.inl (by rw [upd_ne lq]; exact hl0)))
    obtain ⟨u, hu, ru⟩ := rv.get (List.getElem?_eq_getElem hlt)
    obtain ⟨f0, f1, f2, f3, f4, f5⟩ := hn (zs.take i)
    refine wpAny_bind (wpAny_pyNext_list_item st p.isList (x := u) (by simpa using hu) fun h' st' sb => ?_)
    have I1 : Inv X pins σ (upd H0 q (.lst (zs.take i))) { s with heap := h' } := I.turned (t' := s.toks) (fun b o hb e => (sb.2 b hb).trans e) f0 f1 f3 f4 f5
    show wpAny _ A1.in1 (updateSeq q (·.push u) >>= _) _ _ _
    obtain ⟨z, its2, k2, r2, hl2, e2⟩ := I1.lstM upd_same
    have hlen : its2.length = i := by rw [← r2.length, List.length_take]; omega
    refine wpAny_bind (wpAny_updateSeq e2 rfl (wpAny_pure ⟨plainId_quiet PySem.F.plain_extend_loop _, ?_⟩) (by rw [List.size_toArray]; omega) (by show (its2.toArray.push u).size ≤ sizeLine + 1; rw [Array.size_push, List.size_toArray]; omega))
    have I2 := I1.lset (f := (·.push u)) (its' := its2 ++ [u]) (t' := s.toks) upd_same e2 (by simp) (r2.append (.cons ru .nil)) (by rw [List.length_append, List.length_singleton, List.length_take]; omega)
    rw [upd_upd, List.take_append_getElem hlt] at I2
    have qi : q ≠ it := fun z => by rw [← z, upd_same] at f0; cases f0
    refine ih (i + 1) _ (by omega) hlt I2 (st'.at fun o e => ?_)
    exact (Heap.get?_update_other _ _ qi).trans e
end
section
variable {X : Cx} {c : Uc} {k : Nat} {f C : Addr} {fd : FuncData} {nm cn : Str}
def rOwnL (C : Addr) (nm : Str) : List V → Hp → VK → Prop := fun xs H Q => ∃ a dx l fs zs, xs = [.ref a] ∧ H a = some (.ins C dx fs) ∧ fs.lookup nm = some (.ref l) ∧ H l = some (.lst zs) ∧ ∀ q, H q = none → Q (.ref q) (upd H q (.lst zs))
theorem lo_hint {M : Model} {A : Around} {E : Value → Shared → Prop} {Q : Bool → Shared → Prop} {K : PySem.W.Frag} {s : Shared} {a : Addr} {ox : Obj} {od : Option Obj} (n1 : PySem.W.findIn K (.ref C) "__len__" = some none) (n2 : PySem.W.findIn K (.ref C) "__length_hint__" = some none)
    (hK : K.In s.heap) (J : PySem.W.InstAt s.heap a ox C od) (h : Q true s) : wpAny M A (Builtin.List.listLengthHint (.ref a)) Q E s := by
  unfold Builtin.List.listLengthHint
  refine wpAny_bind (wpAny_bind (J.type.here ((PySem.W.looks_findIn hK n1).here ?_)))
  refine PySem.W.KFB.if_not rfl ?_
  refine PySem.W.KFB.if_not rfl ?_
  refine wpAny_bind (wpAny_bind (J.type.here ((PySem.W.looks_findIn hK n2).here ?_)))
  exact wpAny_pure h
theorem lo_extend {pins : List (Addr × Obj)} {σ : L2.St} {A1 : Around} {s : Shared} {H : Hp} {a dx l q : Addr} {fs : List (Str × V)} {zs : List V} {Rs : Result → Shared → Prop} (sb : Sub X k A1.in1) (T : OwnIt X.prog X.w X.K X.mg X.base C nm k f fd)
    (hdone : ∀ s', Inv X pins σ (upd H q (.lst zs)) s' → Rs (.ok (.ret .none)) s') (herr : ∀ e s, X.xe e s → Rs (.error e) s)
    (I : Inv X pins σ (upd H q (.lst [])) s) (ha : H a = some (.ins C dx fs)) (hl : fs.lookup nm = some (.ref l)) (hz : H l = some (.lst zs)) (hq : H q = none) :
    wpAny (model X.prog X.w) A1.in1 (Builtin.List.listExtendWith (.ref q) (.ref a) .none)
      (fun fin s' => match fin with | .done f => Rs (.ok f) s' | .again c' => c'.quiet = true ∧ codeAny (model X.prog X.w) A1 c' Rs s') (fun e s' => Rs (.error e) s') s := by
  have hne : q ≠ a := fun z => by rw [z, ha] at hq; cases hq
  have lq : l ≠ q := ne_of_none hz hq
  have ha1 : upd H q (.lst []) a = some (.ins C dx fs) := by rw [upd_ne hne.symm]; exact ha
  have hz1 : upd H q (.lst []) l = some (.lst zs) := by rw [upd_ne lq]; exact hz
  obtain ⟨mA, J, _⟩ := ins_get I.hok ha1
  obtain ⟨od, J, _⟩ := J.look
  obtain ⟨m0, hF⟩ := I.fr
  unfold Builtin.List.listExtendWith
  refine wpAny_bind (J.type.here ?_)
  have h1 : Builtin.List.listSameRef (.ref q) (.ref a) = false := by simp [Builtin.List.listSameRef, hne]
  have h2 : (Value.ref C == Value.type "list") = false := rfl
  have h3 : (Value.ref C == Value.type "tuple") = false := rfl
  simp only [h1, h2, h3, Bool.or_false, Bool.false_eq_true, if_false]
  refine wpAny_bind (PySem.W.owit_iter hF I.ok.mod.kin J T.it T.itF ?_)
  have e0 : Env0 X.prog X.w X.K X.mg X.base A1.in1 X.stack s (upd H q (.lst [])) := by
    have e := I.env0
    exact ⟨by rw [sb.fr]; exact e.frames, e.mod, e.bs, e.bsz, e.funs, e.frf, e.hok, e.bare⟩
  have b := T.b s [.ref a] I.kIn rfl
  refine wpAny_call (codeAny_mono (T.F.run A1.in1 X.stack s (upd H q (.lst [])) ⟨[.ref a], []⟩ a dx l fs zs (fun v H' => ∃ it, v = .ref it ∧ upd H q (.lst []) it = none ∧ s.heap.objs.size ≤ it ∧ H' = upd (upd H q (.lst [])) it (ItO l it 0)) sb.room e0 b ha1 hl hz1 fun it h1 h2 => ⟨it, rfl, h1, h2, rfl⟩) fun r s' hq' => ?_)
  cases r with
  | error er => exact herr er s' (passL pins σ _ s er s' I hq')
  | ok fl =>
    cases fl with
    | next => exact False.elim hq'
    | brk => exact False.elim hq'
    | cont => exact False.elim hq'
    | ret u =>
      obtain ⟨v, H', I2, rv, it, rfl, h0, hle, rfl⟩ := I.after hq'
      cases rv
      have hi : upd (upd H q (.lst [])) it (ItO l it 0) it = some (ItO l it 0) := upd_same
      have eo := itO_get I2 hi
      have st : s'.heap.IsListIter it l 0 := ⟨_, eo, rfl, rfl⟩
      have hT : s'.TypeIs (.ref it) "list_iterator" := ⟨_, eo, rfl⟩
      refine wpAny_specialOf (name := Str.ofString "__next__") hT slot_listiter_next.lookup ?_
      have hi' := hi
      unfold ItO at hi'
      have I3 := inv_drop I2 hi'
      rw [dropH_upd h0] at I3
      have fp : FpOk X pins (upd H q (.lst [])) it := by
        have := inv_fp I2 hi (Nat.le_trans I.sz hle)
        rw [dropH_upd h0] at this
        exact this
      have iq : it ≠ q := fun z => by rw [z, upd_same] at h0; cases h0
      have hit : H it = none := by rw [upd_ne iq] at h0; exact h0
      obtain ⟨mA', J', _⟩ := ins_get I3.hok ha1
      obtain ⟨od', J', _⟩ := J'.look
      refine wpAny_bind (wpAny_holding (lo_hint T.nolen T.nohint I3.kIn J' ?_))
      have fpa : ∀ acc, FpOk X pins (upd H q (.lst acc)) it := fun acc => by
        obtain ⟨f0, f1, f2, f3, f4, f5⟩ := fp
        exact ⟨by rw [upd_ne iq]; exact hit, f1, f2, f3, f4, f5⟩
      have hzl : zs.length ≤ sizeLine := by
        obtain ⟨its, rv, p, hz'⟩ := I3.list (a := l) (xs := zs) (.inl (.inl hz1))
        have := rv.length
        omega
      have go := fun (s2 : Shared) (I' : Inv X pins σ (upd H q (.lst [])) s2) (st' : s2.heap.IsListIter it l 0) => lo_loop (A1 := A1) (Rs := Rs) sb.room.hd hz hq hzl fpa hdone zs.length 0 s2 rfl (Nat.zero_le _) I' st'
      obtain ⟨z, its, k, r3, hl3, e3⟩ := I3.lstM upd_same
      cases r3
      refine wpAny_ite_split (fun _ => ?_) (fun _ => wpAny_pure ⟨plainId_quiet PySem.F.plain_extend_loop _, go s' I3 st⟩)
      refine wpAny_bind (wpAny_rule ?_)
      refine wpAny_bind ?_
      show wpAny _ _ (updateSeq q (·.push .none) >>= fun _ => updateSeq q (·.pop)) _ _ _
      refine wpAny_bind (wpAny_updateSeq e3 rfl ?_)
      have I4 := I3.lset (f := (·.push Value.none)) (its' := [Value.none]) (ys := [.non]) (t' := s'.toks) upd_same e3 (by simp) (.cons rfl .nil) (by rw [List.length_singleton, sizeLine_eq]; decide)
      obtain ⟨z4, its4, k4, r4, hl4, e4⟩ := I4.lstM upd_same
      obtain ⟨u4, rfl, ru4⟩ := r4.one
      refine wpAny_updateSeq e4 rfl ?_ (by show 1 ≤ sizeLine; rw [sizeLine_eq]; decide) (by show 0 ≤ sizeLine + 1; exact Nat.zero_le _)
      have I5 := I4.lset (f := (·.pop)) (its := [u4]) (its' := []) (ys := []) (t' := s'.toks) upd_same e4 (by rfl) .nil (Nat.zero_le _)
      rw [upd_upd, upd_upd] at I5
      exact wpAny_pure ⟨plainId_quiet PySem.F.plain_extend_loop _, go _ I5 (st.at fun o e => (Heap.get?_update_other _ _ iq.symm).trans ((Heap.get?_update_other _ _ iq.symm).trans e))⟩
theorem call_listO (T : OwnIt X.prog X.w X.K X.mg X.base C nm k f fd) (hr : Room (k + 2) X.A) : CallR X (.type "list") (rOwnL C nm) := by
  intro pins s σ H xs us Q I rv h
  obtain ⟨a, dx, l, fs, zs, rfl, ha, hl, hz, hq⟩ := h
  obtain ⟨u, rfl, ru⟩ := rv.one
  cases ru
  have sb : Sub X k X.A.in1.in1 := (Sub.in1 (Sub.in1 (⟨hr, rfl⟩ : Sub X (k + 2) X.A)))
  refine callType_codes (Q₁ := fun obj s₁ => obj = .ref s.heap.objs.size ∧ s₁ = { s with heap := s.heap.push { cls := .type "list", data := .seq #[] } }) PySem.F.called_list (PySem.F.typeCall_list_1 _) PySem.F.entry_list_init
    (code_list_new _ ⟨rfl, rfl⟩) fun obj s₁ h₁ => ?_
  obtain ⟨rfl, rfl⟩ := h₁
  have hS : (s.heap.push { cls := .type "list", data := .seq #[] }).get? s.heap.objs.size = some { cls := .type "list", data := .seq #[] } := Heap.get?_push_size _ rfl
  refine ⟨⟨_, hS, rfl⟩, PySem.F.args_list_init_2 _ _, ?_⟩
  have fr : H s.heap.objs.size = none := I.hok.fresh (Nat.le_refl _)
  have I1 : Inv X pins σ (upd H s.heap.objs.size (.lst [])) { s with heap := s.heap.push { cls := .type "list", data := .seq #[] } } := I.lnew (its := []) (t' := s.toks) .nil (Nat.zero_le _)
  show wpAny _ _ (do let old ← Builtin.List.listItems (.ref s.heap.objs.size); Builtin.List.listUpdate (.ref s.heap.objs.size) (fun _ => #[]); letGo old.toList.reverse; Builtin.List.listExtendWith (.ref s.heap.objs.size) (.ref a) .none) _ _ _
  refine wpAny_bind ?_
  unfold Builtin.List.listItems
  refine wpAny_bind (wpAny_seqItems hS rfl (wpAny_pure ?_))
  show wpAny _ _ (updateSeq s.heap.objs.size (fun _ => #[]) >>= fun _ => letGo (#[] : Array Value).toList.reverse >>= fun _ => Builtin.List.listExtendWith (.ref s.heap.objs.size) (.ref a) .none) _ _ _
  refine wpAny_bind (wpAny_updateSeq hS rfl ?_)
  have I2 := I1.lset (f := fun _ => #[]) (its := []) (its' := []) (ys := []) (t' := s.toks) upd_same hS rfl .nil (Nat.zero_le _)
  rw [upd_upd] at I2
  refine wpAny_bind (wpAny_letGo ?_)
  exact lo_extend (A1 := X.A.in1) (Rs := wants (fun r s₂ => r = .none ∧ EP X pins σ Q (.ref s.heap.objs.size) s₂) X.xe) sb T
    (fun s' I' => ⟨rfl, .ref s.heap.objs.size, _, I', rfl, hq _ fr⟩) (fun e s' he => he) I2 ha hl hz fr
def nListO (cn nm : Str) : LN := fun us κ => match us with
  | [u] => gIns cn (fun fs => ∃ zs, fs.lookup nm = some (.lst zs) ∧ κ zs) u
  | _ => False
theorem snd_listO (ft : Fit c X) (cl : Cl X.K X.mg cn C) : SndNF c.W (rOwnL C nm) (nListO cn nm) := fun F H vs us κ Q P hv hg hk => by
  unfold nListO at hg
  split at hg
  · obtain ⟨fs, rfl, zs, hl, hg⟩ := gIns_elim hg
    obtain ⟨v, rfl, h⟩ := hv.one
    cases h with
    | pool r =>
      cases r with
      | ins hg' hp rs =>
        rw [ft.mg, cl.g] at hg'
        cases hg'
        obtain ⟨w, hl', rw'⟩ := rs.lookup hl
        cases rw' with
        | lst hq r => exact ⟨_, _, _, _, _, rfl, P.sub _ _ hp, hl', P.sub _ _ hq, fun q hq' => hk q _ _ hq' r hg⟩
  · exact hg.elim
end
/-! ### a cut of a tuple -/
def gSlT : U → Option Int → Option Int → (U → Prop) → Prop := fun u lo hi κ => match u with
  | .tup us => κ (.tup (cutU us lo hi))
  | _ => False
theorem snd_slT {W : Wd} : Snd3 W (rSlA W.K) gSlT := fun F H x u lo hi κ Q P hx hg hk => by
  unfold gSlT at hg
  split at hg
  · rename_i us
    obtain ⟨p, vs, rfl, h1, h2⟩ := hx.tupl P.sub
    refine ⟨p, vs, rfl, Same.seqT P.sub h1, fun hw => ?_, fun hw q hq => ?_⟩
    · cases hx with
      | pool r =>
        refine hk F H _ _ (Ext.refl P) ?_ hg
        have : cutU us lo hi = us := by
          unfold cutU
          rw [h2.length] at hw
          rw [hw.1, hw.2, List.drop_zero, Nat.sub_zero, List.take_length]
        rw [this]; exact r
    · have xx := Ext.new (o := .tup (cutV vs lo hi)) P hq
      exact hk _ _ _ _ xx (.tup (.inl (.inl upd_same)) (cut_reps (h2.mono xx.same))) hg
  · exact hg.elim
theorem k_slT' {X : Cx} {c : Uc} (ft : Fit c X) : SlR X (rSlA c.W.K) := ft.K.symm ▸ sl_tupA
end UL

namespace UL
open PySem PySem.Spec PyProof.Rows L2
/-! ### pure steps -/
theorem lcRun_fm {turn : U → (Option U → Prop) → Prop} (F : U → Option U) : ∀ {us acc : List U} {k : List U → Prop}, (∀ u ∈ us, ∀ κ : Option U → Prop, κ (F u) → turn u κ) → k (acc ++ us.filterMap F) → lcRun turn us acc k
  | [], acc, k, _, h => by rw [List.filterMap_nil, List.append_nil] at h; exact h
  | u :: us, acc, k, ht, h => by
    refine ht u (List.mem_cons_self ..) _ (lcRun_fm F (fun w hw => ht w (List.mem_cons_of_mem _ hw)) ?_)
    rw [List.filterMap_cons] at h
    cases e : F u with
    | none => rw [e] at h; simpa using h
    | some z => rw [e] at h; simpa using h
theorem lcRun_map {turn : U → (Option U → Prop) → Prop} (F : U → U) {us : List U} {k : List U → Prop} (ht : ∀ u ∈ us, ∀ κ : Option U → Prop, κ (some (F u)) → turn u κ) (h : k (us.map F)) : lcRun turn us [] k := by
  refine lcRun_fm (fun u => some (F u)) ht ?_
  have e : us.filterMap (fun u => some (F u)) = us.map F := by rw [← List.filterMap_eq_map]; rfl
  rw [e]; exact h
theorem lcRun2_fm {turn : U → List U → (List U → Prop) → Prop} (F : U → List U) : ∀ {us acc : List U} {k : List U → Prop} (B : Nat), (∀ u ∈ us, ∀ acc κ, acc.length ≤ B → κ (acc ++ F u) → turn u acc κ) → (acc ++ us.flatMap F).length ≤ B → k (acc ++ us.flatMap F) → lcRun2 turn us acc k
  | [], acc, k, _, _, _, h => by rw [List.flatMap_nil, List.append_nil] at h; exact h
  | u :: us, acc, k, B, ht, hb, h => by
    rw [List.flatMap_cons] at h hb
    refine ht u (List.mem_cons_self ..) acc _ (by rw [List.length_append] at hb; omega) (lcRun2_fm F B (fun w hw => ht w (List.mem_cons_of_mem _ hw)) (by rw [List.append_assoc]; exact hb) (by rw [List.append_assoc]; exact h))
def dcFold (F : U → Option (L2.Key × U)) : List U → List (L2.Key × U) → List (L2.Key × U)
  | [], acc => acc
  | u :: us, acc => dcFold F us (match F u with
    | some (key, v) => putD acc key v
    | none => acc)
theorem dcRun_fm {turn : U → (Option (L2.Key × U) → Prop) → Prop} (F : U → Option (L2.Key × U)) : ∀ {us : List U} {acc : List (L2.Key × U)} {k : List (L2.Key × U) → Prop}, (∀ u ∈ us, ∀ κ : Option (L2.Key × U) → Prop, κ (F u) → turn u κ) → k (dcFold F us acc) → dcRun turn us acc k
  | [], acc, k, _, h => h
  | u :: us, acc, k, ht, h => by
    refine ht u (List.mem_cons_self ..) _ ?_
    exact dcRun_fm F (fun w hw => ht w (List.mem_cons_of_mem _ hw)) h
theorem ifb {b : Bool} {A B : Prop} (h1 : b = true → A) (h2 : b = false → B) : if b = true then A else B := by
  cases b
  · exact h2 rfl
  · exact h1 rfl
theorem ifT {A B : Prop} (h : A) : if true = true then A else B := h
theorem ifF {A B : Prop} (h : B) : if false = true then A else B := h
theorem find_at {α : Type} {p : α → Bool} : ∀ {xs : List α} {i : Nat} {x : α}, (∀ j y, j < i → xs[j]? = some y → p y = false) → xs[i]? = some x → p x = true → xs.find? p = some x
  | [], i, x, _, h, _ => by simp at h
  | y :: ys, 0, x, _, h, hp => by simp at h; subst h; rw [List.find?_cons, hp]
  | y :: ys, i + 1, x, hn, h, hp => by
    have h0 := hn 0 y (Nat.zero_lt_succ _) rfl
    rw [List.find?_cons, h0]
    exact find_at (fun j z hj e => hn (j + 1) z (Nat.succ_lt_succ hj) (by simpa using e)) (by simpa using h) hp
theorem find_no {α : Type} {p : α → Bool} {xs : List α} (h : ∀ j y, j < xs.length → xs[j]? = some y → p y = false) : xs.find? p = none := by
  rw [List.find?_eq_none]
  intro x hx
  obtain ⟨j, hj, e⟩ := List.mem_iff_getElem.mp hx
  rw [h j x hj (by rw [List.getElem?_eq_getElem hj, e])]
  decide
theorem txs_get {zs : List Str} {i : Nat} {u : U} (h : (txs zs)[i]? = some u) : ∃ z, zs[i]? = some z ∧ u = .str z := by
  unfold txs at h
  rw [List.getElem?_map] at h
  cases e : zs[i]? with
  | none => rw [e] at h; cases h
  | some z => rw [e] at h; cases h; exact ⟨z, rfl, rfl⟩
theorem txs_length (zs : List Str) : (txs zs).length = zs.length := List.length_map ..
/-- a walk that only looks, or raises at the first that is bad -/
theorem for_find {us : List U} {n : (Nat → List Slot → Prop) → Nat → U → List Slot → Prop} {σ : Type} {s0 : σ} {nx : List Slot → Prop} (p : U → Bool) (env : σ → List Slot)
    (hn : us.find? p = none → ∀ s, nx (env s)) (hs : ∀ I i u s, (p u = false ∨ us.find? p = some u) → u ∈ us → us[i]? = some u → (p u = false → ∀ s, I (i + 1) (env s)) → n I i u (env s)) :
    ∃ I : Nat → List Slot → Prop, I 0 (env s0) ∧ (∀ (i : Nat) u env', us[i]? = some u → I i env' → n I i u env') ∧ ∀ env', I us.length env' → nx env' := by
  refine ⟨fun i e => (∃ s, e = env s) ∧ ∀ j y, j < i → us[j]? = some y → p y = false, ⟨⟨s0, rfl⟩, fun _ _ h => absurd h (Nat.not_lt_zero _)⟩, ?_, ?_⟩
  · rintro i u env' hu ⟨⟨s, rfl⟩, hb⟩
    refine hs _ i u s ?_ (List.mem_of_getElem? hu) hu fun hp s' => ⟨⟨s', rfl⟩, fun j y hj e => ?_⟩
    · cases q : p u with
      | false => exact .inl rfl
      | true => exact .inr (find_at hb hu q)
    · rcases Nat.lt_succ_iff_lt_or_eq.mp hj with h | h
      · exact hb j y h e
      · subst h; rw [hu] at e; cases e; exact hp
  · rintro env' ⟨⟨s, rfl⟩, hb⟩
    exact hn (find_no hb) s
theorem bls_map {F : U → Bool} : ∀ us : List U, bls (us.map fun u => U.bl (F u)) = some (us.map F)
  | [] => rfl
  | u :: us => by
    show (bls (us.map fun u => U.bl (F u))).map _ = _
    rw [bls_map us]; rfl
end UL

/-! sorted of rows of three texts -/
namespace RowS
open PySem PySem.Spec PyProof.Rows L2 SrtO
abbrev K3 := Str × Str × Str
def key3 (k : K3) : List (List Nat) := [k.1.cps.toList, k.2.1.cps.toList, k.2.2.cps.toList]
def lt3 (x y : K3) : Bool := decide (key3 x < key3 y)
theorem swo3 (k : Value → K3) : Swo fun v u => lt3 (k v) (k u) where
  asym := fun x y h => decide_eq_false (List.lt_asymm (of_decide_eq_true h))
  tr := fun x y z h1 h2 => decide_eq_false (List.not_lt.mpr (List.le_trans (List.not_lt.mp (of_decide_eq_false h1)) (List.not_lt.mp (of_decide_eq_false h2))))
def IsRow (h : Heap) (v : Value) (k : K3) : Prop := ∃ a o t u r n, v = .ref a ∧ h.get? a = some o ∧ o.cls = .type "tuple" ∧ o.data = .seq #[.str k.1 t, .str k.2.1 u, .str k.2.2 r] n
theorem IsRow.keeps {h h' : Heap} {v : Value} {k : K3} (p : IsRow h v k) (e : ∀ b o, h.get? b = some o → o.cls = .type "tuple" → h'.get? b = some o) : IsRow h' v k := by
  obtain ⟨a, o, t, u, r, n, e1, ho, hc, hd⟩ := p
  exact ⟨a, o, t, u, r, n, e1, e _ _ ho hc, hc, hd⟩
theorem firsts3 {h : Heap} {k : Value → K3} : ∀ {vs : List Value}, (∀ v ∈ vs, IsRow h v (k v)) → ∃ fs : List Value, PySem.W.KatTups h vs fs ∧ fs.length = vs.length ∧ ∀ f ∈ fs, ∃ x t, f = Value.str x t
  | [], _ => ⟨[], PySem.W.KatTups.nil, rfl, fun _ hm => by simp at hm⟩
  | v :: vs, hp => by
    obtain ⟨fs, h1, h2, h3⟩ := firsts3 (vs := vs) fun v' hm => hp v' (List.mem_cons_of_mem _ hm)
    obtain ⟨a, o, t, u, r, n, e, ho, hc, hd⟩ := hp v (List.mem_cons_self ..)
    refine ⟨.str (k v).1 t :: fs, by rw [e] at hd ⊢; exact PySem.W.KatTups.cons ho hc hd rfl h1, by rw [List.length_cons, List.length_cons, h2], fun f hm => ?_⟩
    rcases List.mem_cons.mp hm with rfl | hm
    · exact ⟨_, t, rfl⟩
    · exact h3 f hm
section
variable {prog : Program} {w : World} {A : Around} {E : Value → Shared → Prop} {s : Shared}
theorem oneLt_strs (c : Bool) {p q : Str} {t u : Tok} {Q : Bool → Shared → Prop} (h : Q (decide (p.cps.toList < q.cps.toList)) s) : wpAny (model prog w) A (oneLt' c (.str p t) (.str q u)) Q E s := by
  cases c with
  | true => exact oneLt_str h
  | false => exact PySem.W.kat_one _ _ (PyProof.Rows.lt_str (Q := PySem.W.BoolBack Q) h)
theorem str_eq_iff {x y : Str} : (x == y) = true ↔ x.cps.toList = y.cps.toList := by
  constructor
  · intro e; rw [eq_of_beq e]
  · intro e
    have : x = y := by
      cases x; cases y
      exact congrArg _ (Array.toList_inj.mp e)
    rw [this]; exact beq_self_eq_true y
/-- one step of the walk over the items -/
theorem lex_step {b : Bool} {x y : Str} {t u : Tok} {r : List (Value × Value)} {i : Nat} {l m : List (List Nat)} {Q : Bool → Shared → Prop}
    (h : Q (decide (x.cps.toList :: l < y.cps.toList :: m)) s) (hr : ∀ Q : Bool → Shared → Prop, Q (decide (l < m)) s → PySem.W.KatLex prog w A b false Q r (i + 1) s) :
    PySem.W.KatLex prog w A b false Q ((.str x t, .str y u) :: r) i s := by
  refine PySem.W.kat_cons (SeqAt.EqAt.str_str x t y u prog w _ _ ?_)
  refine PySem.W.kat_go (fun e => PySem.W.kat_yes ?_) (fun e => PySem.W.kat_no ?_)
  · have e' := str_eq_iff.mp e
    refine hr Q ?_
    have : decide (l < m) = decide (x.cps.toList :: l < y.cps.toList :: m) := by
      refine decide_eq_decide.mpr ?_
      rw [List.cons_lt_cons_iff, e']
      exact ⟨fun z => .inr ⟨rfl, z⟩, fun z => z.elim (fun z => absurd z (List.lt_irrefl _)) (·.2)⟩
    rw [this]; exact h
  · have e' : ¬ x.cps.toList = y.cps.toList := fun z => by rw [str_eq_iff.mpr z] at e; cases e
    refine oneLt_strs _ ?_
    have : decide (x.cps.toList < y.cps.toList) = decide (x.cps.toList :: l < y.cps.toList :: m) := by
      refine decide_eq_decide.mpr ?_
      rw [List.cons_lt_cons_iff]
      exact ⟨.inl, fun z => z.elim id fun z => absurd z.1 e'⟩
    rw [this]; exact h
theorem row_cmp {vs : List Value} {k : Value → K3} (hp : ∀ v ∈ vs, IsRow s.heap v (k v)) : Cmp prog w A s (tuples' true) (fun p => p.1 ∈ vs) (lt2 fun v u => lt3 (k v) (k u)) := by
  intro p q hm hm'
  have h1 := hp _ hm
  have h2 := hp _ hm'
  show wpAny (model prog w) A (keyLt' (tuples' true) p.1 q.1) (fun r s' => s' = s ∧ r = lt3 (k p.1) (k q.1)) (fun _ _ => False) s
  generalize k p.1 = x at h1 ⊢
  generalize k q.1 = y at h2 ⊢
  obtain ⟨a, o, t, u, r, n, e, ho, hc, hd⟩ := h1
  obtain ⟨a', o', t', u', r', n', e', ho', hc', hd'⟩ := h2
  rw [e, e']
  refine PySem.W.kat_lt ho hd ho' hd' ?_
  show PySem.W.KatLex prog w A true (decide (3 < 3)) _ [(.str x.1 t, .str y.1 t'), (.str x.2.1 u, .str y.2.1 u'), (.str x.2.2 r, .str y.2.2 r')] 0 s
  refine lex_step (l := [x.2.1.cps.toList, x.2.2.cps.toList]) (m := [y.2.1.cps.toList, y.2.2.cps.toList]) ⟨rfl, rfl⟩ fun Q hq => ?_
  refine lex_step (l := [x.2.2.cps.toList]) (m := [y.2.2.cps.toList]) hq fun Q hq => ?_
  refine lex_step (l := []) (m := []) hq fun Q hq => ?_
  exact PySem.W.kat_nil hq
theorem rows_sortable {a : Addr} {vs : List Value} {k : Value → K3} (h0 : 0 < vs.length) (hp : ∀ v ∈ vs, IsRow s.heap v (k v)) (ha : ∀ o, s.heap.get? a = some o → o.cls ≠ .type "tuple") : SortableO prog w A s a vs fun v u => lt3 (k v) (k u) := by
  intro h' keep
  have hp' : ∀ v ∈ vs, IsRow h' v (k v) := fun v hm => (hp v hm).keeps fun b o e c => keep b o (fun z => by subst z; exact ha o e c) e
  obtain ⟨fs, h1, h2, h3⟩ := firsts3 hp'
  refine ⟨tuples' true, fun Q E hq => ?_, row_cmp hp'⟩
  refine PySem.W.kat_kind (T := .type "str") h1 (by omega) (fun f hm => ?_) (by rfl) ?_
  · obtain ⟨x, t, rfl⟩ := h3 f hm
    exact PySem.W.Looks.now
  · have e : (Value.type "str" != Value.type "tuple") = true := by first | decide +kernel | rfl | decide
    rw [e]
    exact hq
theorem sorted_rows {l : Addr} {vs : List Value} {k : Value → K3} {Q : Value → Shared → Prop} (hl : s.heap.IsList l vs.toArray) (hz : vs.length ≤ sizeLine) (hp : ∀ v ∈ vs, IsRow s.heap v (k v))
    (h : ∀ (h' : Heap) (d : Addr) (out : List Value), Srtd (fun v u => lt3 (k v) (k u)) out → Stb (fun v u => lt3 (k v) (k u)) out vs → (∀ b o, s.heap.get? b = some o → h'.get? b = some o) → s.heap.objs.size ≤ d → (∃ n, h'.get? d = some (seqObj "list" out.toArray n)) → Q (.ref d) { s with heap := h' }) :
    wpAny (model prog w) A (call (.builtin "sorted") [.ref l]) Q E s := by
  refine sorted_ord (swo3 k) hl hz (fun h2 h₁ a ha kk => ?_) fun out hs hb => ?_
  · refine rows_sortable (s := { s with heap := h₁ }) (by omega) (fun v hm => (hp v hm).keeps fun b o e _ => (kk b o e).2) fun o e => ?_
    have e' : some o = some (seqObj "list" vs.toArray 0) := e.symm.trans ha
    cases e'
    intro c
    exact absurd (Value.type.inj c) (by decide)
  · exact h _ _ out hs hb (fun b o e => sortedAll_old e) (Nat.le_succ _) (sortedAll_at s.heap vs out.toArray)
end
end RowS

namespace L2
open PySem PySem.Spec PyProof.Rows RowS
/-- the texts of a row -/
def kv (h : Heap) : Value → K3
  | .ref t => match h.get? t with
    | some o => match o.data with
      | .seq arr _ => match arr.toList with
        | [.str a _, .str b _, .str c _] => (a, b, c)
        | _ => (⟨#[]⟩, ⟨#[]⟩, ⟨#[]⟩)
      | _ => (⟨#[]⟩, ⟨#[]⟩, ⟨#[]⟩)
    | none => (⟨#[]⟩, ⟨#[]⟩, ⟨#[]⟩)
  | _ => (⟨#[]⟩, ⟨#[]⟩, ⟨#[]⟩)
theorem isRow_kv {h : Heap} {v : Value} {k : K3} (r : IsRow h v k) : kv h v = k := by
  obtain ⟨a, o, t, u, r, n, e, ho, hc, hd⟩ := r
  subst e
  simp [kv, ho, hd]
/-- x is a row's tuple -/
def RowAt (K : PySem.W.Frag) (H : Hp) (x : V) (r : K3) : Prop := ∃ t, x = .ref t ∧ SqT K H t [.str r.1, .str r.2.1, .str r.2.2]
def rSortedR (K : PySem.W.Frag) : List V → Hp → VK → Prop := fun vs H Q => ∃ (a : Addr) (xs : List V) (rows : List K3), vs = [V.ref a] ∧ SqL K H a xs ∧ xs.length = rows.length ∧ (∀ (i : Nat) x r, xs[i]? = some x → rows[i]? = some r → RowAt K H x r) ∧
  ∀ ys (out : List K3) p, ys.length = out.length → (∀ (i : Nat) y r, ys[i]? = some y → out[i]? = some r → ∃ j : Nat, xs[j]? = some y ∧ rows[j]? = some r) → out.Perm rows → SrtO.Srtd lt3 out → H p = none → Q (.ref p) (upd H p (.lst ys))
section
variable {X : Cx}
theorem cr_sortedR : CallR X (.builtin "sorted") (rSortedR X.K) := by
  intro pins s σ H vs us Q I r h
  obtain ⟨a, xs, rows, rfl, hs, hlen, hx, q⟩ := h
  obtain ⟨its, rv, hl, hz⟩ := I.list hs
  obtain ⟨u, rfl, ru⟩ := vals1 r
  obtain rfl : u = Value.ref a := ru
  have hr : ∀ x ∈ xs, ∃ a, x = V.ref a := fun x m => by
    obtain ⟨i, hi, e⟩ := List.mem_iff_getElem.mp m
    obtain ⟨t, e1, _⟩ := hx i x (rows[i]'(by omega)) (by rw [List.getElem?_eq_getElem hi, e]) (List.getElem?_eq_getElem _)
    exact ⟨t, e1⟩
  obtain ⟨e1, e2⟩ := refs_back rv hr
  have li : its.length = xs.length := rv.length.symm
  have row : ∀ (i : Nat) v r, its[i]? = some v → rows[i]? = some r → IsRow s.heap v r := fun i v r hv hr => by
    have hm : v ∈ its := List.mem_of_getElem? hv
    obtain ⟨t, rfl⟩ := e2 v hm
    have hxi : xs[i]? = some (V.ref t) := by rw [e1, List.getElem?_map, hv]; rfl
    obtain ⟨t', e, ht⟩ := hx i _ r hxi hr
    cases e
    obtain ⟨its2, r2, hT, _⟩ := I.tuple ht
    obtain ⟨o, ho, hc, n, hd⟩ := hT
    cases r2 with
    | cons a1 r2 => cases r2 with
      | cons a2 r2 => cases r2 with
        | cons a3 r2 =>
          cases r2
          obtain ⟨t1, rfl⟩ := a1
          obtain ⟨t2, rfl⟩ := a2
          obtain ⟨t3, rfl⟩ := a3
          exact ⟨t, o, t1, t2, t3, n, rfl, ho, hc, hd⟩
  have ek : its.map (kv s.heap) = rows := by
    apply List.ext_getElem?
    intro i
    rw [List.getElem?_map]
    by_cases hi : i < its.length
    · have h1 := List.getElem?_eq_getElem hi
      have h2 : rows[i]? = some (rows[i]'(by omega)) := List.getElem?_eq_getElem _
      rw [h1, h2]
      exact congrArg some (isRow_kv (row i _ _ h1 h2))
    · rw [List.getElem?_eq_none (by omega), List.getElem?_eq_none (by omega)]; rfl
  refine sorted_rows (k := kv s.heap) hl.isList (by rw [← rv.length]; exact hz) (fun v hv => ?_) fun h' d out h1 h2 kp hd hn => ?_
  · obtain ⟨i, hi, e⟩ := List.mem_iff_getElem.mp hv
    have q1 : its[i]? = some v := by rw [List.getElem?_eq_getElem hi, e]
    have q2 : rows[i]? = some (rows[i]'(by omega)) := List.getElem?_eq_getElem _
    have := row i v _ q1 q2
    rw [isRow_kv this]; exact this
  · have h3 : ∀ u ∈ out, ∃ a, u = Value.ref a := fun u hu => e2 u (h2.perm.mem_iff.mp hu)
    obtain ⟨n, hn⟩ := hn
    refine ⟨.ref d, upd H d (.lst (out.map backV)), I.laid (t' := s.toks) kp hd ⟨?_, out, n, vals_back h3, hn⟩, rfl, q _ (out.map (kv s.heap)) d (by rw [List.length_map, List.length_map]) (fun i y r hy hr => ?_) (by rw [← ek]; exact h2.perm.map _) (SrtO.srtd_map h1) (I.hok.fresh hd)⟩
    · rw [List.length_map, h2.perm.length_eq, li]; exact hz
    · rw [List.getElem?_map] at hy hr
      cases q1 : out[i]? with
      | none => rw [q1] at hy; cases hy
      | some v =>
        rw [q1] at hy hr
        cases hy; cases hr
        obtain ⟨j, hj, e⟩ := List.mem_iff_getElem.mp (h2.perm.mem_iff.mp (List.mem_of_getElem? q1))
        refine ⟨j, ?_, ?_⟩
        · rw [e1, List.getElem?_map, List.getElem?_eq_getElem hj, e]; rfl
        · rw [← ek, List.getElem?_map, List.getElem?_eq_getElem hj, e]; rfl
end
end L2
namespace UL
open PySem PySem.Spec PyProof.Rows L2 RowS
def rowU (r : K3) : U := .tup [.str r.1, .str r.2.1, .str r.2.2]
def rowsU (rs : List K3) : List U := rs.map rowU
def nSortR : LN := fun us κ => match us with
  | [.lst xs] => ∃ rows, xs = rowsU rows ∧ ∀ out : List K3, out.Perm rows → SrtO.Srtd lt3 out → κ (rowsU out)
  | _ => False
theorem reps_at {W : Wd} {F : Hp} : ∀ {vs : List V} {us : List U}, vs.length = us.length → (∀ (i : Nat) v u, vs[i]? = some v → us[i]? = some u → rep W F v u) → reps W F vs us
  | [], [], _, _ => .nil
  | v :: vs, u :: us, hl, h => .cons (h 0 v u rfl rfl) (reps_at (by simpa using hl) fun i v u e1 e2 => h (i + 1) v u (by simpa using e1) (by simpa using e2))
theorem snd_sortR {W : Wd} : SndNF W (rSortedR W.K) nSortR := fun F H vs us κ Q P hv hg hk => by
  unfold nSortR at hg
  split at hg
  · obtain ⟨rows, rfl, hg⟩ := hg
    obtain ⟨v, rfl, h⟩ := hv.one
    obtain ⟨p, vs, rfl, h1, h2⟩ := h.list P.sub
    have hlen : vs.length = rows.length := by rw [h2.length]; exact List.length_map ..
    have hrep : ∀ (i : Nat) x r, vs[i]? = some x → rows[i]? = some r → rep W F x (rowU r) := fun i x r hx hr => by
      obtain ⟨u, e1, e2⟩ := h2.get hx
      unfold rowsU at e1
      rw [List.getElem?_map, hr] at e1
      cases e1
      exact e2
    refine ⟨p, vs, rows, rfl, .inl (.inl h1), hlen, fun i x r hx hr => ?_, fun ys out q hl hy pm so hq => hk q _ _ hq (reps_at (by rw [hl]; exact (List.length_map ..).symm) fun i v u e1 e2 => ?_) (hg out pm so)⟩
    · have := hrep i x r hx hr
      unfold rowU at this
      cases this with
      | tup hp rs =>
        cases rs with
        | cons a rs => cases rs with
          | cons b rs => cases rs with
            | cons c rs => cases rs; cases a; cases b; cases c; exact ⟨_, rfl, Same.seqT P.sub hp⟩
    · unfold rowsU at e2
      rw [List.getElem?_map] at e2
      cases e3 : out[i]? with
      | none => rw [e3] at e2; cases e2
      | some r =>
        rw [e3] at e2; cases e2
        obtain ⟨j, j1, j2⟩ := hy i v r e1 e3
        exact hrep j v r j1 j2
  · exact hg.elim
theorem k_sortR {X : Cx} {c : Uc} (ft : Fit c X) : CallR X (.builtin "sorted") (rSortedR c.W.K) := ft.K.symm ▸ cr_sortedR
end UL

namespace UL
open PySem PySem.Spec PyProof.Rows L2 RowS
/-! ### what the program's checks say, as data -/
abbrev Flt := Option (Str × List (Str × U))
def rz (o : Flt) (ex : Str → List (Str × U) → Prop) (κ : Prop) : Prop := match o with
  | none => κ
  | some e => ex e.1 e.2
theorem rz_or {a b : Flt} {ex : Str → List (Str × U) → Prop} {κ : Prop} (h : rz (a.or b) ex κ) : rz a ex (rz b ex κ) := by cases a <;> exact h
theorem rz_imp {a : Flt} {ex : Str → List (Str × U) → Prop} {κ κ' : Prop} (h : rz a ex κ) (k : κ → κ') : rz a ex κ' := by
  cases a with
  | none => exact k h
  | some _ => exact h
def isL (c : Nat) : Bool := decide (c ∈ (Str.ofString "abcdefghijklmnopqrstuvwxyz").cps.toList)
def isLD (c : Nat) : Bool := decide (c ∈ (Str.ofString "abcdefghijklmnopqrstuvwxyz0123456789").cps.toList)
/-- a name -/
def isNm (z : Str) : Bool := match z.cps.toList with
  | [] => false
  | c :: cs => decide (cs.length + 1 ≤ 8) && (isL c && (c :: cs).all isLD)
theorem isNm_len {z : Str} (h : isNm z = true) : z.length ≤ 8 := by
  have hlen : z.length = z.cps.toList.length := (Array.length_toList ..).symm
  unfold isNm at h
  split at h
  · cases h
  · rename_i c cs e
    rw [Bool.and_eq_true] at h
    have := of_decide_eq_true h.1
    rw [hlen, e]; exact this
def fE (cn : Str) (z : Str) : Str × List (Str × U) := (cn, [("name", .str z)])
def fNames (zs : List Str) : Flt := (zs.find? fun z => !isNm z).map (fE "BadName")
def fMany (w : Str) (n lim : Int) : Flt := if n > lim then some ("TooMany", [("limit", .int lim), ("count", .int n), ("what", .str w)]) else none
def rep1 : List Str → List Str → Option Str
  | _, [] => none
  | seen, z :: zs => if z ∈ seen then some z else rep1 (seen ++ [z]) zs
def fRep (zs : List Str) : Flt := (rep1 [] zs).map (fE "Duplicate")
def fIn (known zs : List Str) (cn : Str) : Flt := (zs.find? fun z => !decide (z ∈ known)).map (fE cn)
def texts3 (r : K3) : List Str := [r.1, r.2.1, r.2.2]
def ends2 (r : K3) : List Str := [r.2.1, r.2.2]
def netFlt (home : Str) (hs : List Str) (rows : List K3) : Flt :=
  (fNames (home :: hs)).or ((fNames (rows.flatMap texts3)).or ((fMany "houses" (hs.length + 1 : Nat) 12).or ((fMany "lines" rows.length 30).or
    ((fRep (home :: hs)).or ((fRep (rows.map (·.1))).or (fIn (home :: hs) (rows.flatMap ends2) "UnknownHouse"))))))
def strU : U → Str
  | .str z => z
  | _ => ⟨#[]⟩
theorem find_txs {p : Str → Bool} : ∀ zs : List Str, (txs zs).find? (fun u => p (strU u)) = (zs.find? p).map U.str
  | [] => rfl
  | z :: zs => by
    show (U.str z :: txs zs).find? _ = _
    rw [List.find?_cons, List.find?_cons, find_txs zs]
    show (match p z with | true => _ | false => _) = _
    cases p z <;> rfl
theorem mem_txs {zs : List Str} {u : U} (h : u ∈ txs zs) : ∃ z ∈ zs, u = .str z := by
  unfold txs at h
  obtain ⟨z, hz, e⟩ := List.mem_map.mp h
  exact ⟨z, hz, e.symm⟩
theorem lst_star {m n : UM} {ex : XC} {env : List Slot} {a : U} {xs : List U} {k : List U → List Slot → Prop} (hm : ∀ κ : Y → List Slot → Prop, κ (.val a) env → m ex env κ) (hn : ∀ κ : Y → List Slot → Prop, κ (.val (.lst xs)) env → n ex env κ)
    (hl : xs.length + 1 ≤ 1000000) (h : k (a :: xs) env) : fLst (uCons m (uStar n uNil)) ex env k := by
  have vals : ∀ (us : List U) (κ : List U → List Slot → Prop), κ us env → pins env (us.map Y.val ++ []) κ := by
    intro us
    induction us with
    | nil => intro κ h; exact h
    | cons u us ih => intro κ h; exact ih _ h
  refine hm _ (hn _ ?_)
  show pins env (xs.map Y.val ++ []) _
  exact vals xs _ ⟨hl, h⟩
theorem inU_txs {z : Str} : ∀ {zs : List Str}, inU (.str z) (txs zs) = decide (z ∈ zs)
  | [] => by simp [inU, txs]
  | y :: zs => by
    have ih := inU_txs (z := z) (zs := zs)
    unfold inU txs at ih ⊢
    rw [List.map_cons, List.any_cons, ih]
    have e : eqU (.str y) (.str z) = decide (y = z) := rfl
    rw [e]
    by_cases h : y = z
    · subst h; simp
    · have h' : ¬ z = y := fun e => h e.symm
      simp [h, h']
theorem flat_txs (zs : List Str) : (txs zs).all flatU = true := by
  unfold txs
  rw [List.all_map, List.all_eq_true]
  intro z _; rfl
theorem cut_to (us : List U) (i : Nat) : cutU us none (some (i : Int)) = us.take i := by
  unfold cutU
  rw [HT.sIx_nat, HT.sIx_none, List.drop_zero, Nat.sub_zero]
  by_cases h : i ≤ us.length
  · rw [Nat.min_eq_left h]
  · rw [Nat.min_eq_right (by omega), List.take_length, List.take_of_length_le (by omega)]
theorem cut_from (us : List U) (i : Nat) (h : i ≤ us.length) : cutU us (some (i : Int)) none = us.drop i := by
  unfold cutU
  rw [HT.sIx_nat, HT.sIx_none, Nat.min_eq_left h, List.take_of_length_le (by rw [List.length_drop]; omega)]
theorem txs_take (zs : List Str) (i : Nat) : (txs zs).take i = txs (zs.take i) := by
  unfold txs; rw [List.map_take]
/-- the walk over the places and texts that looks for a repeat -/
def repP (zs : List Str) : U → Bool
  | .tup [.int i, .str z] => decide (z ∈ zs.take i.toNat)
  | _ => false
def sndU : U → Str
  | .tup [_, .str z] => z
  | _ => ⟨#[]⟩
theorem rep_find {zs : List Str} : ∀ {pre rest : List Str}, zs = pre ++ rest → ((((txs rest).zipIdx pre.length).map fun p => U.tup [.int (p.2 : Nat), p.1]).find? (repP zs)).map sndU = rep1 pre rest
  | pre, [], _ => rfl
  | pre, z :: rest, h => by
    show ((((U.str z :: txs rest).zipIdx pre.length).map fun p => U.tup [.int (p.2 : Nat), p.1]).find? (repP zs)).map sndU = rep1 pre (z :: rest)
    have ih := rep_find (zs := zs) (pre := pre ++ [z]) (rest := rest) (by rw [h]; simp)
    rw [List.length_append, List.length_singleton] at ih
    rw [List.zipIdx_cons, List.map_cons, List.find?_cons]
    have e : repP zs (U.tup [.int ((pre.length : Nat) : Int), .str z]) = decide (z ∈ pre) := by
      show decide (z ∈ zs.take ((pre.length : Nat) : Int).toNat) = _
      rw [Int.toNat_natCast, h, List.take_left]
    unfold rep1
    show Option.map sndU (match repP zs (U.tup [.int ((pre.length : Nat) : Int), .str z]) with | true => _ | false => _) = _
    rw [e]
    by_cases hz : z ∈ pre
    · rw [if_pos hz, decide_eq_true hz]; rfl
    · rw [if_neg hz, decide_eq_false hz]; exact ih
theorem mem_enum {zs : List Str} {u : U} {i : Nat} (h : (enumU (txs zs))[i]? = some u) : ∃ z, zs[i]? = some z ∧ u = .tup [.int (i : Nat), .str z] := by
  unfold enumU at h
  rw [List.getElem?_map, List.getElem?_zipIdx, Nat.zero_add] at h
  cases e : (txs zs)[i]? with
  | none => rw [e] at h; cases h
  | some v =>
    rw [e] at h; cases h
    obtain ⟨z, h1, h2⟩ := txs_get e
    subst h2
    exact ⟨z, h1, rfl⟩
theorem find_rep {zs : List Str} : ((enumU (txs zs)).find? (repP zs)).map sndU = rep1 [] zs := rep_find (pre := []) rfl
def itemsU : U → List U
  | .tup us => us
  | .lst us => us
  | _ => []
theorem mem_rows {rows : List K3} {u : U} (h : u ∈ rowsU rows) : ∃ r ∈ rows, u = rowU r := by
  unfold rowsU at h
  obtain ⟨r, hr, e⟩ := List.mem_map.mp h
  exact ⟨r, hr, e.symm⟩
theorem rows_texts : ∀ rows : List K3, (rowsU rows).flatMap itemsU = txs (rows.flatMap texts3)
  | [] => rfl
  | r :: rows => by
    show (rowU r :: rowsU rows).flatMap itemsU = _
    rw [List.flatMap_cons, rows_texts rows, List.flatMap_cons]
    show _ = (texts3 r ++ rows.flatMap texts3).map U.str
    rw [List.map_append]; rfl
theorem rows_ends : ∀ rows : List K3, (rowsU rows).flatMap (fun u => (itemsU u).drop 1) = txs (rows.flatMap ends2)
  | [] => rfl
  | r :: rows => by
    show (rowU r :: rowsU rows).flatMap (fun u => (itemsU u).drop 1) = _
    rw [List.flatMap_cons, rows_ends rows, List.flatMap_cons]
    show _ = (ends2 r ++ rows.flatMap ends2).map U.str
    rw [List.map_append]; rfl
theorem texts3_length : ∀ rows : List K3, (rows.flatMap texts3).length = 3 * rows.length
  | [] => rfl
  | r :: rows => by rw [List.flatMap_cons, List.length_append, texts3_length rows, List.length_cons]; show 3 + _ = _; omega
theorem ends2_length : ∀ rows : List K3, (rows.flatMap ends2).length = 2 * rows.length
  | [] => rfl
  | r :: rows => by rw [List.flatMap_cons, List.length_append, ends2_length rows, List.length_cons]; show 2 + _ = _; omega
theorem rows_names (rows : List K3) : (rowsU rows).map (fun u => (itemsU u).headD .non) = txs (rows.map (·.1)) := by
  unfold rowsU txs
  rw [List.map_map, List.map_map]; rfl
theorem rowsU_length (rows : List K3) : (rowsU rows).length = rows.length := List.length_map ..
end UL

namespace UL
open PySem PySem.Spec PyProof.Rows L2 RowS
theorem or_none {α : Type} {a b : Option α} (h : a.or b = none) : a = none ∧ b = none := by
  cases a with
  | none => exact ⟨rfl, h⟩
  | some x => cases h
theorem fNames_none {zs : List Str} (h : fNames zs = none) : ∀ z ∈ zs, isNm z = true := fun z hz => by
  unfold fNames at h
  rw [Option.map_eq_none_iff, List.find?_eq_none] at h
  have := h z hz
  simpa using this
theorem rep1_none : ∀ {zs seen : List Str}, rep1 seen zs = none → (∀ z ∈ zs, z ∉ seen) ∧ zs.Nodup
  | [], _, _ => ⟨fun _ h => (by cases h), List.nodup_nil⟩
  | z :: zs, seen, h => by
    unfold rep1 at h
    by_cases hz : z ∈ seen
    · rw [if_pos hz] at h; cases h
    · rw [if_neg hz] at h
      obtain ⟨h1, h2⟩ := rep1_none h
      refine ⟨fun y hy => ?_, List.nodup_cons.mpr ⟨fun m => ?_, h2⟩⟩
      · rcases List.mem_cons.mp hy with e | hy
        · rw [e]; exact hz
        · exact fun m => h1 y hy (List.mem_append.mpr (.inl m))
      · exact h1 z m (List.mem_append.mpr (.inr (List.mem_singleton.mpr rfl)))
theorem fRep_none {zs : List Str} (h : fRep zs = none) : zs.Nodup := by
  unfold fRep at h
  rw [Option.map_eq_none_iff] at h
  exact (rep1_none h).2
theorem fMany_none {w : Str} {n lim : Int} (h : fMany w n lim = none) : n ≤ lim := by
  unfold fMany at h
  by_cases e : n > lim
  · rw [if_pos e] at h; cases h
  · omega
theorem fIn_none {known zs : List Str} {cn : Str} (h : fIn known zs cn = none) : ∀ z ∈ zs, z ∈ known := fun z hz => by
  unfold fIn at h
  rw [Option.map_eq_none_iff, List.find?_eq_none] at h
  have := h z hz
  simpa using this
structure Good (home : Str) (hs : List Str) (rows : List K3) : Prop where
  nmH : ∀ z ∈ home :: hs, isNm z = true
  nmR : ∀ z ∈ rows.flatMap texts3, isNm z = true
  nH : hs.length + 1 ≤ 12
  nR : rows.length ≤ 30
  ndH : (home :: hs).Nodup
  ndR : (rows.map (·.1)).Nodup
  ends : ∀ z ∈ rows.flatMap ends2, z ∈ home :: hs
theorem good_of {home : Str} {hs : List Str} {rows : List K3} (h : netFlt home hs rows = none) : Good home hs rows := by
  unfold netFlt at h
  obtain ⟨h1, h⟩ := or_none h
  obtain ⟨h2, h⟩ := or_none h
  obtain ⟨h3, h⟩ := or_none h
  obtain ⟨h4, h⟩ := or_none h
  obtain ⟨h5, h⟩ := or_none h
  obtain ⟨h6, h7⟩ := or_none h
  have a3 := fMany_none h3
  have a4 := fMany_none h4
  exact ⟨fNames_none h1, fNames_none h2, by omega, by omega, fRep_none h5, fRep_none h6, fIn_none h7⟩
/-! dicts -/
theorem valU_nil (k : L2.Key) : valU [] k = none := rfl
theorem valU_cons (k k' : L2.Key) (v : U) (ks : List (L2.Key × U)) : valU ((k, v) :: ks) k' = if k = k' then some v else valU ks k' := by
  by_cases h : k = k'
  · simp [valU, List.find?_cons, h]
  · simp [valU, List.find?_cons, h]
theorem valU_put (k k' : L2.Key) (v : U) (ks : List (L2.Key × U)) : valU (putD ks k v) k' = if k' = k then some v else valU ks k' := by
  have app : ∀ l : List (L2.Key × U), valU (l ++ [(k, v)]) k' = (valU l k').or (if k' = k then some v else none) := by
    intro l
    induction l with
    | nil =>
      rw [List.nil_append, valU_cons, valU_nil]
      by_cases h : k = k'
      · rw [if_pos h, if_pos h.symm]; rfl
      · rw [if_neg h, if_neg fun z => h z.symm]; rfl
    | cons kv l ih =>
      obtain ⟨k2, w⟩ := kv
      rw [List.cons_append, valU_cons, valU_cons, ih]
      by_cases h : k2 = k'
      · rw [if_pos h, if_pos h]; rfl
      · rw [if_neg h, if_neg h]
  have mp : ∀ l : List (L2.Key × U), valU (l.map fun kv => if kv.1 = k then (kv.1, v) else kv) k' = if k' = k then (valU l k').map (fun _ => v) else valU l k' := by
    intro l
    induction l with
    | nil => rw [List.map_nil, valU_nil]; split <;> rfl
    | cons kv l ih =>
      obtain ⟨k2, w⟩ := kv
      rw [List.map_cons]
      by_cases h2 : k2 = k
      · rw [if_pos h2, valU_cons, ih, valU_cons]
        by_cases h : k2 = k'
        · rw [if_pos h, if_pos h, if_pos (by rw [← h, h2])]; rfl
        · rw [if_neg h, if_neg h]
      · rw [if_neg h2, valU_cons, ih, valU_cons]
        by_cases h : k2 = k'
        · have : ¬ k' = k := fun z => h2 (h.trans z)
          rw [if_pos h, if_pos h, if_neg this]
        · rw [if_neg h, if_neg h]
  unfold putD
  by_cases h : (ks.any fun kv => decide (kv.1 = k)) = true
  · rw [if_pos h, mp]
    by_cases e : k' = k
    · rw [if_pos e, if_pos e]
      subst e
      have : ∃ w, valU ks k' = some w := by
        obtain ⟨kv, hm, he⟩ := List.any_eq_true.mp h
        cases q : ks.find? fun kv => decide (kv.1 = k') with
        | none => exact absurd he (List.find?_eq_none.mp q kv hm)
        | some x => exact ⟨x.2, by unfold valU; rw [q]; rfl⟩
      obtain ⟨w, hw⟩ := this
      rw [hw]; rfl
    · rw [if_neg e, if_neg e]
  · rw [if_neg h, app]
    by_cases e : k' = k
    · subst e
      have : valU ks k' = none := by
        unfold valU
        rw [Option.map_eq_none_iff, List.find?_eq_none]
        intro x hx he
        exact h (List.any_eq_true.mpr ⟨x, hx, he⟩)
      rw [this, if_pos rfl]; rfl
    · rw [if_neg e, if_neg e]
      cases valU ks k' <;> rfl
/-- a dict made of a walk whose keys are all different -/
theorem valU_fold {α : Type} (mk : α → U) (kf : α → L2.Key) (vf : α → U) {F : U → Option (L2.Key × U)} (hF : ∀ a, F (mk a) = some (kf a, vf a)) (k : L2.Key) : ∀ (as : List α) (acc : List (L2.Key × U)), (as.map kf).Nodup →
    valU (dcFold F (as.map mk) acc) k = ((as.find? fun a => decide (kf a = k)).map vf).or (valU acc k)
  | [], acc, _ => by rw [List.map_nil, List.find?_nil]; rfl
  | a :: as, acc, nd => by
    rw [List.map_cons] at nd
    obtain ⟨n1, n2⟩ := List.nodup_cons.mp nd
    rw [List.map_cons]
    show valU (dcFold F (as.map mk) (match F (mk a) with | some (key, v) => putD acc key v | none => acc)) k = _
    rw [hF a]
    show valU (dcFold F (as.map mk) (putD acc (kf a) (vf a))) k = _
    rw [valU_fold mk kf vf hF k as _ n2, valU_put, List.find?_cons]
    by_cases h : kf a = k
    · have hn : (as.find? fun a => decide (kf a = k)) = none := by
        rw [List.find?_eq_none]
        intro b hb he
        exact n1 (by rw [h, ← of_decide_eq_true he]; exact List.mem_map_of_mem hb)
      rw [hn, decide_eq_true h, if_pos h.symm]; rfl
    · rw [decide_eq_false h, if_neg fun z => h z.symm]
theorem find_perm {α : Type} (kf : α → Str) {l m : List α} (p : l.Perm m) (nd : (l.map kf).Nodup) (z : Str) : (l.find? fun a => decide (kf a = z)) = m.find? fun a => decide (kf a = z) := by
  have uniq : ∀ (l : List α), (l.map kf).Nodup → ∀ a ∈ l, kf a = z → (l.find? fun a => decide (kf a = z)) = some a := by
    intro l
    induction l with
    | nil => intro _ a h; cases h
    | cons b l ih =>
      intro nd a ha hk
      rw [List.map_cons] at nd
      obtain ⟨n1, n2⟩ := List.nodup_cons.mp nd
      rw [List.find?_cons]
      rcases List.mem_cons.mp ha with e | ha
      · subst e; rw [decide_eq_true hk]
      · have : ¬ kf b = z := fun e => n1 (by rw [e, ← hk]; exact List.mem_map_of_mem ha)
        rw [decide_eq_false this]
        exact ih n2 a ha hk
  have nd' : (m.map kf).Nodup := (p.map kf).nodup_iff.mp nd
  cases q : m.find? fun a => decide (kf a = z) with
  | none =>
    rw [List.find?_eq_none] at q ⊢
    exact fun x hx => q x (p.mem_iff.mp hx)
  | some a =>
    have ha := List.mem_of_find?_eq_some q
    have hk : kf a = z := by
      have := List.find?_some q
      simpa using this
    exact uniq l nd a (p.mem_iff.mpr ha) hk
theorem putU_len {f : Str} {u : U} : ∀ {fs : List (Str × U)} {n : Nat}, fs.length ≤ n → (putU f u fs).length ≤ n + 1
  | [], n, _ => by show 1 ≤ _; omega
  | (k, w) :: r, n, h => by
    unfold putU
    rw [List.length_cons] at h
    split
    · rw [List.length_cons]; omega
    · rw [List.length_cons]
      have := putU_len (f := f) (u := u) (fs := r) (n := n - 1) (by omega)
      omega
theorem put_lt {fs : List (Str × U)} {n : Nat} (h : fs.length ≤ n) (k : n < 900) : fs.length < 900 := by omega
theorem put_get {f f' : Str} {u : U} : ∀ {fs : List (Str × U)}, (putU f u fs).lookup f' = if f' = f then some u else fs.lookup f'
  | [] => by
    unfold putU
    rw [List.lookup_cons, List.lookup_nil]
    by_cases h : f' = f
    · rw [if_pos h, beq_iff_eq.mpr h]
    · rw [if_neg h, beq_false_of_ne h]
  | (k, w) :: r => by
    unfold putU
    by_cases hk : k = f
    · rw [if_pos hk, List.lookup_cons, List.lookup_cons]
      by_cases h : f' = f
      · rw [if_pos h, beq_iff_eq.mpr h]
      · have h2 : ¬ f' = k := fun z => h (z.trans hk)
        rw [if_neg h, beq_false_of_ne h, beq_false_of_ne h2]
    · rw [if_neg hk, List.lookup_cons, List.lookup_cons, put_get]
      by_cases h : f' = k
      · have h2 : ¬ f' = f := fun z => hk (h.symm.trans z)
        rw [beq_iff_eq.mpr h]
        simp only [h2, if_false]
      · rw [beq_false_of_ne h]
def rowF (u : U) : Option (L2.Key × U) := match itemsU u with
  | [.str n, t, h] => some (.inr n, .tup [t, h])
  | _ => none
theorem rows_dict (rows : List K3) (nd : (rows.map (·.1)).Nodup) (z : Str) : valU (dcFold rowF (rowsU rows) []) (.inr z) = (rows.find? fun r => decide (r.1 = z)).map fun r => U.tup [.str r.2.1, .str r.2.2] := by
  have nd' : (rows.map fun r => (Sum.inr r.1 : L2.Key)).Nodup := by
    have : rows.map (fun r => (Sum.inr r.1 : L2.Key)) = (rows.map (·.1)).map Sum.inr := by rw [List.map_map]; rfl
    rw [this]
    exact List.pairwise_map.mpr (nd.imp fun h z => h (Sum.inr.inj z))
  have := valU_fold (α := K3) rowU (fun r => (Sum.inr r.1 : L2.Key)) (fun r => U.tup [.str r.2.1, .str r.2.2]) (F := rowF) (fun r => rfl) (.inr z) rows [] nd'
  unfold rowsU
  rw [this, valU_nil, Option.or_none]
  congr 1
  congr 1
  funext r
  exact decide_eq_decide.mpr ⟨fun e => Sum.inr.inj e, fun e => congrArg _ e⟩
def houF (g : Str → U) (u : U) : Option (L2.Key × U) := match u with
  | .str z => some (.inr z, g z)
  | _ => none
theorem hou_dict (g : Str → U) (HS : List Str) (nd : HS.Nodup) (z : Str) : valU (dcFold (houF g) (txs HS) []) (.inr z) = if z ∈ HS then some (g z) else none := by
  have nd' : (HS.map fun r => (Sum.inr r : L2.Key)).Nodup := List.pairwise_map.mpr (nd.imp fun h z => h (Sum.inr.inj z))
  have := valU_fold (α := Str) U.str (fun r => (Sum.inr r : L2.Key)) g (F := houF g) (fun r => rfl) (.inr z) HS [] nd'
  unfold txs
  rw [this, valU_nil, Option.or_none]
  by_cases h : z ∈ HS
  · rw [if_pos h]
    cases q : HS.find? fun a => decide ((Sum.inr a : L2.Key) = .inr z) with
    | none =>
      rw [List.find?_eq_none] at q
      exact absurd (decide_eq_true rfl) (q z h)
    | some y =>
      have := List.find?_some q
      have e : y = z := by simpa using this
      rw [e]; rfl
  · rw [if_neg h]
    cases q : HS.find? fun a => decide ((Sum.inr a : L2.Key) = .inr z) with
    | none => rfl
    | some y =>
      have := List.find?_some q
      have e : y = z := by simpa using this
      exact absurd (e ▸ List.mem_of_find?_eq_some q) h
/-- the rows picked by a place of theirs -/
def pickF (j : Nat) (z : Str) (u : U) : Option U := if (itemsU u)[j]? = none then none else match (itemsU u)[j]? with
  | some (.str y) => if y = z then some ((itemsU u).headD .non) else none
  | _ => none
theorem pick_rows {f : K3 → Str} {j : Nat} (hj : ∀ r, (itemsU (rowU r))[j]? = some (.str (f r))) (z : Str) : ∀ RS : List K3, (rowsU RS).filterMap (pickF j z) = txs ((RS.filter fun r => decide (f r = z)).map (·.1))
  | [] => rfl
  | r :: RS => by
    show (rowU r :: rowsU RS).filterMap (pickF j z) = _
    rw [List.filterMap_cons, pick_rows hj z RS]
    have e : pickF j z (rowU r) = if f r = z then some (.str r.1) else none := by
      unfold pickF
      rw [hj r]; rfl
    rw [e, List.filter_cons]
    by_cases h : f r = z
    · rw [if_pos h, decide_eq_true h]; rfl
    · rw [if_neg h, decide_eq_false h]; rfl
theorem pick1 (z : Str) (r : K3) : pickF 1 z (rowU r) = if r.2.1 = z then some (.str r.1) else none := rfl
theorem pick2 (z : Str) (r : K3) : pickF 2 z (rowU r) = if r.2.2 = z then some (.str r.1) else none := rfl
theorem filt_txs (p : Str → Bool) : ∀ zs : List Str, (txs zs).filterMap (fun u => if p (strU u) = true then some u else none) = txs (zs.filter p)
  | [] => rfl
  | z :: zs => by
    show (U.str z :: txs zs).filterMap _ = _
    rw [List.filterMap_cons, filt_txs p zs, List.filter_cons]
    have e : strU (U.str z) = z := rfl
    rw [e]
    cases h : p z <;> rfl
end UL

namespace UL
open PySem PySem.Spec PyProof.Rows L2 RowS
/-! ### deep equality of lists of texts -/
abbrev okS (z : Str) : Prop := PyData.canLay0 (.str z) = true
theorem toPys_txs : ∀ zs : List Str, toPys (txs zs) = some (zs.map PyData.str)
  | [] => rfl
  | z :: zs => by
    show toPys (U.str z :: txs zs) = _
    unfold toPys
    rw [toPys_txs zs]; rfl
theorem toPy_txs (zs : List Str) : toPy (.lst (txs zs)) = some (.list (zs.map PyData.str)) := by
  unfold toPy
  rw [toPys_txs]; rfl
theorem can_txs : ∀ zs : List Str, (∀ z ∈ zs, okS z) → PyData.canLayAll0 (zs.map PyData.str) = true
  | [], _ => by simp [PyData.canLayAll0]
  | z :: zs, h => by
    rw [List.map_cons, PyData.canLayAll0, can_txs zs fun y hy => h y (List.mem_cons_of_mem _ hy), h z (List.mem_cons_self ..)]
    rfl
theorem depth_txs : ∀ zs : List Str, PyData.depthAll (zs.map PyData.str) = 0
  | [] => by simp [PyData.depthAll]
  | z :: zs => by
    rw [List.map_cons, PyData.depthAll, depth_txs zs]
    simp [PyData.depth]
theorem shaped_txs {zs : List Str} (h : ∀ z ∈ zs, okS z) : SeqAt.shaped (.list (zs.map PyData.str)) = true := by
  unfold SeqAt.shaped
  rw [Bool.and_eq_true]
  refine ⟨?_, decide_eq_true ?_⟩
  · rw [PyData.canLay0]; exact can_txs zs h
  · rw [PyData.depth, depth_txs]; decide
theorem eqv_txs : ∀ xs ys : List Str, PyData.eqvAll (xs.map PyData.str) (ys.map PyData.str) = decide (xs = ys)
  | [], [] => by simp [PyData.eqvAll]
  | [], y :: ys => by simp [PyData.eqvAll]
  | x :: xs, [] => by simp [PyData.eqvAll]
  | x :: xs, y :: ys => by
    rw [List.map_cons, List.map_cons, PyData.eqvAll, eqv_txs xs ys, PyData.eqv]
    by_cases h : x = y
    · subst h; simp
    · simp [h, beq_false_of_ne h]
/-- a walk that raises what is found first -/
theorem for_fs {us : List U} {n : (Nat → List Slot → Prop) → Nat → U → List Slot → Prop} {σ : Type} {s0 : σ} {nx : List Slot → Prop} {ex : Str → List (Str × U) → Prop} (f : U → Flt) (env : σ → List Slot)
    (h : rz (us.findSome? f) ex (∀ s, nx (env s))) (hs : ∀ I i u s, u ∈ us → us[i]? = some u → rz (f u) ex (∀ s', I (i + 1) (env s')) → n I i u (env s)) :
    ∃ I : Nat → List Slot → Prop, I 0 (env s0) ∧ (∀ (i : Nat) u env', us[i]? = some u → I i env' → n I i u env') ∧ ∀ env', I us.length env' → nx env' := by
  have first : ∀ (us : List U) (i : Nat) u e, (∀ j y, j < i → us[j]? = some y → f y = none) → us[i]? = some u → f u = some e → us.findSome? f = some e := by
    intro us
    induction us with
    | nil => intro i u e _ h _; simp at h
    | cons v us ih =>
      intro i u e hn hu he
      cases i with
      | zero => simp at hu; subst hu; rw [List.findSome?_cons, he]
      | succ i =>
        have h0 := hn 0 v (Nat.zero_lt_succ _) rfl
        rw [List.findSome?_cons, h0]
        exact ih i u e (fun j y hj e => hn (j + 1) y (Nat.succ_lt_succ hj) (by simpa using e)) (by simpa using hu) he
  refine ⟨fun i e => (∃ s, e = env s) ∧ ∀ j y, j < i → us[j]? = some y → f y = none, ⟨⟨s0, rfl⟩, fun _ _ h => absurd h (Nat.not_lt_zero _)⟩, ?_, ?_⟩
  · rintro i u env' hu ⟨⟨s, rfl⟩, hb⟩
    refine hs _ i u s (List.mem_of_getElem? hu) hu ?_
    cases q : f u with
    | none =>
      intro s'
      refine ⟨⟨s', rfl⟩, fun j y hj e => ?_⟩
      rcases Nat.lt_succ_iff_lt_or_eq.mp hj with h | h
      · exact hb j y h e
      · subst h; rw [hu] at e; cases e; exact q
    | some e =>
      rw [first us i u e hb hu q] at h
      exact h
  · rintro env' ⟨⟨s, rfl⟩, hb⟩
    have : us.findSome? f = none := by
      rw [List.findSome?_eq_none_iff]
      intro x hx
      obtain ⟨j, hj, e⟩ := List.mem_iff_getElem.mp hx
      exact hb j x hj (by rw [List.getElem?_eq_getElem hj, e])
    rw [this] at h
    exact h s
/-! ### lots -/
def lotsU (lots : List (List Str)) : List U := lots.map fun l => .lst (txs l)
def fLot (home : Str) (l : List Str) : Flt := if l = [] then some ("BadLot", [("name", .non)]) else if home ∈ l then some ("BadLot", [("name", .str home)]) else none
def lotsFlt (home : Str) (HS : List Str) (lots : List (List Str)) : Flt :=
  (lots.findSome? fRep).or ((lots.findSome? fun l => fIn HS l "UnknownHouse").or (lots.findSome? (fLot home)))
def txsOf : U → List Str
  | .lst us => us.map strU
  | _ => []
theorem txsOf_txs (l : List Str) : txsOf (.lst (txs l)) = l := by
  show (l.map U.str).map strU = l
  rw [List.map_map]
  exact List.map_id l
theorem mem_lots {lots : List (List Str)} {u : U} (h : u ∈ lotsU lots) : ∃ l ∈ lots, u = .lst (txs l) := by
  unfold lotsU at h
  obtain ⟨r, hr, e⟩ := List.mem_map.mp h
  exact ⟨r, hr, e.symm⟩
theorem fs_lots (f : List Str → Flt) : ∀ lots : List (List Str), (lotsU lots).findSome? (fun u => f (txsOf u)) = lots.findSome? f
  | [] => rfl
  | l :: lots => by
    show (U.lst (txs l) :: lotsU lots).findSome? _ = _
    rw [List.findSome?_cons, List.findSome?_cons, fs_lots f lots, txsOf_txs]
theorem fs_txs (f : Str → Flt) : ∀ zs : List Str, (txs zs).findSome? (fun u => f (strU u)) = zs.findSome? f
  | [] => rfl
  | l :: lots => by
    show (U.str l :: txs lots).findSome? _ = _
    rw [List.findSome?_cons, List.findSome?_cons, fs_txs f lots]; rfl
theorem find_fs (p : Str → Bool) (g : Str → Str × List (Str × U)) : ∀ zs : List Str, (zs.find? p).map g = zs.findSome? fun z => if p z = true then some (g z) else none
  | [] => rfl
  | z :: zs => by
    rw [List.find?_cons, List.findSome?_cons, ← find_fs p g zs]
    cases p z <;> rfl
def rowSel (p : K3 → Bool) (u : U) : Option U := match itemsU u with
  | [.str a, .str b, .str c] => if p (a, b, c) = true then some (.str a) else none
  | _ => none
theorem rowSel_row (p : K3 → Bool) (r : K3) : rowSel p (rowU r) = if p r = true then some (.str r.1) else none := rfl
theorem rowSel_rows (p : K3 → Bool) : ∀ RS : List K3, (rowsU RS).filterMap (rowSel p) = txs ((RS.filter p).map (·.1))
  | [] => rfl
  | r :: RS => by
    show (rowU r :: rowsU RS).filterMap (rowSel p) = _
    rw [List.filterMap_cons, rowSel_rows p RS, rowSel_row, List.filter_cons]
    cases p r <;> rfl
end UL

namespace UL
open PySem PySem.Spec PyProof.Rows L2
/-! ### typed forms of the readings' values -/
theorem atI_cast {α : Type} (xs : List α) (n : Nat) : atI xs (n : Int) = xs[n]? := by
  unfold atI ixN
  by_cases h : n < xs.length
  · rw [if_pos (by omega), if_pos (by omega)]; rfl
  · rw [if_pos (by omega), if_neg (by omega), List.getElem?_eq_none (by omega)]; rfl
theorem atI_pos {α : Type} (xs : List α) {i : Int} (h : 0 ≤ i) : atI xs i = xs[i.toNat]? := by
  obtain ⟨n, rfl⟩ := Int.eq_ofNat_of_zero_le h
  exact atI_cast xs n
theorem atI_zero {α : Type} (xs : List α) : atI xs 0 = xs[0]? := atI_cast xs 0
theorem atI_lit {α : Type} (xs : List α) (n : Nat) : atI xs (OfNat.ofNat n : Int) = xs[n]? := atI_cast xs n
theorem atI_one {α : Type} (xs : List α) : atI xs 1 = xs[1]? := atI_cast xs 1
theorem atI_map {α β : Type} (f : α → β) (xs : List α) (i : Int) : atI (xs.map f) i = (atI xs i).map f := by
  unfold atI
  rw [List.length_map]
  cases ixN xs.length i with
  | none => rfl
  | some j => show (xs.map f)[j]? = (xs[j]?).map f; rw [List.getElem?_map]
theorem atI_some {α : Type} {xs : List α} {i : Int} (h0 : 0 ≤ i) (h1 : i < xs.length) : ∃ x ∈ xs, atI xs i = some x := by
  rw [atI_pos xs h0]
  exact ⟨xs[i.toNat], List.getElem_mem _, List.getElem?_eq_getElem (by omega)⟩
theorem sIx_pos (n d : Nat) {i : Int} (h : 0 ≤ i) : HT.sIx n d (some i) = min i.toNat n := by
  obtain ⟨k, rfl⟩ := Int.eq_ofNat_of_zero_le h
  exact HT.sIx_nat n d k
theorem cutU_to (us : List U) {i : Int} (h : 0 ≤ i) : cutU us none (some i) = us.take i.toNat := by
  unfold cutU
  rw [sIx_pos _ _ h, HT.sIx_none, List.drop_zero, Nat.sub_zero, List.take_eq_take_iff]; omega
theorem cutU_from (us : List U) {i : Int} (h : 0 ≤ i) : cutU us (some i) none = us.drop i.toNat := by
  unfold cutU
  rw [sIx_pos _ _ h, HT.sIx_none]
  by_cases hl : i.toNat ≤ us.length
  · rw [Nat.min_eq_left hl, List.take_of_length_le (by rw [List.length_drop]; omega)]
  · rw [Nat.min_eq_right (by omega), List.drop_eq_nil_of_le (Nat.le_refl _), List.drop_eq_nil_of_le (by omega), List.take_nil]
theorem cutU_all (us : List U) : cutU us none none = us := by
  unfold cutU
  rw [HT.sIx_none, HT.sIx_none, List.drop_zero, Nat.sub_zero, List.take_length]
theorem cutU_mid (us : List U) {i j : Int} (h : 0 ≤ i) (h' : 0 ≤ j) : cutU us (some i) (some j) = (us.take j.toNat).drop i.toNat := by
  unfold cutU
  rw [sIx_pos _ _ h, sIx_pos _ _ h', List.drop_take]
  by_cases hl : i.toNat ≤ us.length
  · rw [Nat.min_eq_left hl, List.take_eq_take_iff, List.length_drop]; omega
  · have e1 : us.drop (min i.toNat us.length) = [] := List.drop_eq_nil_of_le (by omega)
    have e2 : us.drop i.toNat = [] := List.drop_eq_nil_of_le (by omega)
    rw [e1, e2, List.take_nil, List.take_nil]
/-! texts as lists of signs -/
abbrev sg (z : Str) : List Nat := z.cps.toList
theorem sg_app (x y : Str) : sg (x ++ y) = sg x ++ sg y := by
  show (x ++ y).cps.toList = _
  rw [Str.cps_append, Array.toList_append]
theorem sg_len (z : Str) : z.length = (sg z).length := (Array.length_toList ..).symm
theorem sg_inj {x y : Str} (h : sg x = sg y) : x = y := by
  cases x; cases y; congr 1; exact Array.toList_inj.mp h
theorem sg_mk (xs : List Nat) : sg ⟨xs.toArray⟩ = xs := rfl
theorem sg_one (c : Nat) : sg ⟨#[c]⟩ = [c] := rfl
theorem len_app (x y : Str) : (x ++ y).length = x.length + y.length := by
  rw [sg_len, sg_len, sg_len, sg_app, List.length_append]
theorem len_one (c : Nat) : (⟨#[c]⟩ : Str).length = 1 := rfl
theorem sg_cut_to (z : Str) {i : Int} (h : 0 ≤ i) : sg (cutS z none (some i)) = (sg z).take i.toNat := by
  unfold cutS
  show ((z.cps.toList.drop _).take _) = _
  have q : z.length = z.cps.toList.length := sg_len z
  rw [sIx_pos _ _ h, HT.sIx_none, List.drop_zero, Nat.sub_zero, List.take_eq_take_iff]; omega
theorem sg_cut_from (z : Str) {i : Int} (h : 0 ≤ i) : sg (cutS z (some i) none) = (sg z).drop i.toNat := by
  unfold cutS
  show ((z.cps.toList.drop _).take _) = _
  rw [sIx_pos _ _ h, HT.sIx_none, sg_len]
  by_cases hl : i.toNat ≤ (sg z).length
  · rw [Nat.min_eq_left hl, List.take_of_length_le (by rw [List.length_drop]; exact Nat.le_refl _)]
  · have e1 : z.cps.toList.drop (min i.toNat (sg z).length) = [] := List.drop_eq_nil_of_le (by rw [Nat.min_eq_right (Nat.le_of_not_le hl)]; exact Nat.le_refl _)
    have e2 : z.cps.toList.drop i.toNat = [] := List.drop_eq_nil_of_le (Nat.le_of_not_le hl)
    rw [e1, e2, List.take_nil]
theorem len_cut_to (z : Str) {i : Int} (h : 0 ≤ i) : (cutS z none (some i)).length = min i.toNat z.length := by
  rw [sg_len, sg_cut_to z h, List.length_take, ← sg_len]
theorem len_cut_from (z : Str) {i : Int} (h : 0 ≤ i) : (cutS z (some i) none).length = z.length - i.toNat := by
  rw [sg_len, sg_cut_from z h, List.length_drop, ← sg_len]
/-! walks over a range -/
theorem rng_get {lo hi : Int} {i : Nat} {u : U} : (rng lo hi)[i]? = some u ↔ lo + i < hi ∧ u = .int (lo + i) := by
  unfold rng
  rw [List.getElem?_map]
  by_cases h : i < (hi - lo).toNat
  · rw [List.getElem?_range h]
    constructor
    · intro e; cases e; exact ⟨by omega, rfl⟩
    · rintro ⟨_, rfl⟩; rfl
  · rw [List.getElem?_eq_none (by rw [List.length_range]; omega)]
    constructor
    · intro e; cases e
    · rintro ⟨a, _⟩; omega
theorem rng_len (lo hi : Int) : (rng lo hi).length = (hi - lo).toNat := by
  unfold rng; rw [List.length_map, List.length_range]
theorem seqIx {i : Int} {n : Nat} (h0 : 0 ≤ i) (h1 : i < n) : seqIndex? i n = some i.toNat := by
  unfold seqIndex?
  have : ¬ i < 0 := by omega
  simp [this, h0, h1]
/-! typed forms -/
theorem txs_len (zs : List Str) : (txs zs).length = zs.length := List.length_map ..
theorem txs_at (zs : List Str) (i : Nat) : (txs zs)[i]? = (zs[i]?).map U.str := List.getElem?_map ..
theorem txs_app (xs ys : List Str) : txs xs ++ txs ys = txs (xs ++ ys) := (List.map_append ..).symm
theorem txs_drop (zs : List Str) (i : Nat) : (txs zs).drop i = txs (zs.drop i) := (List.map_drop ..).symm
theorem txs_tk (zs : List Str) (i : Nat) : (txs zs).take i = txs (zs.take i) := (List.map_take ..).symm
theorem txs_all {zs : List Str} {p : U → Prop} : (∀ x ∈ txs zs, p x) ↔ ∀ z ∈ zs, p (.str z) := List.forall_mem_map
theorem gIn_txs (neg : Bool) (z : Str) (zs : List Str) (κ : U → Prop) : gIn neg (.str z) (.lst (txs zs)) κ ↔ κ (.bl (if neg then !decide (z ∈ zs) else decide (z ∈ zs))) := by
  rw [← inU_txs]
  constructor
  · rintro ⟨_, _, h⟩; exact h
  · intro h; exact ⟨rfl, flat_txs zs, h⟩
theorem mem_pick {xs : List U} {k : U → Prop} (h : ∀ x ∈ xs, k x) {r : Int} (h0 : 0 ≤ r) (h1 : r < xs.length) : ∃ x, atI xs r = some x ∧ k x := by
  obtain ⟨x, hx, e⟩ := atI_some h0 h1
  exact ⟨x, e, h x hx⟩
theorem max_eq (i j : Int) : (if j > i then j else i) = max i j := by omega
theorem min_eq (i j : Int) : (if j < i then j else i) = min i j := by omega
/-- a for with its states told -/
theorem for_st {α σ : Type} (mk : α → U) (as : List α) (st : σ → List Slot) (J : Nat → σ → Prop) {mi : UI} {g : UG} {n : US} {d : UEnds} {env : List Slot} (s0 : σ)
    (hm : ∀ κ : List U → List Slot → Prop, κ (as.map mk) env → mi d.ex env κ) (h0 : env = st s0) (j0 : J 0 s0)
    (hs : ∀ (i : Nat) a s, as[i]? = some a → J i s → g (mk a) (st s) fun e => n { d with nx := fun e => ∃ s', e = st s' ∧ J (i + 1) s', ct := fun e => ∃ s', e = st s' ∧ J (i + 1) s', bk := d.nx } e)
    (hd : ∀ s, J as.length s → d.nx (st s)) : uFor mi g n d env :=
  hm _ ⟨fun i e => ∃ s, e = st s ∧ J i s, ⟨s0, h0, j0⟩, fun i u e hu ⟨s, he, hj⟩ => by
    rw [List.getElem?_map] at hu
    cases ha : as[i]? with
    | none => rw [ha] at hu; cases hu
    | some a => rw [ha] at hu; cases hu; subst he; exact hs i a s ha hj, fun e ⟨s, he, hj⟩ => by
    subst he; rw [List.length_map] at hj; exact hd s hj⟩
/-- for k in range(n) -/
theorem for_rng {σ : Type} (n : Int) (st : σ → List Slot) (J : Nat → σ → Prop) {mi : UI} {g : UG} {b : US} {d : UEnds} {env : List Slot} (s0 : σ)
    (hm : ∀ κ : List U → List Slot → Prop, κ (rng 0 n) env → mi d.ex env κ) (h0 : env = st s0) (j0 : J 0 s0)
    (hs : ∀ (i : Nat) s, (i : Int) < n → J i s → g (.int i) (st s) fun e => b { d with nx := fun e => ∃ s', e = st s' ∧ J (i + 1) s', ct := fun e => ∃ s', e = st s' ∧ J (i + 1) s', bk := d.nx } e)
    (hd : ∀ s, J n.toNat s → d.nx (st s)) : uFor mi g b d env :=
  hm _ ⟨fun i e => ∃ s, e = st s ∧ J i s, ⟨s0, h0, j0⟩, fun i u e hu ⟨s, he, hj⟩ => by
    rw [rng_get] at hu
    obtain ⟨h1, rfl⟩ := hu
    rw [Int.zero_add] at h1 ⊢
    subst he; exact hs i s h1 hj, fun e ⟨s, he, hj⟩ => by
    subst he; rw [rng_len] at hj; rw [show n - 0 = n by omega] at hj; exact hd s hj⟩
end UL

/-! an error that is handled: its class, its fields, handed to a def -/
namespace PySem.W
open PySem PySem.Spec PySem.Calls PyProof.Rows
section
variable {prog : Program} {w : World} {A : Around} {E : Value → Shared → Prop} {s : Shared} {K : Frag} {x D : Addr} {ox : Obj} {od : Option Obj}
/-- what a class of errors must say, so that its instances' class is read rightly -/
structure ErrC (K : Frag) (D : Addr) : Prop where
  base : L2.ExcC K D
theorem err_find (c : L2.ExcC K D) : findObj K D od "__class__" = some (.bind (.builtin "getset_descriptor.__get__") (.builtin "object.__class__")) := by
  obtain ⟨cd, e, _⟩ := any_some c.hd
  show ((clsIn K D).bind _) = _
  rw [e, Option.bind_some, c.ha, Option.bind_some]
  simp [c.hn, c.ht]
theorem err_class {Q : Option Value → Shared → Prop} (c : L2.ExcC K D) (X : K.In s.heap) (I : InstAt s.heap x ox D od)
    (h : Q (some (.ref D)) { s with toks := s.toks + 1 }) : wpAny (model prog w) A (getAttr? (.ref x) "__class__") Q E s := by
  obtain ⟨hh, gg, dd, tt, oo⟩ := s
  have F0 := I.type (M := model prog w)
  have F1 := looks_findIn (M := model prog w) X c.hg
  have F2 := looks_findIn (M := model prog w) X c.hk
  have F3 := looks_find (M := model prog w) X I (err_find c)
  have fs : Looks (model prog w) hh (isInstance (.ref x) (.type "BaseException")) true :=
    F0.andThen (looks_subIn X c.hs)
  have n1 : (Value.builtin "BaseException.__getattribute__" == .builtin "object.__getattribute__") = false := by
    decide +kernel
  unfold getAttr? getAttrBy? getAttrBy
  refine wpAny_bind (wpAny_mkText (wpAny_bind (wpAny_attempt ?_)))
  refine wpAny_holding (wpAny_bind (F0.at (wpAny_bind (F1.at ?_))))
  dsimp only
  rw [if_neg (by rw [n1, Bool.and_false]; exact Bool.false_ne_true)]
  unfold getAttrByItsOwn hookBefore
  refine wpAny_bind ?_
  rw [if_pos (by rfl)]
  refine F2.at (wpAny_bind (wpAny_attempt (wpAny_holding ?_)))
  unfold callGetattribute
  rw [if_neg (by intro z; cases z)]
  unfold boundAndCalled
  rw [PySem.F.excAttr_ValueError.ga.bind (.ref x)]
  refine wpAny_bind (wpAny_pure (wpAny_call (codeAny_call_builtin PySem.F.excAttr_ValueError.ga.plain PySem.F.entry_bexc_ga ?_)))
  refine @check_slot (model prog w) _ _ ⟨hh, gg, dd, tt + 1, oo⟩ "BaseException.__getattribute__" "BaseException" "__getattribute__"
    (.ref x) [.str "__class__" tt] [] _ (by decide +kernel) (by decide +kernel) fs (PySem.F.args_bexc_ga (.ref x) (.str "__class__" tt)) ?_
  unfold Builtin.«object.__getattribute__»
  refine wpAny_bind (wpAny_of_eq (a := ((Value.ref x : Value), [Value.str "__class__" tt])) (by first | rfl | (simp only [slotArgs]; rfl)) ?_)
  refine wpAny_bind (wpAny_pure (wpAny_bind (F0.at (wpAny_bind (F3.at ?_)))))
  refine wpAny_bind (wpAny_holding (wpAny_call (class_get (s := ⟨hh, gg, dd, tt + 1, oo⟩) X I c.hm ?_)))
  refine wpAny_pure (show wpAny (model prog w) A (handedOut (.ref D)) _ _ _ from ?_)
  rw [handedOut_of (v := .ref D) rfl]
  first
    | exact wpAny_pure (wpAny_pure h)
    | exact wpAny_pure h
    | exact wpAny_pure (wpAny_bind (wpAny_pure (wpAny_pure h)))
theorem err_ob (c : L2.ExcC K D) {hp : Heap} (X : K.In hp) : ∃ o cd, hp.get? D = some o ∧ o.data = .cls cd := by
  obtain ⟨cd, e, _⟩ := any_some c.hd
  unfold clsIn at e
  split at e
  · rename_i ho
    exact ⟨_, _, X _ _ ho, rfl⟩
  · cases e
theorem kit_err (c : L2.ExcC K D) : KitX K (.ref x) (.ref D) (fun hp => InstAt hp x ox D od) where
  ty := fun _ _ _ I => I.type
  it := fun _ _ X _ => by
    obtain ⟨⟨oc, odd, dat, sl⟩, cd, ho, rfl⟩ := err_ob c X
    intro _ _ _ _ k q
    unfold isType loadHead
    exact wpAny_bind (wpAny_loadPart (k _ _ ho) (wpAny_pure q))
  ne := fun hp tp _ _ _ _ X e => by
    obtain ⟨o, cd, ho, hd⟩ := err_ob c X
    by_cases q : D = tp
    · subst q
      rw [e] at ho
      cases ho
      cases hd
    · simp [q]
  ca := fun X I k => err_class c X I k
end
end PySem.W
namespace UL
open PySem PySem.Spec PyProof.Rows L2
/-- isinstance(e, c), e the error with the class D -/
def rErr (K : PySem.W.Frag) (D a : Addr) : List V → Hp → VK → Prop := fun xs H Q =>
  ∃ (t : V) (tv : Value) (b : Bool), xs = [.ref a, t] ∧ (∀ u, RelV t u → u = tv) ∧ PySem.W.kitOne K (.ref D) tv = some b ∧ Q (.bl b) H
section
variable {X : Cx} {a D : Addr} {oe : Obj} {cls : Value} {d : Option Addr}
theorem call_err (hp : (a, oe) ∈ X.pn) (c : ExcC X.K D) (hc : oe.cls = .ref D) (hf : ∃ vs, oe.data = .fields vs) (hk : ∀ s pins σ H, Inv X pins σ H s → ∃ od, PySem.W.InstAt s.heap a oe D od) :
    CallR X (.builtin "isinstance") (rErr X.K D a) := by
  intro pins s σ H xs us Q I r ⟨t, tv, b, e, ht, hb, q⟩
  subst e
  cases r with
  | cons rx rr =>
    cases rr with
    | cons rt rr =>
      cases rr
      cases rx
      obtain rfl := ht _ rt
      obtain ⟨od, J⟩ := hk s pins σ H I
      exact PySem.W.kia_one (PySem.W.kit_err c) I.kIn J hb (fun z => nomatch z) fun tk => ⟨.bl b, H, I.kept (t' := tk) fun _ _ z => z, rfl, q⟩
end
end UL

/-! defs that are called while an error is handled, the error among what they know -/
namespace UL
open PySem PySem.Spec PyProof.Rows L2
/-- p is an error of the class C with the own dict dd -/
structure ErrOb (p : Addr × Obj) (C dd : Addr) : Prop where
  cls : p.2.cls = .ref C
  dict : p.2.dict = some dd
  data : ∃ vs, p.2.data = .fields vs
theorem ErrOb.inst {X : Cx} {a C dd : Addr} {oe : Obj} (e : ErrOb (a, oe) C dd) (hp : (a, oe) ∈ X.pn) {pins : List (Addr × Obj)} {σ : L2.St} {H : Hp} {s : Shared} (I : Inv X pins σ H s) {fs : List (Str × V)} (hd : H dd = some (.xd fs)) :
    ∃ od : Obj, PySem.W.InstAt s.heap a oe C (some od) ∧ ∀ n v, fs.lookup n = some v → ∃ u, PySem.W.lookIn n od = some (some u) ∧ RelV v u := by
  obtain ⟨vs, hv⟩ := e.data
  have hg := (I.pin (a, oe) (List.mem_append_left _ hp)).1
  have hx : ObjOk X.prog X.w H s.heap dd (.xd fs) := I.hok dd _ hd
  obtain ⟨m, hns, hr⟩ := hx
  obtain ⟨od, ho, hl⟩ := lookIn_ns hns
  refine ⟨od, ⟨hg, e.cls, by unfold PySem.W.notCls; rw [hv] <;> rfl, by rw [e.dict]; exact ho⟩, fun n v l => ?_⟩
  obtain ⟨u, hu, ru⟩ := RelO.some_of (v := v) (o := m n) (by rw [← l]; exact hr n)
  exact ⟨u, by rw [hl, hu], ru⟩
/-- isinstance(e, c) -/
def rErrI (K : PySem.W.Frag) (C a dd : Addr) : List V → Hp → VK → Prop := fun xs H Q =>
  (∃ fs, H dd = some (.xd fs)) ∧ rErr K C a xs H Q
theorem call_errI {X : Cx} {a C dd : Addr} {oe : Obj} (e : ErrOb (a, oe) C dd) (hp : (a, oe) ∈ X.pn) (c : ExcC X.K C) : CallR X (.builtin "isinstance") (rErrI X.K C a dd) := by
  intro pins s σ H xs us Q I r ⟨⟨fs, hd⟩, t, tv, b, ex, ht, hb, q⟩
  subst ex
  cases r with
  | cons rx rr =>
    cases rr with
    | cons rt rr =>
      cases rr
      cases rx
      obtain rfl := ht _ rt
      obtain ⟨od, J, _⟩ := e.inst hp I hd
      exact PySem.W.kia_one (PySem.W.kit_err c) I.kIn J hb (fun z => nomatch z) fun tk => ⟨.bl b, H, I.kept (t' := tk) fun _ _ z => z, rfl, q⟩
/-- e.f -/
def tErrF (a dd : Addr) (n : Str) (te : TE) : TE := fun σ H Q => te σ H fun x H1 => x = .ref a ∧ ∃ (fs : List (Str × V)) (v : V), H1 dd = some (.xd fs) ∧ fs.lookup n = some v ∧ Q v H1
theorem pe_errF {X : Cx} {a C dd : Addr} {oe : Obj} {e : Expr} {te : TE} {pos : Pos} {n : Str} (eo : ErrOb (a, oe) C dd) (hp : (a, oe) ∈ X.pn) (T : XfC X.K C) (hno : PySem.W.findIn X.K (.ref C) n = some none)
    (he : PE X e te) (hb : attributeBase e n X.env (eval e X.env) = eval e X.env := by rfl) : PE X (.Attribute e n pos) (tErrF a dd n te) := by
  constructor
  intro pins s σ H Q I h
  refine attr_of hb (thn (he.run pins s σ H _ I h) ?_)
  rintro u s1 ⟨x, H1, I1, rx, rfl, fs, v, hd, l, q⟩
  obtain rfl : u = Value.ref a := rx
  obtain ⟨od, J, hl⟩ := eo.inst hp I1 hd
  obtain ⟨z, hz, rz⟩ := hl n v l
  exact HandSPX.exc_get I1.kIn J T.ga T.gg T.exC (PySem.W.findObj_own T.hdC hno rfl hz) (handed_of rz) ⟨v, H1, I1.tok _, rz, q⟩

/-! ### such a def -/
abbrev SpE := Addr → Addr → Addr → Sp
structure FnS (P : Program) (w : World) (K : PySem.W.Frag) (mg : Str → Option Value) (base : Heap) (k : Nat) (f : Addr) (fd : FuncData) (ps : List Str) (sp : SpE) : Prop where
  len : ∀ a C dd vs H Q E, sp a C dd vs H Q E → vs.length = ps.length
  run : ∀ (A : Around) (outer : List Env) (s : Shared) (H : Hp) (args : Args) (us : List Value) (vs : List V) (Q : VK) (E : XK) (p : Addr × Obj) (C dd : Addr),
    L2H.RoomH k A → ErrOb p C dd → L2H.PinOk outer H s p → Env0 P w K mg base A outer s H → BindsTo s fd args (ps.zip us) → Vals vs us → sp p.1 C dd vs H Q E →
    codeAny (model P w) A (.call (.ref f) args) (CR CX0 outer P w H s Q E) s
theorem fn_s {P : Program} {w : World} {K : PySem.W.Frag} {mg : Str → Option Value} {base : Heap} {k : Nat} {x qual : Str} {st : Stmt} {f : Addr} {fd : FuncData} {N ps : List Str} {sp : SpE} (Fd : Fun K x qual st f fd) (S : FnScope N ps (defScope st))
    (len : ∀ a C dd vs H Q E, sp a C dd vs H Q E → vs.length = ps.length)
    (hbody : ∀ (cdv : Value) (A : Around) (outer : List Env) (s : Shared) (H : Hp) (vs : List V) (Q : VK) (E : XK) (p : Addr × Obj) (C dd : Addr), ErrOb p C dd → L2H.RoomH k (A.deeper (envOfC qual (defScope st) s.heap.objs.size f cdv)) → sp p.1 C dd vs H Q E →
      ∃ t, PSs (L2H.cxH CX0 P w K mg base N qual (defScope st) f cdv A outer s H E p) (defBody st) t ∧ t { nx := fun _ H' => Q .non H', rt := Q } (L2.start N vs) H) :
    FnS P w K mg base (k + 1) f fd ps sp := by
  obtain ⟨oc, od, kV, doc, pm, an, cdv, ct, osl, rfl, lk, hcd⟩ := Fd.ex
  refine ⟨len, ?_⟩
  intro A outer s H args us vs Q E p C dd hr eo hpin e0 hb r hsp
  have hlen := len _ _ _ _ _ _ _ hsp
  have keeps : ∀ b o, base.get? b = some o → s.heap.get? b = some o := fun b o e => (e0.bs b o e).1
  have KX : K.In s.heap := e0.mod.kin.keeps keeps
  have nolim : s.heap.NoLimit := e0.mod.nolimit.keeps keeps
  refine codeAny_call_function hr.depth (KX _ _ lk) rfl S.co S.gen rfl (PySem.W.codeRec_of KX hcd) (hb _ _ _ _ ?_)
  refine wpAny_newFunctionEnv_cells S.kind (fun y hy => ?_) fun env he s1 ic => ?_
  · obtain ⟨n, v⟩ := y
    rcases S.par n (List.of_mem_zip hy).1 with q | q
    · left; exact q
    · right; exact ⟨q, PySem.W.cellsFrom_some _ _ _ (.inl q)⟩
  · subst he
    refine ⟨nolim.keeps ic.toInCall.keep, codeAny_func ?_⟩
    obtain ⟨t, ht, hq⟩ := hbody cdv A outer s H vs Q E p C dd eo (hr.deeper _) hsp
    have I := L2H.inv_startH (E := E) (CX := CX0) S hpin e0 hlen r ic
    have out : ∀ {σ' : L2.St} {H' : Hp} {v : V} {u : Value} {s' : Shared}, Inv (L2H.cxH CX0 P w K mg base N qual (defScope st) f cdv A outer s H E p) [] σ' H' s' → RelV v u → Q v H' → CE outer P w H s Q u s' := by
      intro σ' H' v u s' J rv q
      exact ⟨v, H', J.os, J.bare, J.base, J.hok, rv, q⟩
    refine wpAny_mono (ht.run [] s1 (L2.start N vs) H _ I hq) (fun fl s' hs => ?_) (fun e s' hs => hs)
    match fl, hs with
    | .ret u, ⟨v, σ', H', J, rv, q⟩ => exact out J rv q
    | .next, ⟨σ', H', J, q⟩ => exact out (v := .non) (u := .none) J rfl q
    | .brk, ⟨_, _, _, q⟩ => exact q.elim
    | .cont, ⟨_, _, _, q⟩ => exact q.elim
/-- f(e, ..) in the suite -/
def tCallE (sp : Sp) (t : TA) : TE := fun σ H Q => t σ H fun vs H1 => sp vs H1 Q (fun _ _ _ => False)
theorem pe_callE {X : Cx} {k : Nat} {f : Addr} {fd : FuncData} {ps : List Str} {sp : SpE} {x : Str} {q pos : Pos} {e : Expr} {es : List Expr} {t : TA} {p : Addr × Obj} {C dd : Addr} (F : FnS X.prog X.w X.K X.mg X.base k f fd ps sp) (eo : ErrOb p C dd) (hp : p ∈ X.pn) (hr : L2H.RoomH k X.A)
    (hg : Gl X x) (hm : X.mg x = some (.ref f)) (hk : PySem.W.keepIn X.K (.ref f) = true) (hb : Binds X.K fd ps []) (ha : PA X (e :: es) t)
    (hdb : (x == ("__debug__" : Str)) = false := by decide) (he : starEach (e :: es) X.env = (false, eval e X.env) :: starEach es X.env := by rfl) (hpl : (backTo pos (starEach es X.env)).any (·.1) = false := by rfl) :
    PE X (.Call (.Name x q) (e :: es) [] pos) (tCallE (sp p.1 C dd) t) := by
  constructor
  intro pins s σ H Q I h
  refine wpAny_Call_Name_kw (ld_glob I hg hm ?_ hdb)
  refine PySem.W.callWith_K (h₀ := X.base) I.ok.mod.kin hk (thn (ha.run pos pins s σ H _ I h) ?_) he hpl
  rintro us s1 ⟨vs, H1, I1, r, q⟩
  refine ⟨I1.kIn, ?_⟩
  have hl : us.length = ps.length := by rw [← r.length]; exact F.len _ _ _ _ _ _ _ q
  have b := hb s1 us I1.kIn (by rw [List.append_nil]; exact hl)
  rw [List.append_nil] at b
  obtain ⟨g1, g2, g3, g4, g5⟩ := I1.pin p (List.mem_append_left _ hp)
  have pk : L2H.PinOk X.stack H1 s1 p := ⟨g1, g2, fun hm => by
    rcases List.mem_cons.mp (I1.stkSub p.1 hm) with z | z
    · exact g3 z
    · exact g4 z, g5⟩
  refine wpAny_call (codeAny_mono (F.run X.A X.stack s1 H1 ⟨us, []⟩ us vs Q _ p C dd hr eo pk I1.env0 b r q) fun r s' hq => ?_)
  match r, hq with
  | .error e, hq => exact hq.elim
  | .ok (.ret u), hq => exact I1.after hq
  | .ok .next, hq => exact hq.elim
  | .ok .brk, hq => exact hq.elim
  | .ok .cont, hq => exact hq.elim
end UL

/-! try, and the suite, without addresses -/
namespace UL
open PySem PySem.Spec PyProof.Rows L2
/-! what is without exceptions stays when the error's dict is let go -/
def upX (F G : Hp) (dd : Addr) : Hp := fun b => if b = dd then G dd else F b
theorem upX_ne {F G : Hp} {dd b : Addr} (h : b ≠ dd) : upX F G dd b = F b := if_neg h
theorem upX_at {F G : Hp} {dd : Addr} : upX F G dd dd = G dd := if_pos rfl
section
variable {W : Wd} {F G : Hp} {dd : Addr} {fvs : List (Str × V)}
theorem upX_get (hd : F dd = some (.xd fvs)) {b : Addr} {o : HO} (e : F b = some o) (n : ∀ z, o ≠ .xd z) : upX F G dd b = some o := by
  rw [upX_ne]
  · exact e
  · intro z; subst z; rw [hd] at e; cases e; exact n _ rfl
theorem upX_seqT (hd : F dd = some (.xd fvs)) {K : PySem.W.Frag} {p : Addr} {vs : List V} (h : SqT K F p vs) : SqT K (upX F G dd) p vs := by
  rcases h with (h | ⟨o, h⟩) | h
  · exact .inl (.inl (upX_get hd h (fun z e => nomatch e)))
  · exact .inl (.inr ⟨o, upX_get hd h (fun z e => nomatch e)⟩)
  · exact .inr h
mutual
theorem rep.back (hd : F dd = some (.xd fvs)) : ∀ {v : V} {u : U}, rep W F v u → noX u = true → rep (W.hotW none) (upX F G dd) v u
  | _, _, .non, _ => .non
  | _, _, .bl b, _ => .bl b
  | _, _, .int i, _ => .int i
  | _, _, .str z, _ => .str z
  | _, _, .lst x r, e => .lst (upX_get hd x (fun z e => nomatch e)) (reps.back hd r (by unfold noX at e; exact e))
  | _, _, .tup x r, e => .tup (upX_seqT hd x) (reps.back hd r (by unfold noX at e; exact e))
  | _, _, .dct x r, e => .dct (upX_get hd x (fun z e => nomatch e)) (repk.back hd r (by unfold noX at e; exact e))
  | _, _, .dcn x l r, e => .dcn (upX_get hd x (fun z e => nomatch e)) l (reps.back hd r (by unfold noX at e; exact e))
  | _, _, .ins m x r, e => .ins m (upX_get hd x (fun z e => nomatch e)) (repf.back hd r (by unfold noX at e; exact e))
  | _, _, .sto h, _ => .sto h
  | _, _, .ty n, _ => .ty n
  | _, _, .cls h, _ => .cls h
  | _, _, .exc q _ _ _, e => by unfold noX at e; cases e
theorem reps.back (hd : F dd = some (.xd fvs)) : ∀ {v : List V} {u : List U}, reps W F v u → noXs u = true → reps (W.hotW none) (upX F G dd) v u
  | _, _, .nil, _ => .nil
  | _, _, .cons x r, e => by
    unfold noXs at e
    rw [Bool.and_eq_true] at e
    exact .cons (rep.back hd x e.1) (reps.back hd r e.2)
theorem repk.back (hd : F dd = some (.xd fvs)) : ∀ {v : List (L2.Key × V)} {u : List (L2.Key × U)}, repk W F v u → noXk u = true → repk (W.hotW none) (upX F G dd) v u
  | _, _, .nil, _ => .nil
  | _, _, .cons x r, e => by
    unfold noXk at e
    rw [Bool.and_eq_true] at e
    exact .cons (rep.back hd x e.1) (repk.back hd r e.2)
theorem repf.back (hd : F dd = some (.xd fvs)) : ∀ {v : List (Str × V)} {u : List (Str × U)}, repf W F v u → noXf u = true → repf (W.hotW none) (upX F G dd) v u
  | _, _, .nil, _ => .nil
  | _, _, .cons x r, e => by
    unfold noXf at e
    rw [Bool.and_eq_true] at e
    exact .cons (rep.back hd x e.1) (repf.back hd r e.2)
end
end
/-- the suite's frame -/
abbrev Uc.hotC (c : Uc) (a C dd : Addr) (fvs : List (Str × V)) : Uc := { c with W := c.W.hotW (some (a, C, dd)), F0 := upd c.F0 dd (.xd fvs), wx := fun _ _ _ _ => False }
theorem Rel.fpHeat {c : Uc} {F H : Hp} {σ : List (Option V)} {env : List Slot} {a C dd : Addr} {fvs : List (Str × V)} {fus : List (Str × U)} {cn : Str} {i : Nat} (R : Rel c F σ env H) (n : c.W.hot = none) (hd : H dd = some (.xd fvs)) :
    FtOk (c.hotC a C dd fvs) (upd F dd (.xd fvs)) (σ.set i (some (.ref a))) (env.set i (.val (.exc cn fus))) H [] := by
  have h0 : FtOk (c.hotC a C dd fvs) F σ env H [] := by
    obtain ⟨A, a1, a2, a3, a4, a5, a6⟩ := R.fp
    refine ⟨A, fun j t e => ?_, a2, a3, a4, fun j p hp => ⟨(a5 j p hp).f, (a5 j p hp).h, (a5 j p hp).s, (a5 j p hp).o⟩, a6⟩
    obtain ⟨v, e1, r⟩ := a1 j t e
    exact ⟨v, e1, r.heat n⟩
  refine h0.step rfl (fun j t e => ?_) (fun b o e => ?_) (fun _ _ e _ => e) fun b o e ob fa na => ⟨e, ⟨?_, fa.h, fa.s, fun j xs ej sj => ?_⟩, na⟩
  · obtain ⟨h1, h2⟩ := pas_set (by intro t z; cases z) e
    exact ⟨h2, set_at h1⟩
  · by_cases q : b = dd
    · subst q; rw [upd_same]; rw [← R.pool.sub _ _ e, hd]
    · rw [upd_ne q]; exact e
  · have q : b ≠ dd := fun z => by rw [z, hd] at e; cases e; rcases ob with ⟨_, f⟩ | ⟨_, f⟩ | ⟨_, f⟩ <;> cases f
    rw [upd_ne q]; exact fa.f
  · obtain ⟨h1, h2⟩ := own_set (by intro t z; cases z) ej
    rw [set_at h1] at sj
    exact fa.o j xs h2 sj
/-- the wishes of another try -/
theorem Rel.re {c : Uc} {W : WX} {F H : Hp} {σ : List (Option V)} {env : List Slot} (R : Rel c F σ env H) : Rel { c with wx := W } F σ env H :=
  ⟨R.pool, R.base, R.len, R.slot, R.dist, R.one, R.fp.step rfl (fun i t e => ⟨e, rfl⟩) (Same.refl _) (fun _ _ e _ => e) fun b o e _ fa na => ⟨e, ⟨fa.f, fa.h, fa.s, fa.o⟩, na⟩⟩
theorem Rel.unre {c : Uc} {W : WX} {F H : Hp} {σ : List (Option V)} {env : List Slot} (R : Rel { c with wx := W } F σ env H) : Rel c F σ env H :=
  ⟨R.pool, R.base, R.len, R.slot, R.dist, R.one, R.fp.step rfl (fun i t e => ⟨e, rfl⟩) (Same.refl _) (fun _ _ e _ => e) fun b o e _ fa na => ⟨e, ⟨fa.f, fa.h, fa.s, fa.o⟩, na⟩⟩
theorem Rel.heat {c : Uc} {F H : Hp} {σ : List (Option V)} {env : List Slot} {a C dd : Addr} {fvs : List (Str × V)} {fus : List (Str × U)} {cn : Str} {i : Nat} (R : Rel c F σ env H) (n : c.W.hot = none) (hm : c.W.mg cn = some (.ref C)) (hd : H dd = some (.xd fvs)) (rf : repf c.W F fvs fus) (hi : i < env.length) :
    Rel (c.hotC a C dd fvs) (upd F dd (.xd fvs)) (σ.set i (some (.ref a))) (env.set i (.val (.exc cn fus))) H := by
  have sm : Same F (upd F dd (.xd fvs)) := fun b o e => by
    by_cases q : b = dd
    · subst q; rw [upd_same]; rw [← R.pool.sub _ _ e, hd]
    · rw [upd_ne q]; exact e
  have nel : ∀ {p : Addr} {vs : List V}, H p = some (.lst vs) → p ≠ dd := fun h z => by rw [z, hd] at h; cases h
  have nei : ∀ {p : Addr} {K dx fs}, H p = some (.ins K dx fs) → p ≠ dd := fun h z => by rw [z, hd] at h; cases h
  have key : ∀ {j : Nat} {s : Slot}, (env.set i (.val (.exc cn fus)))[j]? = some s → (∀ u, s ≠ .val u) → j ≠ i ∧ env[j]? = some s := fun {j s} e ns => by
    rw [List.getElem?_set] at e
    by_cases q : i = j
    · rw [if_pos q, if_pos hi] at e; cases e; exact absurd rfl (ns _)
    · rw [if_neg q] at e; exact ⟨fun z => q z.symm, e⟩
  refine { pool := ⟨fun b o e => ?_, fun s cc e => ?_⟩, base := ⟨R.base.keep, fun b o e => ?_, fun b o e => ?_⟩, len := by rw [List.length_set, List.length_set]; exact R.len, slot := fun j s e => ?_, dist := fun j k p xs ys njk ej ek sj => ?_, fp := R.fpHeat n hd, one := fun j cm fs e => ?_ }
  · by_cases q : b = dd
    · subst q; rw [upd_same] at e; cases e; exact hd
    · rw [upd_ne q] at e; exact R.pool.sub b o e
  · obtain ⟨h1, ⟨ns, h2⟩, h3⟩ := R.pool.sto s cc e
    obtain ⟨p, st, ct, hh, lf, p0, h4⟩ := h3
    have ns1 : s ≠ dd := fun z => by rw [z, hd] at h4; cases h4
    exact ⟨by rw [upd_ne ns1]; exact h1, ⟨ns, sm _ _ h2⟩, p, st, ct, hh, lf, p0, h4⟩
  · have e : upd c.F0 dd (.xd fvs) b = some o := e
    by_cases q : b = dd
    · subst q; rw [upd_same] at e ⊢; exact e
    · rw [upd_ne q] at e ⊢; exact R.base.pool b o e
  · show upd c.F0 dd (.xd fvs) b = some o ∨ c.H0 b = none
    by_cases q : b = dd
    · subst q; rw [upd_same] at e ⊢; exact .inl e
    · rw [upd_ne q] at e ⊢; exact R.base.new b o e
  · rw [List.getElem?_set] at e
    by_cases q : i = j
    · rw [if_pos q, if_pos hi] at e
      subst q
      cases e
      refine ⟨some (.ref a), by rw [List.getElem?_set, if_pos rfl, if_pos (by rw [R.len]; exact hi)], ?_⟩
      exact rep.exc rfl hm upd_same ((repf.heat n rf).mono sm)
    · rw [if_neg q] at e
      obtain ⟨o, h1, h2⟩ := R.slot j s e
      refine ⟨o, by rw [List.getElem?_set, if_neg q]; exact h1, ?_⟩
      cases s with
      | no => cases o <;> trivial
      | val u =>
        cases o with
        | none => exact h2.elim
        | some v => exact (rep.heat n h2).mono sm
      | own xs =>
        cases o with
        | none => exact h2.elim
        | some v =>
          obtain ⟨p, vs, rfl, f1, f2, f3, f4, f5⟩ := h2
          exact ⟨p, vs, rfl, by rw [upd_ne (nel f3)]; exact f1, f2, f3, (reps.heat n f4).mono sm, f5⟩
      | mk cm fs =>
        cases o with
        | none => exact h2.elim
        | some v =>
          obtain ⟨p, D, dx, gs, rfl, f0, f1, f2, f3, f4, f5⟩ := h2
          exact ⟨p, D, dx, gs, rfl, f0, by rw [upd_ne (nei f3)]; exact f1, f2, f3, (repf.heat n f4).mono sm, f5⟩
      | pas t =>
        cases o with
        | none => exact h2.elim
        | some v => trivial
  · obtain ⟨nj, ej⟩ := key ej (fun u z => nomatch z)
    obtain ⟨nk, ek⟩ := key ek (fun u z => nomatch z)
    rw [List.getElem?_set, if_neg (fun z => nj z.symm)] at sj
    rw [List.getElem?_set, if_neg (fun z => nk z.symm)]
    exact R.dist j k p xs ys njk ej ek sj
  · obtain ⟨nj, ej⟩ := key e (fun u z => nomatch z)
    exact R.one j cm fs ej
/-- try: body; except X as e: suite (which returns) -/
def uSuite (i : Nat) (n : US) (d : UEnds) (env' : List Slot) (cn : Str) (fus : List (Str × U)) : Prop :=
  n { nx := fun _ => False, rt := fun u => noX u = true ∧ d.rt u, ex := exF } (env'.set i (.val (.exc cn fus)))
def uTryAs (errs : List Str) (i : Nat) (m n : US) : US := fun d env => m { d with ex := fun env' cn fus => cn ∈ errs ∧ i < env'.length ∧ uSuite i n d env' cn fus } env
/-- what a suite, or a def that is called there, leans on -/
structure FitS (errs : List Str) (c : Uc) (X : Cx) (a C dd : Addr) (oe : Obj) : Prop where
  gC : ∃ cn ∈ errs, X.mg cn = some (.ref C)
  K : c.W.K = X.K
  mg : c.W.mg = X.mg
  hot : c.W.hot = some (a, C, dd)
  dn : c.W.dn = DN X.prog X.w
  eo : ErrOb (a, oe) C dd
  hp : (a, oe) ∈ X.pn
theorem us_tryAs {X : Cx} {c : Uc} {x n : Str} {CX : Addr} {i : Nat} {body suite : List Stmt} {b0 : Stmt} {np pos pos' : Pos} {m nn : US} {errs : List Str} (ft : Fit c X) (hf : c.fr = false) (hs : X.stack = X.env :: X.outer) (hfr : X.env.frame = some X.env.locals) (hN : X.N.Nodup) (hi : X.N[i]? = some n) (hln : X.env.kindOf n = some .local)
    (hc : Names X x (.ref CX)) (hex : ∀ cn ∈ errs, ∀ C, X.mg cn = some (.ref C) → PySem.W.exmOne X.K (.ref C) (.ref CX) = some true)
    (hb : ∀ (W : WX) (pn : List (Addr × Obj)) (xe : Value → Shared → Prop), Fit { c with wx := W } (X.tr pn xe) → PassesOwn (model X.prog X.w) X.A X.env xe → PSs (X.tr pn xe) body (ts { c with wx := W } m))
    (hsu : ∀ (a : Addr) (oe : Obj) (C dd : Addr) (fvs : List (Str × V)) (pn : List (Addr × Obj)), FitS errs (c.hotC a C dd fvs) (X.suite a ((a, oe) :: pn)) a C dd oe → PSs (X.suite a ((a, oe) :: pn)) (b0 :: suite) (ts (c.hotC a C dd fvs) nn)) :
    PS X (.Try body [.ExceptHandler (some (.Name x np)) (some n) (b0 :: suite) pos'] [] [] pos) (ts c (uTryAs errs i m nn)) := by
  refine PS.imp (ps_try_as (tb := fun W => ts { c with wx := W } m) (Wout := fun _ _ _ _ => False)
    (ts := fun a cls d D σ H => ∃ C dd fvs, (∃ cn ∈ errs, X.mg cn = some (.ref C)) ∧ cls = .ref C ∧ d = some dd ∧ H dd = some (.xd fvs) ∧ ts (c.hotC a C dd fvs) nn D σ H)
    hs hfr hN hi hln hc takes0 (fun W pn xe tk po => hb W pn xe ⟨ft.K, ft.mg, ft.cool, ft.dn, tk⟩ po) (fun a oe cls d pn hz hv => ⟨fun pins s σ H D I q => ?_⟩)) fun D σ H ⟨F, env, d, R, hm, E⟩ => ?_
  · obtain ⟨C, dd, fvs, gC, rfl, rfl, _, q⟩ := q
    exact (hsu a oe C dd fvs pn ⟨gC, ft.K, ft.mg, rfl, ft.dn, ⟨hz.1, hz.2, hv⟩, List.mem_cons_self⟩).run pins s σ H D I q
  · refine ⟨F, env, _, R.re, hm, ⟨fun F' σ' env' H' s' R' => E.nx F' σ' env' H' s' R'.unre, fun F' σ' env' H' s' R' => E.bk F' σ' env' H' s' R'.unre,
      fun F' σ' env' H' s' R' => E.ct F' σ' env' H' s' R'.unre, E.rt, ?_⟩⟩
    rintro F' σ' env' H' C dd fvs cn fus R' e1 e2 e3 ⟨hcn, hil, h'⟩
    have R' : Rel c F' σ' env' H' := R'.unre
    refine ⟨true, hex cn hcn C (by rw [← ft.mg]; exact e1), fun _ a ha => ⟨C, dd, fvs, ⟨cn, hcn, by rw [← ft.mg]; exact e1⟩, rfl, rfl, e2, ?_⟩, fun z => nomatch z⟩
    refine ⟨upd F' dd (.xd fvs), _, _, R'.heat ft.cool e1 e2 e3 hil, h', ⟨fun _ _ _ _ _ _ z => z.elim, fun _ _ _ _ _ _ z => z.elim, fun _ _ _ _ _ _ z => z.elim, fun F3 H3 v u x r _ ⟨nx, q⟩ => ?_, wantsF⟩⟩
    obtain ⟨g, P⟩ := x
    have dF : F3 dd = some (.xd fvs) := g.pool dd _ upd_same
    have d0 : ∀ o, c.F0 dd = some o → o = .xd fvs := fun o e => by
      have := R'.pool.sub dd o (R'.base.pool dd o e)
      rw [e2] at this; cases this; rfl
    have ec : (c.W.hotW (some (a, C, dd))).hotW none = c.W := by
      have := ft.cool
      revert this
      cases c.W
      intro h; cases h; rfl
    have rb := rep.back (G := c.F0) dF r nx
    rw [ec] at rb
    refine E.rt (upX F3 c.F0 dd) H3 v u ⟨⟨g.keep, fun b o e => ?_, fun b o e => ?_⟩, ⟨fun b o e => ?_, fun s cc e => ?_⟩⟩ rb (fun z => by rw [hf] at z; cases z) q
    · by_cases z : b = dd
      · subst z; rw [upX_at]; exact e
      · rw [upX_ne z]; exact g.pool b o (by show upd c.F0 dd (.xd fvs) b = some o; rw [upd_ne z]; exact e)
    · by_cases z : b = dd
      · subst z; rw [upX_at] at e; exact .inl e
      · rw [upX_ne z] at e
        rcases g.new b o e with w | w
        · left; have w : upd c.F0 dd (.xd fvs) b = some o := w; rw [upd_ne z] at w; exact w
        · exact .inr w
    · by_cases z : b = dd
      · subst z; rw [upX_at] at e
        rw [d0 o e]; exact P.sub _ _ dF
      · rw [upX_ne z] at e; exact P.sub b o e
    · obtain ⟨h1, ⟨ns, h2⟩, p, st, ct, hh, lf, p0, h4⟩ := P.sto s cc e
      have ns1 : s ≠ dd := fun z => by rw [z, P.sub _ _ dF] at h4; cases h4
      exact ⟨by rw [upX_ne ns1]; exact h1, ⟨ns, upX_get dF h2 (fun z e => nomatch e)⟩, p, st, ct, hh, lf, p0, h4⟩
end UL

/-! what a suite reads of its error; defs that are called in a suite -/
namespace UL
open PySem PySem.Spec PyProof.Rows L2
/-- the error classes that may be met, what isinstance says of them, their fields -/
structure ErrTab (K : PySem.W.Frag) (mg : Str → Option Value) (errs : List Str) (T : Str → U → Option Bool) (fl : List Str) : Prop where
  ec : ∀ cn ∈ errs, ∀ C, mg cn = some (.ref C) → ExcC K C ∧ XfC K C
  isi : ∀ cn ∈ errs, ∀ C, mg cn = some (.ref C) → ∀ c2 b, T cn (.cls c2) = some b → ∀ C2, mg c2 = some (.ref C2) → PySem.W.kitOne K (.ref C) (.ref C2) = some b
  ist : ∀ cn ∈ errs, ∀ C, mg cn = some (.ref C) → ∀ n b, T cn (.ty n) = some b → PySem.W.kitOne K (.ref C) (.type n) = some b
  no : ∀ cn u b, T cn u = some b → (∃ c2, u = .cls c2) ∨ ∃ n, u = .ty n
  fld : ∀ cn ∈ errs, ∀ C, mg cn = some (.ref C) → ∀ f ∈ fl, PySem.W.findIn K (.ref C) f = some none
def nErr (errs : List Str) (T : Str → U → Option Bool) : GN := fun us κ => match us with
  | [.exc cn _, t] => cn ∈ errs ∧ ∃ b, T cn t = some b ∧ κ (.bl b)
  | _ => False
theorem View.exc {W : Wd} {F H : Hp} {v : V} {cn : Str} {fus : List (Str × U)} (h : View W F H v (.exc cn fus)) : ∃ a C d fvs, v = .ref a ∧ W.hot = some (a, C, d) ∧ W.mg cn = some (.ref C) ∧ F d = some (.xd fvs) ∧ repf W F fvs fus := by
  cases h with
  | pool r => cases r with | exc h1 h2 h3 h4 => exact ⟨_, _, _, _, rfl, h1, h2, h3, h4⟩
theorem snd_err {W : Wd} {errs : List Str} {T : Str → U → Option Bool} {fl : List Str} {a C dd : Addr} (tb : ErrTab W.K W.mg errs T fl) (hh : W.hot = some (a, C, dd)) : SndN W (rErrI W.K C a dd) (nErr errs T) := fun F H vs us κ Q P hv hg hk => by
  unfold nErr at hg
  split at hg
  · rename_i cn fus t
    obtain ⟨hc, b, hT, hg⟩ := hg
    obtain ⟨v, y, rfl, h1, h2⟩ := hv.two
    obtain ⟨a', C', d', fvs, rfl, e1, e2, e3, _⟩ := h1.exc
    rw [hh] at e1
    cases e1
    refine ⟨⟨_, P.sub _ _ e3⟩, y, ?_⟩
    rcases tb.no _ _ _ hT with ⟨c2, rfl⟩ | ⟨n, rfl⟩
    · cases h2 with
      | pool r => cases r with | cls h => exact ⟨_, b, rfl, fun u z => z, tb.isi cn hc _ e2 c2 b hT _ h, hk F H _ _ (Ext.refl P) (.bl _) hg⟩
    · cases h2 with
      | pool r => cases r; exact ⟨.type n, b, rfl, fun u z => z, tb.ist cn hc _ e2 n b hT, hk F H _ _ (Ext.refl P) (.bl _) hg⟩
  · exact hg.elim
theorem ue_cls {X : Cx} {c : Uc} {x : Str} {pos : Pos} {C : Addr} (hg : Gl X x) (hm : X.mg x = some (.ref C)) (hw : c.W.mg = X.mg) (hd : (x == ("__debug__" : Str)) = false := by decide) : PE X (.Name x pos) (tm c (uC (.cls x))) :=
  PE.imp (pe_glob (v := .ref C) hg hm rfl hd) fun σ H Q ⟨F, env, ex, k, R, h, hw', hk⟩ => hk F H env (.ref C) (.val (.cls x)) (.refl R.pool) R (.cls (by rw [hw]; exact hm)) h
/-- e.f -/
def uErrF (f : Str) (m : UM) : UM := fun ex env k => m ex env fun y env1 => match y with
  | .val (.exc _ fus) => (match fus.lookup f with
    | some u => k (.val u) env1
    | none => False)
  | _ => False
theorem repf.look {W : Wd} {F : Hp} {f : Str} : ∀ {vs : List (Str × V)} {us : List (Str × U)} {u : U}, repf W F vs us → us.lookup f = some u → ∃ v, vs.lookup f = some v ∧ rep W F v u
  | _, _, _, .nil, e => by cases e
  | _, _, _, .cons (k := k) a r, e => by
    rw [List.lookup_cons] at e ⊢
    cases q : f == k with
    | true => rw [q] at e; cases e; exact ⟨_, rfl, a⟩
    | false => rw [q] at e; exact r.look e
section
variable {X : Cx} {c : Uc} {a C dd : Addr} {oe : Obj} {errs : List Str} {T : Str → U → Option Bool} {fl : List Str}
theorem ue_errF {e : Expr} {m : UM} {f : Str} {pos : Pos} (ft : FitS errs c X a C dd oe) (tb : ErrTab X.K X.mg errs T fl) (hf : f ∈ fl)
    (he : PE X e (tm c m)) (hb : attributeBase e f X.env (eval e X.env) = eval e X.env := by rfl) : PE X (.Attribute e f pos) (tm c (uErrF f m)) := by
  obtain ⟨cn0, h0, g0⟩ := ft.gC
  refine PE.imp (pe_errF ft.eo ft.hp (tb.ec cn0 h0 C g0).2 (tb.fld cn0 h0 C g0 f hf) he hb) fun σ H Q ⟨F, env, ex, k, R, hm, hw, hk⟩ => ?_
  refine ⟨F, env, ex, _, R, hm, hw, fun F1 H1 env1 v y s1 R1 o1 h1 => ?_⟩
  split at h1
  · rename_i cn fus
    obtain ⟨a', C', d', fvs, rfl, e1, e2, e3, e4⟩ := (R1.view o1 rfl).exc
    rw [ft.hot] at e1
    cases e1
    cases q : fus.lookup f with
    | none => rw [q] at h1; exact h1.elim
    | some u =>
      rw [q] at h1
      obtain ⟨v, hv, rv⟩ := e4.look q
      exact ⟨rfl, fvs, v, R1.pool.sub _ _ e3, hv, hk F1 H1 env1 v (.val u) s1 R1 rv h1⟩
  · exact h1.elim
theorem k_err (ft : FitS errs c X a C dd oe) (tb : ErrTab X.K X.mg errs T fl) : CallR X (.builtin "isinstance") (rErrI c.W.K C a dd) := by
  obtain ⟨cn0, h0, g0⟩ := ft.gC
  rw [ft.K]
  exact call_errI ft.eo ft.hp (tb.ec cn0 h0 C g0).1
theorem snd_err' (ft : FitS errs c X a C dd oe) (tb : ErrTab X.K X.mg errs T fl) : SndN c.W (rErrI c.W.K C a dd) (nErr errs T) := by
  have tb' : ErrTab c.W.K c.W.mg errs T fl := by rw [ft.K, ft.mg]; exact tb
  exact snd_err tb' ft.hot
end

/-! ### the promise of such a def -/
def PrS (errs : List Str) (P : Program) (w : World) (K : PySem.W.Frag) (mg : Str → Option Value) (spec : Spec) : SpE := fun a C dd vs H Q _ => ∃ (st : Option (Addr × Addr)) (F : Hp) (us : List U) (k : U → Prop), (∃ cn ∈ errs, mg cn = some (.ref C)) ∧
  Pool ⟨K, mg, st, some (a, C, dd), DN P w⟩ F H ∧ reps ⟨K, mg, st, some (a, C, dd), DN P w⟩ F vs us ∧ spec us (fun _ _ => False) k ∧
  ∀ F' H' v u, Ext ⟨K, mg, st, some (a, C, dd), DN P w⟩ F H F' H' → rep ⟨K, mg, st, some (a, C, dd), DN P w⟩ F' v u → k u → Q v H'
theorem fn_uS {P : Program} {w : World} {K : PySem.W.Frag} {mg : Str → Option Value} {base : Heap} {errs : List Str} {x qual : Str} {st : Stmt} {f : Addr} {fd : FuncData} {N ps : List Str} {k : Nat} (Fd : Fun K x qual st f fd) (S : FnScope N ps (defScope st)) (spec : Spec) (len : ∀ us ex k, spec us ex k → us.length = ps.length)
    (h : ∃ m : US, (∀ (cdv : Value) (A : Around) (outer : List Env) (s : Shared) (H : Hp) (E : XK) (c : Uc) (p : Addr × Obj) (C dd : Addr), c.fr = false → L2H.RoomH k (A.deeper (envOfC qual (defScope st) s.heap.objs.size f cdv)) →
        FitS errs c (L2H.cxH CX0 P w K mg base N qual (defScope st) f cdv A outer s H E p) p.1 C dd p.2 → PSs (L2H.cxH CX0 P w K mg base N qual (defScope st) f cdv A outer s H E p) (defBody st) (ts c m)) ∧
      ∀ us ex k, spec us ex k → m { nx := fun _ => k .non, rt := k, ex := exF } (startE N.length us)) :
    FnS P w K mg base (k + 1) f fd ps (PrS errs P w K mg spec) := by
  obtain ⟨m, hm, hs⟩ := h
  refine fn_s Fd S (fun a C dd vs H Q E q => ?_) (fun cdv A outer s H vs Q E p C dd eo hr q => ?_)
  · obtain ⟨st, F, us, k, _, p, r, q, _⟩ := q
    rw [r.length]
    exact len _ _ _ q
  · obtain ⟨st', F, us, k, gC, P1, r, q, hk⟩ := q
    refine ⟨_, hm cdv A outer s H E ⟨⟨K, mg, st', some (p.1, C, dd), DN P w⟩, F, H, fun _ _ _ _ => False, false, (0, 0)⟩ p C dd rfl hr ⟨gC, rfl, rfl, rfl, rfl, eo, List.mem_cons_self⟩, F, _, _, rel_start (c := ⟨⟨K, mg, st', some (p.1, C, dd), DN P w⟩, F, H, fun _ _ _ _ => False, false, (0, 0)⟩) P1 r, hs us _ _ q, ?_⟩
    exact ⟨fun F' σ' env' H' _ R' h' => hk F' H' _ _ ⟨R'.base, R'.pool⟩ .non h', fun _ _ _ _ _ _ h' => h'.elim, fun _ _ _ _ _ _ h' => h'.elim, fun F' H' v u x r' _ h' => hk F' H' v u x r' h', wantsF⟩
/-- what is called raises nothing -/
def uCallS (spec : Spec) (ms : UA) : UM := fun ex env k => ms ex env fun ys env1 => UL.pins env1 ys fun us env2 => spec us (fun _ _ => False) fun r => k (.val r) env2
theorem ue_callS {X : Cx} {c : Uc} {a C dd : Addr} {oe : Obj} {errs : List Str} {k : Nat} {f : Addr} {fd : FuncData} {ps : List Str} {spec : Spec} {x : Str} {p pos : Pos} {e : Expr} {es : List Expr} {ms : UA} (ft : FitS errs c X a C dd oe) (G : FnS X.prog X.w X.K X.mg X.base k f fd ps (PrS errs X.prog X.w X.K X.mg spec)) (hr : L2H.RoomH k X.A)
    (hg : Gl X x) (hm : X.mg x = some (.ref f)) (hk : PySem.W.keepIn X.K (.ref f) = true) (hb : Binds X.K fd ps []) (ha : PA X (e :: es) (ta c ms))
    (hdb : (x == ("__debug__" : Str)) = false := by decide) (he : starEach (e :: es) X.env = (false, eval e X.env) :: starEach es X.env := by rfl)
    (hpl : (backTo pos (starEach es X.env)).any (·.1) = false := by rfl) : PE X (.Call (.Name x p) (e :: es) [] pos) (tm c (uCallS spec ms)) :=
  PE.imp (pe_callE G ft.eo ft.hp hr hg hm hk hb ha hdb he hpl) fun σ H Q ⟨F, env, ex, k, R, hm, hw, hk⟩ => by
    refine ⟨F, env, ex, _, R, hm, hw, fun F1 H1 env1 vs ys s1 R1 o1 h1 => ?_⟩
    obtain ⟨F2, env2, us, s2, R2, r2, h2⟩ := R1.pins o1 h1
    obtain ⟨⟨cK, cmg, cst, chot, cdn⟩, cF, cH, cwx, cfr, cme⟩ := c
    obtain rfl : chot = some (a, C, dd) := ft.hot
    obtain rfl : cdn = DN X.prog X.w := ft.dn
    have e1 : cK = X.K := ft.K
    have e2 : cmg = X.mg := ft.mg
    subst e1 e2
    exact ⟨cst, F2, us, _, ft.gC, R2.pool, r2, h2, fun F3 H3 v u x3 r3 h3 => hk F3 H3 env2 v (.val u) ((s1.trans s2).ext x3) (R2.ext x3) r3 h3⟩
end UL

/-! sorted of any data that are alike, from a list or a tuple -/
namespace PySem.W
open PySem PySem.Spec PySem.Calls PyProof.Rows
section
variable {prog : Program} {w : World} {A : Around} {E : Value → Shared → Prop} {s : Shared}
theorem collect_tupl {l : Addr} {vs : List Value} {Q : List Value → Shared → Prop} (hl : s.heap.IsTuple l vs.toArray) (hz : vs.length ≤ sizeLine)
    (h : Q vs { s with heap := (s.heap.push (seqObj "list" #[] 0)).update s.heap.objs.size (Obj.mapSeq (· ++ vs.toArray)) }) :
    wpAny (model prog w) A (collect (.ref l)) Q E s := by
  obtain ⟨ob, hob, hcl, m, hdat⟩ := id hl
  have keep : (s.heap.push (seqObj "list" #[] 0)).get? l = some ob := Heap.get?_push_of_some _ hob
  have isT : (Value.type "tuple" == Value.type "list" || Value.type "tuple" == Value.type "tuple") = true := by
    rfl
  unfold collect
  refine wpAny_bind (wpAny_runValue (codeAny_builtin PyProof.Rows.entry_proto_collect' ?_))
  refine (show wpAny _ _ (do again (.builtin "list.__iadd__" ⟨[← newList [], .ref l], []⟩)) _ _ s from ?_)
  refine wpAny_bind (wpAny_newList (wpAny_pure ⟨Code.quiet_builtin _ (by decide +kernel), ?_⟩))
  refine codeAny_builtin PyProof.Rows.entry_list_iadd' ?_
  refine (show wpAny _ _ (Builtin.List.listExtendWith (.ref s.heap.objs.size) (.ref l) (.ref s.heap.objs.size)) _ _
    { s with heap := s.heap.push (seqObj "list" #[] 0) } from ?_)
  unfold Builtin.List.listExtendWith
  refine wpAny_bind (wpAny_typeOf (T := "tuple") ⟨ob, keep, hcl⟩ ?_)
  rw [if_pos (by rw [Bool.or_eq_true] at isT; simp)]
  refine wpAny_bind (listItems_at keep hdat (wpAny_bind (listItems_at (xs := #[]) (n := 0) (Heap.get?_push_size _ rfl) rfl ?_)))
  rw [if_neg (by simp)]
  refine wpAny_bind (listUpdate_at (xs := #[]) (n := 0) (Heap.get?_push_size _ rfl) rfl (wpAny_pure ?_) (Nat.zero_le _) ?_)
  · refine (show wpAny (model prog w) A (do
        let o ← load s.heap.objs.size
        match o.data with
        | .seq xs _ => pure xs.toList
        | _ => unsupported "internal:collect") Q E
        { s with heap := (s.heap.push (seqObj "list" #[] 0)).update s.heap.objs.size (Obj.mapSeq (· ++ vs.toArray)) } from ?_)
    refine wpAny_bind (wpAny_load (get?_update_seq (Heap.get?_push_size _ rfl) _) ?_)
    refine (show wpAny _ _ (pure ((#[] : Array Value) ++ vs.toArray).toList) Q E _ from ?_)
    have e : ((#[] : Array Value) ++ vs.toArray).toList = vs := by simp
    rw [e]
    exact wpAny_pure h
  · show (#[] ++ vs.toArray).size ≤ sizeLine + 1
    rw [Array.size_append]
    simp
    omega
theorem sort_tupl {l : Addr} {vs : List Value} {Q : Value → Shared → Prop} (hl : s.heap.IsTuple l vs.toArray) (hL : vs.length ≤ sizeLine)
    (body : ∀ E' : Value → Shared → Prop, wpAny (model prog w) A.in1.in1 (Builtin.«list.sort» ⟨[.ref (s.heap.objs.size + 1)], []⟩) (fun f s' => f = .done (.ret .none) ∧ Q (.ref (s.heap.objs.size + 1)) s') E' { s with heap := copyHeap s.heap vs }) :
    wpAny (model prog w) A (call (.builtin "sorted") [.ref l]) Q E s := by
  refine call_function_entry_kw kind_sorted plain_sorted entry_sorted (args_sorted1 _) ?_
  unfold Builtin.«sorted»
  refine wpAny_bind (m := checkCount "sorted" 1 1 _) (wpAny_pure (wpAny_bind (collect_tupl hl hL (wpAny_bind (wpAny_newList ?_ hL)))))
  have q : ((s.heap.push (seqObj "list" #[] 0)).update s.heap.objs.size (Obj.mapSeq (· ++ vs.toArray))).objs.size = s.heap.objs.size + 1 := by
    rw [Heap.size_update]
    exact size_push' _ _
  refine (show wpAny _ _ _ _ _ { s with heap := copyHeap s.heap vs } from ?_)
  rw [q]
  refine wpAny_bind (wpAny_holding (wpAny_call_entry_kw slot_list_sort ⟨_, copyHeap_at s.heap vs, rfl⟩ entry_list_sort ?_ (args_list_sort _)))
  refine (show wpAny (model prog w) A.in1.in1 (Builtin.«list.sort» ⟨[.ref (s.heap.objs.size + 1)], []⟩) _ _ _ from ?_)
  refine wpAny_mono (body _) (fun f s' z => ?_) (fun _ _ z => z)
  obtain ⟨rfl, z⟩ := z
  exact ⟨_, rfl, wpAny_pure ⟨_, rfl, z⟩⟩
/-- sorted of a tuple of data -/
theorem sorted_dataT {β : Type} {R : Value → β → Prop} {enc : β → PyData} {bs : List β} {vs : List Value} {l : Addr} {Q : Value → Shared → Prop} (hl : s.heap.IsTuple l vs.toArray) (e : EachIs R vs bs) (er : EachIs (fun v b => ∃ as, Reads s.heap v (enc b) as) vs bs)
    (hal : AllAlike (bs.map enc)) (hk : Sortable (bs.map enc)) (hL : bs.length ≤ sizeLine) (hu : ∀ b, b ∈ bs → A.units + 2 + (enc b).depth < cLine)
    (h : ∀ out, out.length = bs.length → EachIs R out (bs.mergeSort (dataLe false enc)) → Q (.ref (s.heap.objs.size + 1)) { s with heap := sortedAll s.heap vs (List.toArray out) }) :
    wpAny (model prog w) A (call (.builtin "sorted") [.ref l]) Q E s := by
  let s2 : Shared := { s with heap := sortingHeap (copyHeap s.heap vs) (s.heap.objs.size + 1) vs }
  have er2 : EachIs (fun v b => ∃ as, Reads s2.heap v (enc b) as) vs bs := er.mono fun _ _ ⟨as, r⟩ => ⟨as, PyProof.Rows.Reads.keeps (fun _ _ => sorting_copy_old) r⟩
  have lz : vs.length ≤ sizeLine := by rw [e.length]; exact hL
  have S : SortsAt prog w A.in1.in1 s2 (dataKind s2.heap (bs.map enc)) vs := SortsAt.data (each_map (R := fun v d => ∃ as, Reads s2.heap v d as) enc er2) hal hk (bound_map (A := A.in1.in1) hu)
  refine sort_tupl hl lz fun E' => list_sort_vals (s := { s with heap := copyHeap s.heap vs }) (copyHeap_at s.heap vs) S lz ⟨rfl, ?_⟩
  exact h _ (by rw [sortVals_length false rfl]; exact e.length) (sortVals_data false e er2 hal)
end
end PySem.W

namespace UL
open PySem PySem.Spec PyProof.Rows L2
/-! ### sorted of alike data -/
def leD (p q : PyData) : Bool := PySem.W.dataLe false (fun d : PyData => d) p q
def srtD (bs : List (V × PyData)) : List V := (bs.mergeSort (PySem.W.dataLe false Prod.snd)).map Prod.fst
structure SortOk (ds : List PyData) : Prop where
  al : PySem.W.AllAlike ds
  so : PySem.W.Sortable ds
  dp : ∀ d ∈ ds, d.depth ≤ 50
def rSortD (K : PySem.W.Frag) : List V → Hp → VK → Prop := fun xs H Q => ∃ (p : Addr) (vs : List V) (ds : List PyData), xs = [.ref p] ∧ (SqL K H p vs ∨ SqT K H p vs) ∧ DpAll K H vs ds ∧ SortOk ds ∧
  ∀ q, H q = none → Q (.ref q) (upd H q (.lst (srtD (vs.zip ds))))
theorem dpAll_len {K : PySem.W.Frag} {H : Hp} : ∀ {vs : List V} {ds : List PyData}, DpAll K H vs ds → vs.length = ds.length
  | _, _, .nil => rfl
  | _, _, .cons _ r => by rw [List.length_cons, List.length_cons, dpAll_len r]
theorem each_zip {X : Cx} {pins : List (Addr × Obj)} {σ : L2.St} {H : Hp} {s : Shared} (I : Inv X pins σ H s) : ∀ {vs : List V} {us : List Value} {ds : List PyData}, DpAll X.K H vs ds → Vals vs us →
    PySem.W.EachIs (fun u b => RelV b.1 u) us (vs.zip ds) ∧ PySem.W.EachIs (fun u b => ∃ as, Reads s.heap u b.2 as) us (vs.zip ds)
  | _, _, _, .nil, .nil => ⟨.nil, .nil⟩
  | _, _, _, .cons a r, .cons b q => by
    obtain ⟨h1, h2⟩ := each_zip I r q
    exact ⟨.cons b h1, .cons (Dp.reads I _ _ _ a b) h2⟩
theorem each_vals : ∀ {us : List Value} {bs : List (V × PyData)}, PySem.W.EachIs (fun u b => RelV b.1 u) us bs → Vals (bs.map Prod.fst) us
  | _, _, .nil => .nil
  | _, _, .cons a r => .cons a (each_vals r)
theorem zip_snd {vs : List V} {ds : List PyData} (h : vs.length = ds.length) : (vs.zip ds).map Prod.snd = ds := by
  rw [List.map_snd_zip (by omega)]
theorem cr_sortD {X : Cx} (hu : X.A.units + 60 < cLine) : CallR X (.builtin "sorted") (rSortD X.K) := by
  intro pins s σ H xs us Q I r h
  obtain ⟨p, vs, ds, rfl, hs, hd, so, q⟩ := h
  obtain ⟨u, rfl, ru⟩ := vals1 r
  have eu : u = Value.ref p := ru
  subst eu
  have en : vs.length = ds.length := dpAll_len hd
  have fin : ∀ (its : List Value) (out : List Value), Vals vs its → vs.length ≤ sizeLine → out.length = (vs.zip ds).length → PySem.W.EachIs (fun u b => RelV b.1 u) out ((vs.zip ds).mergeSort (PySem.W.dataLe false Prod.snd)) →
      ∃ v H', Inv X pins σ H' { s with heap := sortedAll s.heap its (List.toArray out) } ∧ RelV v (.ref (s.heap.objs.size + 1)) ∧ Q v H' := fun its out rv hz hl eo => by
    have nw : H (s.heap.objs.size + 1) = none := I.hok.fresh (Nat.le_succ _)
    obtain ⟨e, he⟩ := sortedAll_at s.heap its (List.toArray out)
    refine ⟨.ref (s.heap.objs.size + 1), upd H (s.heap.objs.size + 1) (.lst (srtD (vs.zip ds))), I.laid (t' := s.toks) (fun b o z => sortedAll_old z) (Nat.le_succ _) ⟨?_, out, e, each_vals eo, he⟩, rfl, q _ nw⟩
    show (srtD (vs.zip ds)).length ≤ sizeLine
    unfold srtD
    rw [List.length_map, List.length_mergeSort, List.length_zip]
    omega
  have dp : ∀ b, b ∈ vs.zip ds → X.A.units + 2 + (Prod.snd b).depth < cLine := fun b hb => by
    have := so.dp b.2 (List.of_mem_zip (a := b.1) (b := b.2) hb).2
    omega
  rcases hs with hs | hs
  · obtain ⟨its, rv, hl, hz⟩ := I.list hs
    obtain ⟨e1, e2⟩ := each_zip I hd rv
    exact PySem.W.sorted_data (enc := Prod.snd) hl.isList e1 e2 (by rw [zip_snd en]; exact so.al) (by rw [zip_snd en]; exact so.so) (by rw [List.length_zip]; omega) dp fun out hl eo => fin its out rv hz hl eo
  · obtain ⟨its, rv, hl, hz⟩ := I.tuple hs
    obtain ⟨e1, e2⟩ := each_zip I hd rv
    exact PySem.W.sorted_dataT (enc := Prod.snd) (show s.heap.IsTuple p its.toArray from hl) e1 e2 (by rw [zip_snd en]; exact so.al) (by rw [zip_snd en]; exact so.so) (by rw [List.length_zip]; omega) dp fun out hl eo => fin its out rv hz hl eo
/-- what a datum says -/
def pyU (u : U) : PyData := (toPy u).getD .none
def leU (a b : U) : Bool := leD (pyU a) (pyU b)
def nSort : LN := fun us κ => match us with
  | [.lst xs] => (∃ ds, toPys xs = some ds ∧ SortOk ds) ∧ κ (xs.mergeSort leU)
  | [.tup xs] => (∃ ds, toPys xs = some ds ∧ SortOk ds) ∧ κ (xs.mergeSort leU)
  | _ => False
theorem toPys_map : ∀ {us : List U} {ds : List PyData}, toPys us = some ds → us.map pyU = ds
  | [], _, e => by cases e; rfl
  | u :: us, ds, e => by
    unfold toPys at e
    cases h1 : toPy u with
    | none => simp only [h1] at e; cases e
    | some d =>
      cases h2 : toPys us with
      | none => simp only [h1, h2] at e; cases e
      | some es =>
        simp only [h1, h2] at e
        cases e
        rw [List.map_cons, toPys_map h2]
        unfold pyU
        rw [h1]; rfl
theorem reps.of_mem {W : Wd} {F : Hp} : ∀ {vs : List V} {us : List U}, reps W F vs us → ∀ p ∈ vs.zip us, rep W F p.1 p.2
  | _, _, .nil, p, h => by simp at h
  | _, _, .cons a r, p, h => by
    rw [List.zip_cons_cons] at h
    rcases List.mem_cons.mp h with e | h
    · subst e; exact a
    · exact reps.of_mem r p h
theorem reps.of_all {W : Wd} {F : Hp} : ∀ (ps : List (V × U)), (∀ p ∈ ps, rep W F p.1 p.2) → reps W F (ps.map Prod.fst) (ps.map Prod.snd)
  | [], _ => .nil
  | p :: ps, h => .cons (h p List.mem_cons_self) (reps.of_all ps fun q hq => h q (List.mem_cons_of_mem _ hq))
theorem srt_reps {W : Wd} {F : Hp} {vs : List V} {us : List U} {ds : List PyData} (r : reps W F vs us) (e : toPys us = some ds) : reps W F (srtD (vs.zip ds)) (us.mergeSort leU) := by
  have el := r.length
  have ed := toPys_map e
  -- all by the pairs of a value and what it is read as
  have h1 : srtD (vs.zip ds) = ((vs.zip us).mergeSort fun p q => leU p.2 q.2).map Prod.fst := by
    have e1 : vs.zip ds = (vs.zip us).map fun p => (p.1, pyU p.2) := by
      rw [← ed, List.zip_map_right]; rfl
    unfold srtD
    rw [e1, ← List.map_mergeSort (r := fun p q : V × U => leU p.2 q.2) (s := PySem.W.dataLe false Prod.snd) (f := fun p : V × U => (p.1, pyU p.2)) (fun a _ b _ => rfl), List.map_map]
    rfl
  have h2 : us.mergeSort leU = ((vs.zip us).mergeSort fun p q => leU p.2 q.2).map Prod.snd := by
    have e2 : us = (vs.zip us).map Prod.snd := by rw [List.map_snd_zip (by omega)]
    conv => lhs; rw [e2]
    rw [← List.map_mergeSort (r := fun p q : V × U => leU p.2 q.2) (s := leU) (f := Prod.snd) (fun a _ b _ => rfl)]
  rw [h1, h2]
  refine reps.of_all _ fun p hp => r.of_mem p ?_
  exact (List.mergeSort_perm _ _).mem_iff.mp hp
theorem snd_sort {W : Wd} : SndNF W (rSortD W.K) nSort := fun F H vs us κ Q P hv hg hk => by
  unfold nSort at hg
  split at hg
  · rename_i xs
    obtain ⟨⟨ds, e, so⟩, hg⟩ := hg
    obtain ⟨v, rfl, h⟩ := hv.one
    obtain ⟨p, ws, rfl, h1, h2⟩ := h.list P.sub
    exact ⟨p, ws, ds, rfl, .inl (.inl (.inl h1)), dps_of (h2.mono P.sub) e, so, fun q hq => hk q _ _ hq (srt_reps h2 e) hg⟩
  · rename_i xs
    obtain ⟨⟨ds, e, so⟩, hg⟩ := hg
    obtain ⟨v, rfl, h⟩ := hv.one
    obtain ⟨p, ws, rfl, h1, h2⟩ := h.tupl P.sub
    exact ⟨p, ws, ds, rfl, .inr (Same.seqT P.sub h1), dps_of (h2.mono P.sub) e, so, fun q hq => hk q _ _ hq (srt_reps h2 e) hg⟩
  · exact hg.elim
theorem k_sortD {X : Cx} {c : Uc} (ft : Fit c X) (hu : X.A.units + 64 < cLine) : CallR X (.builtin "sorted") (rSortD c.W.K) := ft.K.symm ▸ cr_sortD (by omega)
end UL

namespace UL
open PySem PySem.Spec PyProof.Rows L2
section
variable {P : Program} {w : World} {K : PySem.W.Frag} {mg : Str → Option Value} {base : Heap} {W : Wd}
/-- x[i] of a list, a tuple or a text -/
def gIx : G2 := fun u w κ => match u with
  | .lst _ => gIxL u w κ
  | .tup _ => gIxT u w κ
  | .str _ => gIxS u w κ
  | _ => False
theorem snd_ix : Snd2 W (rIx W.K) gIx := fun F H x u y w κ Q P hx hy hg hk => by
  unfold gIx at hg
  split at hg
  · exact .inl (snd_ixL F H _ _ _ _ κ Q P hx hy hg hk)
  · exact .inr (.inl (snd_ixT F H _ _ _ _ κ Q P hx hy hg hk))
  · exact .inr (.inr (snd_ixS F H _ _ _ _ κ Q P hx hy hg hk))
  · exact hg.elim
theorem k_ix' {X : Cx} {c : Uc} (ft : Fit c X) : IxR X (rIx c.W.K) := ft.K.symm ▸ ix_seq
theorem uss_never {X : Cx} {c : Uc} {ss : List Stmt} : PSs X ss (ts c fun _ _ => False) := PSs.imp pss_never fun D σ H ⟨F, env, d, R, hm, E⟩ => hm.elim
/-- a promise of nothing -/
theorem fn_void {CX : CXT} {k : Nat} {f : Addr} {fd : FuncData} {ps : List Str} {fr : Bool} {spec : Spec} (h : ∀ us ex k, ¬ spec us ex k) : FnOk P w K mg base CX k f fd ps (Pr P w K mg fr spec) :=
  ⟨fun _ _ _ _ ⟨_, _, _, _, _, _, _, q, _⟩ => (h _ _ _ q).elim, fun _ _ _ _ _ _ _ _ _ _ _ _ _ ⟨_, _, _, _, _, _, _, q, _⟩ => (h _ _ _ q).elim⟩
end
/-! data of None, bools, integers, texts, lists and tuples -/
mutual
def plainU : U → Bool
  | .non => true
  | .bl _ => true
  | .int _ => true
  | .str _ => true
  | .lst xs => decide (xs.length ≤ 1000000) && plainUs xs
  | .tup xs => decide (xs.length ≤ 1000000) && plainUs xs
  | _ => false
def plainUs : List U → Bool
  | [] => true
  | x :: xs => plainU x && plainUs xs
end
mutual
def depU : U → Nat
  | .lst xs => depUs xs + 1
  | .tup xs => depUs xs + 1
  | _ => 0
def depUs : List U → Nat
  | [] => 0
  | x :: xs => max (depU x) (depUs xs)
end
mutual
/-- told is due, kinds and all -/
def sameU : U → U → Bool
  | .non, .non => true
  | .bl a, .bl b => a == b
  | .int a, .int b => a == b
  | .str a, .str b => a == b
  | .lst xs, .lst ys => sameUs xs ys
  | .tup xs, .tup ys => sameUs xs ys
  | _, _ => false
def sameUs : List U → List U → Bool
  | [], [] => true
  | x :: xs, y :: ys => sameU x y && sameUs xs ys
  | _, _ => false
end
def isBl : U → Bool
  | .bl _ => true
  | _ => false
def isIn : U → Bool
  | .bl _ => true
  | .int _ => true
  | _ => false
def isTx : U → Bool
  | .str _ => true
  | _ => false
def isLs : U → Bool
  | .lst _ => true
  | _ => false
def isTu : U → Bool
  | .tup _ => true
  | _ => false
theorem isi_of {u : U} {κ : U → Prop} {s n : String} {b : Bool} (h : tyU u = some s) (q : kitB s n = some b) : nIsi [u, .ty n] κ = κ (.bl b) :=
  propext ⟨fun ⟨t, b', e1, e2, hk⟩ => by rw [h] at e1; cases e1; rw [q] at e2; cases e2; exact hk, fun hk => ⟨s, b, h, q, hk⟩⟩
theorem isi_bool {u : U} {κ : U → Prop} (h : plainU u = true) : nIsi [u, .ty "bool"] κ = κ (.bl (isBl u)) := by
  cases u <;> simp only [plainU, Bool.false_eq_true] at h <;> exact isi_of rfl rfl
theorem isi_int {u : U} {κ : U → Prop} (h : plainU u = true) : nIsi [u, .ty "int"] κ = κ (.bl (isIn u)) := by
  cases u <;> simp only [plainU, Bool.false_eq_true] at h <;> exact isi_of rfl rfl
theorem isi_str {u : U} {κ : U → Prop} (h : plainU u = true) : nIsi [u, .ty "str"] κ = κ (.bl (isTx u)) := by
  cases u <;> simp only [plainU, Bool.false_eq_true] at h <;> exact isi_of rfl rfl
theorem isi_list {u : U} {κ : U → Prop} (h : plainU u = true) : nIsi [u, .ty "list"] κ = κ (.bl (isLs u)) := by
  cases u <;> simp only [plainU, Bool.false_eq_true] at h <;> exact isi_of rfl rfl
theorem isi_tuple {u : U} {κ : U → Prop} (h : plainU u = true) : nIsi [u, .ty "tuple"] κ = κ (.bl (isTu u)) := by
  cases u <;> simp only [plainU, Bool.false_eq_true] at h <;> exact isi_of rfl rfl
theorem isi_dict {u : U} {κ : U → Prop} (h : plainU u = true) : nIsi [u, .ty "dict"] κ = κ (.bl false) := by
  cases u <;> simp only [plainU, Bool.false_eq_true] at h <;> exact isi_of rfl rfl
theorem plainUs_mem {xs : List U} (h : plainUs xs = true) {x : U} (m : x ∈ xs) : plainU x = true := by
  induction xs with
  | nil => cases m
  | cons y ys ih =>
    simp [plainUs] at h
    cases m with
    | head => exact h.1
    | tail _ m => exact ih h.2 m
theorem depUs_mem {xs : List U} {x : U} (m : x ∈ xs) : depU x ≤ depUs xs := by
  induction xs with
  | nil => cases m
  | cons y ys ih =>
    simp [depUs]
    cases m with
    | head => omega
    | tail _ m => have := ih m; omega
theorem same_len : ∀ {xs ys : List U}, sameUs xs ys = true → xs.length = ys.length
  | [], [], _ => rfl
  | x :: xs, y :: ys, h => by
    simp [sameUs] at h
    simp [same_len h.2]
  | [], _ :: _, h => by simp [sameUs] at h
  | _ :: _, [], h => by simp [sameUs] at h
def sameAt (xs ys : List U) (i : Nat) : Bool := match xs[i]?, ys[i]? with
  | some x, some y => sameU x y
  | _, _ => false
theorem same_all : ∀ {xs ys : List U}, xs.length = ys.length → ((List.range ys.length).all (sameAt xs ys)) = sameUs xs ys
  | [], [], _ => rfl
  | x :: xs, y :: ys, h => by
    have h' : xs.length = ys.length := by simpa using h
    rw [List.length_cons, List.range_succ_eq_map, List.all_cons, List.all_map]
    have e : (sameAt (x :: xs) (y :: ys) ∘ Nat.succ) = sameAt xs ys := rfl
    rw [e, same_all h']
    rfl
  | [], _ :: _, h => by simp at h
  | _ :: _, [], h => by simp at h
def ixU : U → Nat
  | .int i => i.toNat
  | _ => 0
theorem rng_ixs (n : Nat) (F : Nat → Bool) : bls ((rng 0 n).map fun u => U.bl (F (ixU u))) = some ((List.range n).map F) := by
  rw [bls_map]
  congr 1
  unfold rng
  rw [List.map_map]
  have : ((n : Int) - 0).toNat = n := by omega
  rw [this]
  refine List.map_congr_left fun i _ => ?_
  show F ((0 + (i : Int)).toNat) = F i
  congr 1; omega
/-- all([.. for k in range(n)]) -/
theorem lc_all {n : Nat} {turn : U → (Option U → Prop) → Prop} {k : Bool → Prop} (F : Nat → Bool) (ht : ∀ i : Nat, i < n → ∀ κ : Option U → Prop, κ (some (.bl (F i))) → turn (.int i) κ) (h : k ((List.range n).all F)) :
    lcRun turn (rng 0 n) [] fun zs => nAll [.lst zs] fun r => match r with
      | .bl b => k b
      | _ => False := by
  refine lcRun_map (fun u => .bl (F (ixU u))) (fun u hu κ hk => ?_) ⟨_, rng_ixs n F, ?_⟩
  · obtain ⟨i, hi⟩ := List.getElem?_of_mem hu
    obtain ⟨h1, rfl⟩ := rng_get.mp hi
    have e : (0 + (i : Int)) = (i : Int) := by omega
    rw [e] at hk ⊢
    exact ht i (by omega) κ hk
  · rw [List.all_map]; exact h
theorem lc_all' {n : Nat} {turn : U → (Option U → Prop) → Prop} {k : U → Prop} (F : Nat → Bool) (ht : ∀ i : Nat, i < n → ∀ κ : Option U → Prop, κ (some (.bl (F i))) → turn (.int i) κ) (h : k (.bl ((List.range n).all F))) :
    lcRun turn (rng 0 n) [] fun zs => nAll [.lst zs] fun r => k r := by
  refine lcRun_map (fun u => .bl (F (ixU u))) (fun u hu κ hk => ?_) ⟨_, rng_ixs n F, ?_⟩
  · obtain ⟨i, hi⟩ := List.getElem?_of_mem hu
    obtain ⟨h1, rfl⟩ := rng_get.mp hi
    have e : (0 + (i : Int)) = (i : Int) := by omega
    rw [e] at hk ⊢
    exact ht i (by omega) κ hk
  · rw [List.all_map]; exact h
theorem rng_length (n : Nat) : (rng 0 n).length = n := by unfold rng; simp
end UL

namespace UL
open PySem PySem.Spec PyProof.Rows L2
/-! ### a text times a number -/
def mulS (z : Str) (n : Int) : Str := ⟨(List.replicate n.toNat z.cps).foldl (· ++ ·) #[]⟩
theorem fold_size (c : Array Nat) : ∀ (k : Nat) (acc : Array Nat), ((List.replicate k c).foldl (· ++ ·) acc).size = acc.size + k * c.size
  | 0, acc => by simp
  | k + 1, acc => by
    rw [List.replicate_succ, List.foldl_cons, fold_size c k, Array.size_append, Nat.add_mul]
    omega
theorem mulS_len (z : Str) (n : Int) : (mulS z n).length = n.toNat * z.length := by
  show ((List.replicate n.toNat z.cps).foldl (· ++ ·) #[]).size = n.toNat * z.cps.size
  rw [fold_size]
  simp
def rMulS : R2 := fun x y H Q => ∃ (z : Str) (n : Int), x = .str z ∧ y = .int n ∧ 2 ≤ n ∧ n ≤ 1000 ∧ 1 ≤ z.length ∧ z.length ≤ 1000 ∧ Q (.str (mulS z n)) H
section
variable {X : Cx}
theorem op_mulS : OpR X (binaryOp .Mult) rMulS := by
  intro pins s σ H x y v u Q I rx ry h
  obtain ⟨z, n, rfl, rfl, n1, n2, z1, z2, q⟩ := h
  obtain ⟨t, rfl⟩ := rx
  obtain ⟨t', rfl⟩ := ry
  have hlen : z.length * n.toNat ≤ 1000000 := by
    have : n.toNat ≤ 1000 := by omega
    exact Nat.le_trans (Nat.mul_le_mul z2 this) (by decide)
  refine PySem.P.mul_str ?_ (fun _ _ => ?_) (fun _ _ => ?_) ?_
  · have h1 : ¬ n < -(2 ^ 63 : Int) := by omega
    have h2 : ¬ n ≥ 2 ^ 63 := by omega
    rw [decide_eq_false h1, decide_eq_false h2]; rfl
  · intro hgt
    have hh : (2 ^ 63 - 1) / n ≥ 1000 := by
      apply (Int.le_ediv_iff_mul_le (by omega)).mpr
      omega
    omega
  · unfold Builtin.Str.tooLong
    exact decide_eq_false (by have : (1000000 : Nat) < 2 ^ 63 := by decide
                              have := szl hlen
                              simp only [sizeLine] at *
                              omega)
  · rw [if_neg (by omega), if_neg (by
      have h1 : (n == 1) = false := by simpa using (by omega : ¬ n = 1)
      have h2 : (z.length == 0) = false := by simpa using (by omega : ¬ z.length = 0)
      rw [h1, h2]; decide)]
    refine ⟨?_, .str (mulS z n), H, I.tok _, ⟨_, rfl⟩, q⟩
    exact UL.szl (by have := mulS_len z n; rw [Nat.mul_comm] at this; unfold mulS at this; rw [this]; exact hlen)
end

def gMulS : G2 := fun u w κ => match u, w with
  | .str z, .int n => (2 ≤ n ∧ n ≤ 1000 ∧ 1 ≤ z.length ∧ z.length ≤ 1000) ∧ κ (.str (mulS z n))
  | _, _ => False
theorem s_mulS {W : Wd} : Snd2 W rMulS gMulS := fun F H x u y w κ Q P hx hy hg hk => by
  unfold gMulS at hg
  split at hg
  · rename_i z n
    obtain ⟨⟨h1, h2, h3, h4⟩, hg⟩ := hg
    exact ⟨z, n, hx.str, hy.int, h1, h2, h3, h4, hk F H _ _ (Ext.refl P) (.str _) hg⟩
  · exact hg.elim
theorem str_len (z : Str) : z.cps.toList.length = z.length := Array.length_toList
theorem sum_ones : ∀ {ys : List Str}, (∀ y ∈ ys, y.length = 1) → (ys.map (·.length)).sum = ys.length
  | [], _ => rfl
  | y :: ys, h => by
    rw [List.map_cons, List.sum_cons, h y List.mem_cons_self, sum_ones fun z hz => h z (List.mem_cons_of_mem _ hz), List.length_cons]
    omega
theorem joinL_nil : ∀ ps : List (List Nat), (TL.joinL [] ps).length = (ps.map (·.length)).sum
  | [] => rfl
  | [p] => by show p.length = p.length + 0; rfl
  | p :: q :: r => by
    show (p ++ ([] ++ TL.joinL [] (q :: r))).length = p.length + _
    rw [List.nil_append, List.length_append, joinL_nil (q :: r)]
    rfl
theorem join_len (ys : List Str) : (Txt.join (Str.ofString "") ys).length = (ys.map (·.length)).sum := by
  rw [TL.join_eq, ← str_len]
  have h := TL.tl_join (Str.ofString "") ys
  have e : (TL.tl (Str.join (Str.ofString "") ys)).length = ((ys.map TL.tl).map (·.length)).sum := by
    rw [h]
    exact joinL_nil _
  rw [List.map_map] at e
  refine e.trans ?_
  congr 1

/-! comprehensions whose items are drawn -/
theorem lc_eachA {turn : U → (Option U → Prop) → Prop} (p : U → Prop) : ∀ {us acc : List U} {k : List U → Prop}, (∀ u ∈ us, ∀ κ : Option U → Prop, (∀ y, p y → κ (some y)) → turn u κ) → (∀ ys, ys.length = us.length → (∀ y ∈ ys, p y) → k (acc ++ ys)) → lcRun turn us acc k
  | [], acc, k, _, h => by have := h [] rfl (fun y hy => by cases hy); rw [List.append_nil] at this; exact this
  | u :: us, acc, k, ht, h => by
    refine ht u List.mem_cons_self _ fun y hy => lc_eachA p (fun u hu => ht u (List.mem_cons_of_mem _ hu)) fun ys hl hp => ?_
    have := h (y :: ys) (by simp [hl]) (fun z hz => by
      rcases List.mem_cons.mp hz with rfl | hz
      · exact hy
      · exact hp z hz)
    simpa using this
theorem lc_each {turn : U → (Option U → Prop) → Prop} (p : U → Prop) {us : List U} {k : List U → Prop} (ht : ∀ u ∈ us, ∀ κ : Option U → Prop, (∀ y, p y → κ (some y)) → turn u κ) (h : ∀ ys, ys.length = us.length → (∀ y ∈ ys, p y) → k ys) : lcRun turn us [] k :=
  lc_eachA p ht fun ys a b => h ys a b
theorem lc_eachR {turn : U → (Option U → Prop) → Prop} (p : U → Prop) {n : Int} {k : List U → Prop} (ht : ∀ i : Int, 0 ≤ i → i < n → ∀ κ : Option U → Prop, (∀ y, p y → κ (some y)) → turn (.int i) κ) (h : ∀ ys, ys.length = n.toNat → (∀ y ∈ ys, p y) → k ys) : lcRun turn (rng 0 n) [] k :=
  lc_each p (fun u hu κ hk => by
    obtain ⟨i, hi⟩ := List.getElem?_of_mem hu
    obtain ⟨h1, rfl⟩ := rng_get.mp hi
    exact ht _ (by omega) h1 κ hk) fun ys a b => h ys (by rw [a]; unfold rng; simp) b
theorem rng_len' {n : Int} : (rng 0 n).length = n.toNat := by unfold rng; simp
theorem txs_each {p : Str → Prop} : ∀ {ys : List U}, (∀ y ∈ ys, ∃ z, y = .str z ∧ p z) → ∃ zs, ys = txs zs ∧ ∀ z ∈ zs, p z
  | [], _ => ⟨[], rfl, fun z hz => by cases hz⟩
  | y :: ys, h => by
    obtain ⟨z, rfl, hz⟩ := h y List.mem_cons_self
    obtain ⟨zs, rfl, hzs⟩ := txs_each fun y hy => h y (List.mem_cons_of_mem _ hy)
    exact ⟨z :: zs, rfl, fun x hx => by
      rcases List.mem_cons.mp hx with rfl | hx
      · exact hz
      · exact hzs x hx⟩
theorem atI_ex {α : Type} {xs : List α} {i : Int} {q : α → Prop} (h0 : 0 ≤ i) (h1 : i < xs.length) (h : ∀ x ∈ xs, q x) : ∃ c, atI xs i = some c ∧ q c := by
  obtain ⟨n, rfl⟩ : ∃ n : Nat, i = n := ⟨i.toNat, by omega⟩
  have hn : n < xs.length := by omega
  exact ⟨xs[n], atI_nat (List.getElem?_eq_getElem hn), h _ (List.getElem_mem hn)⟩
theorem repr_digit {r : Int} (h0 : 0 ≤ r) (h1 : r < 10) : (Str.ofString r.repr).length = 1 := by
  obtain h | h | h | h | h | h | h | h | h | h : r = 0 ∨ r = 1 ∨ r = 2 ∨ r = 3 ∨ r = 4 ∨ r = 5 ∨ r = 6 ∨ r = 7 ∨ r = 8 ∨ r = 9 := by omega
  all_goals subst h; decide +kernel
/-! strip(signs) -/
def gStrip : Str → U → (U → Prop) → Prop := fun z w κ => match w with
  | .str y => z.length ≤ 1000000 ∧ κ (.str (Txt.stripChars z y))
  | _ => False
theorem snd_strip {c : Uc} : ∀ (F H : Hp) (z : Str) (x : V) (w : U) (κ : U → Prop) (Q : VK), Pool c.W F H → View c.W F H x w → gStrip z w κ → (∀ F' H' v u, Ext c.W F H F' H' → rep c.W F' v u → κ u → Q v H') →
    ∃ a b, V.str z = .str a ∧ [x] = [.str b] ∧ a.length ≤ sizeLine ∧ Q (.str (Txt.stripChars a b)) H := fun F H z x w κ Q P hx hg hk => by
  unfold gStrip at hg
  split at hg
  · rename_i y
    have := hx.str
    subst this
    exact ⟨z, y, rfl, rfl, szl hg.1, hk F H _ _ (Ext.refl P) (.str _) hg.2⟩
  · exact hg.elim
end UL

namespace UL
open PySem PySem.Spec PyProof.Rows L2
/-! ### dicts whose keys are None, ints and texts -/
def kN : Option L2.Key → V
  | none => .non
  | some k => kV k
def kU : Option L2.Key → U
  | none => .non
  | some (.inl i) => .int i
  | some (.inr z) => .str z
theorem kU_rep {W : Wd} {F : Hp} : ∀ k, rep W F (kN k) (kU k)
  | none => .non
  | some (.inl i) => .int i
  | some (.inr z) => .str z
section
variable {X : Cx} {pins : List (Addr × Obj)} {σ : L2.St} {H : Hp} {s : Shared} {p : Addr} {o : Obj} {kvs : List (Option L2.Key × V)} {A : Around} {E : Value → Shared → Prop}
theorem kN_is {P : Program} {w : World} {k : Option L2.Key} {u : Value} (r : RelV (kN k) u) : (noneKind P w).is k u = true := by
  cases k with
  | none => cases (show u = Value.none from r); rfl
  | some k => exact kV_is (P := P) (w := w) r
theorem kN_of {k : Option L2.Key} {u : Value} (h : nkIs k u = true) : RelV (kN k) u := by
  cases k with
  | none => exact nk_none h
  | some k => exact relV_key h
/-- what is known of such a dict that never changes -/
theorem dn_at (I : Inv X pins σ H s) (e : H p = some (.frz o (DN X.prog X.w p kvs))) : kvs.length ≤ sizeLine ∧ (p == sysModules) = false ∧ s.heap.get? p = some o ∧ ∃ vs, KV kvs vs ∧ s.heap.DictOf (noneKind X.prog X.w) p vs := by
  obtain ⟨ho, ⟨hl, hs, vs, kv, dd⟩, _⟩ := I.hok p _ e
  exact ⟨hl, hs, ho, vs, kv, dd⟩
def rIxN (P : Program) (w : World) : R2 := fun x y H Q => ∃ p o kvs k v, x = .ref p ∧ H p = some (.frz o (DN P w p kvs)) ∧ y = kN k ∧ valV kvs k = some v ∧ Q v H
theorem ix_dn : IxR X (rIxN X.prog X.w) := by
  intro value slice pins s σ H x y v u Q I rx ry h hs
  obtain ⟨p, o, kvs, k, r, rfl, e, rfl, l, q⟩ := h
  obtain rfl : v = Value.ref p := rx
  obtain ⟨_, _, ho, vs, kv, dd⟩ := dn_at I e
  obtain ⟨w', hw, rw'⟩ := RelO.some_of (v := r) (o := valueAt vs k) (by rw [← l]; exact kv.val k)
  exact tail_any dd.typeIs PySem.F.slot_dict_getitem.lookup (wpAny_getItem_of (kN_is ry) dd.mapOf hw ⟨r, H, I.tok _, rw', q⟩) hs
def rInN (P : Program) (w : World) : R2 := fun x y H Q => ∃ p o kvs k, y = .ref p ∧ H p = some (.frz o (DN P w p kvs)) ∧ x = kN k ∧ Q (.bl (valV kvs k).isSome) H
theorem op_inN : OpR X (compareOp .In) (rInN X.prog X.w) := by
  intro pins s σ H x y v u Q I rx ry h
  obtain ⟨p, o, kvs, k, rfl, e, rfl, q⟩ := h
  obtain rfl : u = Value.ref p := ry
  obtain ⟨_, hd, ho, vs, kv, dd⟩ := dn_at I e
  refine wpAny_in_of (kN_is rx) hd dd.mapOf ?_
  rw [← (kv.val k).isSome_eq]
  exact ⟨.bl _, H, I.tok _, rfl, q⟩
def rLenN (P : Program) (w : World) : List V → Hp → VK → Prop := fun xs H Q => ∃ p o kvs, xs = [.ref p] ∧ H p = some (.frz o (DN P w p kvs)) ∧ Q (.int kvs.length) H
theorem call_lenN : CallR X (.builtin "len") (rLenN X.prog X.w) := by
  intro pins s σ H xs us Q I r h
  obtain ⟨p, o, kvs, rfl, e, q⟩ := h
  cases r with
  | cons r1 r2 =>
    cases r2
    cases r1
    obtain ⟨z, hd, ho, vs, kv, dd⟩ := dn_at I e
    have hl : kvs.length = vs.length := Paired.length kv
    refine call_len_dict hd dd (by rw [← hl]; rw [sizeLine_eq] at z; omega) ?_
    rw [← hl]
    exact ⟨.int _, H, I.tok _, ⟨_, rfl⟩, q⟩
def rIsiN (K : PySem.W.Frag) (P : Program) (w : World) : List V → Hp → VK → Prop := fun xs H Q => ∃ (p : Addr) (o : Obj) (kvs : List (Option L2.Key × V)) (c : V) (u : Value) (b : Bool), xs = [.ref p, c] ∧ ClsV c u ∧ H p = some (.frz o (DN P w p kvs)) ∧ PySem.W.kitOne K (.type "dict") u = some b ∧ Q (.bl b) H
theorem call_isiN : CallR X (.builtin "isinstance") (rIsiN X.K X.prog X.w) := by
  intro pins s σ H xs us Q I r h
  obtain ⟨p, o, kvs, c, u, b, rfl, k, e, e1, q⟩ := h
  cases r with
  | cons r1 r2 =>
    cases r2 with
    | cons r2 r3 =>
      cases r3
      cases r1
      have e2 := k.eq r2
      subst e2
      obtain ⟨z, hd, ho, vs, kv, dd⟩ := dn_at I e
      obtain ⟨o', es, ep, h1, hx, _⟩ := id dd
      exact PySem.W.kia_one PySem.W.kitx_dict I.kIn ⟨o', h1, hx.1⟩ e1 (fun z => nomatch z) fun tk => ⟨.bl b, H, I.tok tk, rfl, q⟩
/-! walks over its keys -/
def Itn (P : Program) (w : World) (d : Addr) (o : Obj) (kvs : List (Option L2.Key × V)) : It :=
  ⟨fun i H => H d = some (.frz o (DN P w d kvs)) ∧ i < kvs.length, fun i H x H' => H' = H ∧ ∃ k v, kvs[i]? = some (k, v) ∧ x = kN k, fun i H => H d = some (.frz o (DN P w d kvs)) ∧ kvs.length ≤ i⟩
theorem dn_iter (I : Inv X pins σ H s) (e : H p = some (.frz o (DN X.prog X.w p kvs))) : (p == sysModules) = false ∧ s.heap.get? p = some o ∧ o.ExactDict ∧ ∃ (es : Array DictEntry) (ep : Nat) (vs : List (Option L2.Key × Value)), o.data = .dict es ep ∧ es.size = kvs.length ∧ KV kvs vs ∧ s.heap.DictAt (noneKind X.prog X.w) p vs ep := by
  obtain ⟨z, hd, ho, vs, kv, o', es, ep, h1, hx, h2, h3⟩ := dn_at I e
  rw [ho] at h1
  cases h1
  refine ⟨hd, ho, hx, es, ep, vs, h2, ?_, kv, o, es, ho, hx, h2, h3⟩
  have l1 := h3.2.1.length
  have l2 : kvs.length = vs.length := Paired.length kv
  rw [Array.length_toList] at l1
  omega
theorem turn_dn {P : Program} {w : World} {K : PySem.W.Frag} {tg : Expr} {d : Addr} {es : Array DictEntry} {ep : Nat} (it : Addr) (hod : o.data = .dict es ep) : Turn P w K tg (Itn P w d o kvs) [it] it (fun i h => h.IsKeyIter it d i kvs.length ep) where
  mem := List.mem_singleton.mpr rfl
  obj := fun i h st b hb => by
    rw [List.mem_singleton] at hb
    subst hb
    obtain ⟨oi, e, c, dd⟩ := st
    exact ⟨oi, e, fun v z => by rw [dd] at z; cases z⟩
  keep := fun i h h' st k => st.at fun oi e => k it (List.mem_singleton.mpr rfl) oi e
  item := by
    intro X hP hw hK hc i pins s σ H E I hf st hg
    subst hP hw hK
    obtain ⟨hd, hi⟩ := hg
    obtain ⟨f0, f1, f2, f3, f4, f5⟩ := hf it (List.mem_singleton.mpr rfl)
    obtain ⟨_, _, _, es', ep', vs, hdt, _, kv, hm⟩ := dn_iter I hd
    obtain ⟨rfl, rfl⟩ := dict_ep hod hdt
    have hkv : kvs[i]? = some (kvs[i].1, kvs[i].2) := List.getElem?_eq_getElem hi
    obtain ⟨u, hu, ru⟩ := kv_get kv hkv
    have hl : kvs.length = vs.length := Paired.length kv
    rw [hl] at st
    refine wpAny_pyNext_dict_item st hm hu fun key h' hkey st' sb => ?_
    have I1 : Inv X pins σ H { s with heap := h' } := I.turned (t' := s.toks) (fun b ob hb e => (sb.2 b hb).trans e) f0 f1 f3 f4 f5
    obtain ⟨oi, e, c, dd⟩ := id st'
    exact ⟨key, rfl, go_of (s := { s with heap := h' }) e c dd (by decide) ⟨kN kvs[i].1, H, I1, kN_of hkey, ⟨rfl, _, _, hkv, rfl⟩, by rw [hl]; exact st', fun b hb => (hf b hb).1⟩⟩
  done := by
    intro X hP hw hK hc i pins s σ H E I hf st hg
    subst hP hw hK
    obtain ⟨hd, hi⟩ := hg
    obtain ⟨f0, f1, f2, f3, f4, f5⟩ := hf it (List.mem_singleton.mpr rfl)
    obtain ⟨_, hgd, _, es', ep', vs, hdt, hsz, kv, hm⟩ := dn_iter I hd
    obtain ⟨rfl, rfl⟩ := dict_ep hod hdt
    exact next_key_end (I.ok.hd hc) st hgd hdt hsz hi fun h' eb => ⟨rfl, I.turned (t' := s.toks) (fun b ob hb e => eb b ob hb e) f0 f1 f3 f4 f5⟩
  self := fun A i s Q E st h => wpAny_pyIter_keyiter st h
def iDn (P : Program) (w : World) (td : TE) : TI := fun σ H R => td σ H fun x H1 => ∃ d o kvs, x = .ref d ∧ H1 d = some (.frz o (DN P w d kvs)) ∧ R (Itn P w d o kvs) H1
theorem pi_dn {tg e : Expr} {td : TE} (he : PE X e td) : PI X tg e (iDn X.prog X.w td) := by
  refine ⟨fun pins s σ H R I h => ?_⟩
  refine thn (he.run pins s σ H _ I h) fun u s1 ⟨x, H1, I1, rx, d, o, kvs, ex, hd, q⟩ => ?_
  subst ex
  obtain rfl : u = Value.ref d := rx
  obtain ⟨hs, hgd, hx, es, ep, vs, hdt, hsz, kv, hm⟩ := dn_iter I1 hd
  refine iter_keys hs hgd hx hdt (pi_one (tk := s1.toks) I1 _ (turn_dn _ hdt) ⟨_, Heap.get?_push_size _ rfl, rfl, ?_⟩ q)
  rw [hsz] <;> rfl
theorem walk_dn {P : Program} {w : World} {d : Addr} : Walk (Itn P w d o kvs) kvs.length (fun H => H d = some (.frz o (DN P w d kvs))) (fun i H x H' => H' = H ∧ ∃ k v, kvs[i]? = some (k, v) ∧ x = kN k) :=
  ⟨fun _ _ hi q => ⟨q, hi⟩, fun _ q => ⟨q, Nat.le_refl _⟩, fun _ _ _ _ _ _ y => y⟩
end
end UL

namespace UL
open PySem PySem.Spec PyProof.Rows L2
/-- what stands at a key -/
def atK : List (Option L2.Key) → List U → Option L2.Key → Option U
  | k :: ks, u :: us, j => if k = j then some u else atK ks us j
  | _, _, _ => none
/-- in its place, or at the end -/
def putN (ks : List (Option L2.Key)) (us : List U) (j : Option L2.Key) (w : U) : List (Option L2.Key) × List U :=
  if (ks.any fun k => decide (k = j)) = true then (ks, List.zipWith (fun k u => if k = j then w else u) ks us) else (ks ++ [j], us ++ [w])
section
variable {W : Wd} {F : Hp}
theorem atK_rep {us : List U} {vs : List V} (r : reps W F vs us) : ∀ {ks : List (Option L2.Key)} {j : Option L2.Key}, ks.length = us.length → (valV (ks.zip vs) j = none ∧ atK ks us j = none) ∨ ∃ v u, valV (ks.zip vs) j = some v ∧ atK ks us j = some u ∧ rep W F v u := by
  induction us generalizing vs with
  | nil =>
    intro ks j l
    cases ks with
    | nil => cases r; exact .inl ⟨rfl, rfl⟩
    | cons _ _ => simp at l
  | cons u us ih =>
    intro ks j l
    cases r with
    | @cons v _ vs _ r1 r2 =>
      cases ks with
      | nil => simp at l
      | cons k ks =>
        by_cases e : k = j
        · right
          refine ⟨v, u, ?_, ?_, r1⟩
          · rw [List.zip_cons_cons]; exact valV_pos (p := (k, v)) e
          · unfold atK; rw [if_pos e]
        · have h1 : valV ((k :: ks).zip (v :: vs)) j = valV (ks.zip vs) j := by rw [List.zip_cons_cons]; exact valV_neg (p := (k, v)) e
          have h2 : atK (k :: ks) (u :: us) j = atK ks us j := by conv => lhs; unfold atK; rw [if_neg e]
          rw [h1, h2]
          exact ih r2 (by simpa using l)
theorem View.dcn {F H : Hp} {v : V} {ks : List (Option L2.Key)} {us : List U} (P : Same F H) (h : View W F H v (.dcn ks us)) : ∃ p o vs, v = .ref p ∧ H p = some (.frz o (W.dn p (ks.zip vs))) ∧ ks.length = us.length ∧ reps W F vs us := by
  cases h with
  | pool r => cases r with | dcn h l r => exact ⟨_, _, _, rfl, P _ _ h, l, r⟩
def keyN : U → Option (Option L2.Key)
  | .non => some none
  | .int i => some (some (.inl i))
  | .str z => some (some (.inr z))
  | _ => none
theorem keyN_of {H : Hp} {v : V} {u : U} {k : Option L2.Key} (h : View W F H v u) (e : keyN u = some k) : v = kN k := by
  cases h with
  | own _ _ _ => cases e
  | pool r => cases r <;> cases e <;> rfl
theorem zip_len {ks : List (Option L2.Key)} {vs : List V} {us : List U} (l : ks.length = us.length) (r : reps W F vs us) : (ks.zip vs).length = us.length := by
  rw [List.length_zip, l, r.length]; exact Nat.min_self _
end
/-! x[i] of a list, a tuple, a text or such a dict -/
def gIx2 : G2 := fun u w κ => match u with
  | .dcn ks us => ∃ k r, keyN w = some k ∧ atK ks us k = some r ∧ κ r
  | _ => gIx u w κ
def gInN : G2 := fun u w κ => match w with
  | .dcn ks us => ∃ k, keyN u = some k ∧ κ (.bl (atK ks us k).isSome)
  | _ => False
def nLen2 : GN := fun us κ => match us with
  | [.dcn ks _] => κ (.int ks.length)
  | _ => nLen us κ
def nIsi2 : GN := fun us κ => match us with
  | [.dcn _ _, .ty n] => ∃ b, kitB "dict" n = some b ∧ κ (.bl b)
  | _ => nIsi us κ
def iDcn (m : UM) : UI := fun ex env k => m ex env fun y env1 => UL.pin env1 y fun u env2 => match u with
  | .dcn ks _ => k (ks.map kU) env2
  | _ => False
section
variable {X : Cx} {c : Uc}
theorem snd_ix2 (ft : Fit c X) : Snd2 c.W (fun x y H Q => rIx c.W.K x y H Q ∨ rIxN X.prog X.w x y H Q) gIx2 := fun F H x u y w κ Q P hx hy hg hk => by
  unfold gIx2 at hg
  split at hg
  · rename_i ks us
    obtain ⟨k, r, e1, e2, hg⟩ := hg
    obtain ⟨p, o, vs, rfl, h1, l, r1⟩ := hx.dcn P.sub
    rw [ft.dn] at h1
    rcases atK_rep r1 (j := k) l with ⟨_, z⟩ | ⟨v, u, z1, z2, z3⟩
    · rw [z] at e2; cases e2
    · rw [z2] at e2; cases e2
      exact .inr ⟨p, o, _, k, v, rfl, h1, keyN_of hy e1, z1, hk F H _ _ (Ext.refl P) z3 hg⟩
  · exact .inl (snd_ix F H _ _ _ _ κ Q P hx hy hg hk)
theorem k_ix2 (ft : Fit c X) : IxR X (fun x y H Q => rIx c.W.K x y H Q ∨ rIxN X.prog X.w x y H Q) := (k_ix' ft).or ix_dn
theorem snd_inN (ft : Fit c X) : Snd2 c.W (rInN X.prog X.w) gInN := fun F H x u y w κ Q P hx hy hg hk => by
  unfold gInN at hg
  split at hg
  · rename_i ks us
    obtain ⟨k, e1, hg⟩ := hg
    obtain ⟨p, o, vs, rfl, h1, l, r1⟩ := hy.dcn P.sub
    rw [ft.dn] at h1
    refine ⟨p, o, _, k, rfl, h1, keyN_of hx e1, ?_⟩
    have : (valV (ks.zip vs) k).isSome = (atK ks us k).isSome := by
      rcases atK_rep r1 (j := k) l with ⟨z1, z2⟩ | ⟨v, u, z1, z2, z3⟩ <;> rw [z1, z2] <;> rfl
    rw [this]
    exact hk F H _ _ (Ext.refl P) (.bl _) hg
  · exact hg.elim
theorem snd_len2 (ft : Fit c X) : SndN c.W (fun xs H Q => (∃ p ys, xs = [.ref p] ∧ (SqL c.W.K H p ys ∨ SqT c.W.K H p ys) ∧ Q (.int ys.length) H) ∨ rLenN X.prog X.w xs H Q) nLen2 := fun F H vs us κ Q P hv hg hk => by
  unfold nLen2 at hg
  split at hg
  · rename_i ks us
    obtain ⟨v, rfl, h⟩ := hv.one
    obtain ⟨p, o, ws, rfl, h1, l, r1⟩ := h.dcn P.sub
    rw [ft.dn] at h1
    refine .inr ⟨p, o, _, rfl, h1, ?_⟩
    rw [zip_len l r1, ← l]
    exact hk F H _ _ (Ext.refl P) (.int _) hg
  · exact .inl (snd_len F H vs _ κ Q P hv hg hk)
theorem k_len2 (ft : Fit c X) : CallR X (.builtin "len") (fun xs H Q => (∃ p ys, xs = [.ref p] ∧ (SqL c.W.K H p ys ∨ SqT c.W.K H p ys) ∧ Q (.int ys.length) H) ∨ rLenN X.prog X.w xs H Q) := by
  intro pins s σ H xs us Q I r h
  rcases h with h | h
  · exact k_len' ft pins s σ H xs us Q I r h
  · exact call_lenN pins s σ H xs us Q I r h
theorem snd_isi2 (ft : Fit c X) : SndN c.W (fun xs H Q => rIsi c.W.K xs H Q ∨ rIsiN c.W.K X.prog X.w xs H Q) nIsi2 := fun F H vs us κ Q P hv hg hk => by
  unfold nIsi2 at hg
  split at hg
  · rename_i ks us n
    obtain ⟨b, e, hg⟩ := hg
    obtain ⟨v, x, rfl, h, h'⟩ := hv.two
    obtain ⟨p, o, ws, rfl, h1, l, r1⟩ := h.dcn P.sub
    rw [ft.dn] at h1
    cases h' with
    | pool r => cases r; exact .inr ⟨p, o, _, .ty n, _, b, rfl, .ty n, h1, kit_ty e, hk F H _ _ (Ext.refl P) (.bl _) hg⟩
  · exact .inl (snd_isi F H vs _ κ Q P hv hg hk)
theorem k_isi2 (ft : Fit c X) : CallR X (.builtin "isinstance") (fun xs H Q => rIsi c.W.K xs H Q ∨ rIsiN c.W.K X.prog X.w xs H Q) := by
  intro pins s σ H xs us Q I r h
  rcases h with h | h
  · exact k_isi' ft pins s σ H xs us Q I r h
  · exact (ft.K.symm ▸ call_isiN : CallR X (.builtin "isinstance") (rIsiN c.W.K X.prog X.w)) pins s σ H xs us Q I r h
theorem walkU_dn {F : Hp} {p : Addr} {o : Obj} {ks : List (Option L2.Key)} {vs : List V} {P : Program} {w : World} (hp : F p = some (.frz o (DN P w p (ks.zip vs)))) (l : ks.length = vs.length) : WalkU c F (Itn P w p o (ks.zip vs)) (ks.map kU) := by
  have el : (ks.map kU).length = (ks.zip vs).length := by rw [List.length_map, List.length_zip, l, Nat.min_self]
  refine ⟨_, _, el ▸ walk_dn, fun F2 H s1 s2 => s2 _ _ (s1 _ _ hp), fun F2 i H x H' s P hi ⟨e1, k, v, e2, e3⟩ => ?_⟩
  have e4 : ks[i]? = some k := by
    rw [List.getElem?_zip_eq_some] at e2
    exact e2.1
  exact ⟨F2, kU k, by rw [e1]; exact Ext.refl P, by rw [List.getElem?_map, e4]; rfl, by rw [e3]; exact kU_rep k⟩
theorem ui_dn {tgt e : Expr} {m : UM} (ft : Fit c X) (h : PE X e (tm c m)) : PI X tgt e (tI c (iDcn m)) := PI.imp (pi_dn h) fun σ H Q ⟨F, env, ex, k, R, hm, hw, hk⟩ => by
  refine ⟨F, env, ex, _, R, hm, hw, fun F1 H1 env1 v y s1 R1 o1 h1 => ?_⟩
  obtain ⟨F2, env2, u, s2, R2, r2, h2⟩ := R1.pin o1 h1
  cases r2 with
  | dcn hp l rs =>
    rw [ft.dn] at hp
    exact ⟨_, _, _, rfl, R2.pool.sub _ _ hp, hk F2 H1 env2 _ _ (s1.trans s2) R2 (walkU_dn hp (l.trans rs.length.symm)) h2⟩
  | _ => exact h2.elim
/-! repr of None, ints and texts -/
def reprK : Option L2.Key → Str
  | none => "None"
  | some (.inl i) => toString i
  | some (.inr z) => reprText z
def okK : Option L2.Key → Prop
  | none => True
  | some (.inl i) => i.natAbs.log2 < 1920 ∧ okS (toString i)
  | some (.inr z) => (reprText z).length ≤ 100000 ∧ okS (reprText z)
def rRepr : List V → Hp → VK → Prop := fun xs H Q => ∃ k, xs = [kN k] ∧ okK k ∧ Q (.str (reprK k)) H
theorem call_reprK : CallR X (.builtin "repr") rRepr := by
  intro pins s σ H xs us Q I r h
  obtain ⟨k, rfl, z, q⟩ := h
  cases r with
  | cons r1 r2 =>
    cases r2
    match k, r1, z, q with
    | none, r1, z, q =>
      cases (show _ = Value.none from r1)
      exact PySem.P.repr_of_none ⟨.str _, H, I.tok _, ⟨_, rfl⟩, q⟩
    | some (.inl i), r1, z, q =>
      obtain ⟨t, rfl⟩ := r1
      exact PySem.P.repr_of_int z.1 ⟨.str _, H, I.tok _, ⟨_, rfl⟩, q⟩
    | some (.inr x), r1, z, q =>
      obtain ⟨t, rfl⟩ := r1
      exact PySem.P.repr_of_str ⟨.str _, H, I.tok _, ⟨_, rfl⟩, q⟩ (szl (Nat.le_trans z.1 (by decide)))
def nRepr : GN := fun us κ => match us with
  | [u] => ∃ k, keyN u = some k ∧ okK k ∧ κ (.str (reprK k))
  | _ => False
theorem snd_repr {W : Wd} : SndN W rRepr nRepr := fun F H vs us κ Q P hv hg hk => by
  unfold nRepr at hg
  split at hg
  · obtain ⟨k, e, z, hg⟩ := hg
    obtain ⟨v, rfl, h⟩ := hv.one
    exact ⟨k, by rw [keyN_of h e], z, hk F H _ _ (Ext.refl P) (.str _) hg⟩
  · exact hg.elim
end
end UL

namespace UL
open PySem PySem.Spec PyProof.Rows L2
/-! ### such dicts made, filled and given back -/
theorem dn_ok {P : Program} {w : World} {H' : Hp} {h' : Heap} {p : Addr} {kvs : List (Option L2.Key × V)} {vs : List (Option L2.Key × Value)} (z : kvs.length ≤ sizeLine) (hd : (p == sysModules) = false) (kv : KV kvs vs) (dd : h'.DictOf (noneKind P w) p vs) : ObjOk P w H' h' p (DN P w p kvs) :=
  ⟨⟨z, hd, vs, kv, dd⟩, let ⟨q, _, _, hq, _⟩ := dd; ⟨q, hq⟩, fun h1 h2 ⟨a, b, vs, c, o, es, ep, ho, r⟩ k => ⟨a, b, vs, c, o, es, ep, k o ho, r⟩⟩
def tDNewN (P : Program) (w : World) : TE := fun _ H Q => ∀ p, H p = none → Q (.ref p) (upd H p (DN P w p []))
section
variable {X : Cx} {pins : List (Addr × Obj)} {σ : L2.St} {H : Hp} {s : Shared} {p : Addr} {o : Obj} {kvs : List (Option L2.Key × V)} {A : Around} {E : Value → Shared → Prop}
theorem pe_dnewN {pos : Pos} : PE X (.Dict [] [] pos) (tDNewN X.prog X.w) := ⟨fun pins s σ H Q I h =>
  wpAny_Dict_empty ⟨.ref s.heap.objs.size, _, I.laid (a := s.heap.objs.size) (o := DN X.prog X.w s.heap.objs.size []) (t' := s.toks) (fun _ _ q => Heap.get?_push_of_some _ q) (Nat.le_refl _)
    (dn_ok (Nat.zero_le _) (beq_eq_false_iff_ne.mpr (Ne.symm (Nat.ne_of_lt I.big))) .nil (Heap.DictOf.new s.heap)), rfl, h _ (I.hok.fresh (Nat.le_refl _))⟩⟩
theorem dn_set {k : Option L2.Key} {v : V} {u r : Value} {Q : Unit → Shared → Prop} (I : Inv X pins σ H s) (e : H p = some (DN X.prog X.w p kvs)) (hl : kvs.length < sizeLine) (ry : RelV (kN k) u) (rv : RelV v r)
    (h : ∀ s', Inv X pins σ (upd H p (DN X.prog X.w p (putK kvs k v))) s' → Q () s') : wpAny (model X.prog X.w) A (setItem (.ref p) u r) Q E s := by
  obtain ⟨⟨z, hd, vs, rel, dd⟩, _⟩ := I.hok p _ e
  have hz : vs.length ≤ sizeLine := by rw [← rel.length]; exact z
  have hl' : (putK kvs k v).length ≤ sizeLine := by have := length_putK kvs k v; omega
  refine wpAny_setItem_pairs (hsz := hz) (kN_is ry) dd fun h' dd' hs => h _ ?_
  have he : ∃ q, h'.get? p = some q := let ⟨q, _, _, hq, _⟩ := dd'; ⟨q, hq⟩
  exact d_write I (by rw [e]; exact True.intro) hs he (dn_ok hl' hd (rel.put k rv) dd')
/-- d[x] = v -/
def sDPutN (P : Program) (w : World) (td ty tv : TE) : TS := fun D σ H => tv σ H fun v H1 => td σ H1 fun x H2 => ty σ H2 fun y H3 => ∃ p kvs k, x = .ref p ∧ H3 p = some (DN P w p kvs) ∧ y = kN k ∧ kvs.length < sizeLine ∧ D.nx σ (upd H3 p (DN P w p (putK kvs k v)))
theorem ps_dputN {oe i value : Expr} {pos pos' : Pos} {td ty tv : TE} (ho : PE X oe td) (hi : PE X i ty) (hv : PE X value tv) (hs : swapsWith value (some (.Subscript oe i pos')) pos.line X.env = pure false) :
    PS X (.Assign [.Subscript oe i pos'] value pos) (sDPutN X.prog X.w td ty tv) := by
  refine ⟨fun pins s σ H D I h => ?_⟩
  refine wpAny_Assign_Subscript (thn (hv.run pins s σ H _ I h) fun r s1 ⟨v, H1, I1, rv, q1⟩ => thn (ho.run pins s1 σ H1 _ I1 q1) fun u s2 ⟨x, H2, I2, rx, q2⟩ => thn (hi.run pins s2 σ H2 _ I2 q2) fun iv s3 ⟨y, H3, I3, ry, p, kvs, k, ex, e, ey, l, q3⟩ => ?_) hs
  subst ex ey
  obtain rfl : u = Value.ref p := rx
  exact dn_set I3 e l ry rv fun s4 I4 => ⟨σ, _, I4, q3⟩
/-- from here on it never changes -/
theorem ps_frz {st : Stmt} {t : TS} (h : PS X st t) : PS X st (fun D σ H => ∃ d u, H d = some u ∧ Mut (some u) ∧ ∀ od, t D σ (upd H d (.frz od u))) :=
  ⟨fun pins s σ H D I ⟨d, u, hd, mu, q⟩ => let ⟨od, I1⟩ := I.lock hd mu; h.run pins s σ _ D I1 (q od)⟩
theorem pe_frz {e : Expr} {t : TE} (h : PE X e t) : PE X e (fun σ H Q => t σ H fun v H1 => ∃ d u, H1 d = some u ∧ Mut (some u) ∧ ∀ od, Q v (upd H1 d (.frz od u))) :=
  ⟨fun pins s σ H Q I q => thn (h.run pins s σ H _ I q) fun u s1 ⟨x, H1, I1, rx, d, o, hd, mu, q1⟩ => let ⟨od, I2⟩ := I1.lock hd mu; ⟨x, _, I2, rx, q1 od⟩⟩
end
/-! slots that own such a dict -/
section
variable {c : Uc} {F H : Hp} {σ : List (Option V)} {env : List Slot}
theorem Rel.pasN {i : Nat} {ks : List (Option L2.Key)} {us : List U} (R : Rel c F σ env H) (e : env[i]? = some (.pas (.n ks us))) : ∃ p φ vs, σ[i]? = some (some (.ref p)) ∧ H p = some (.ext φ) ∧ c.W.dn p (ks.zip vs) = .ext φ ∧ ks.length = us.length ∧ reps c.W F vs us ∧ FreeAt c F σ env p := by
  obtain ⟨A, a1, a2, a3, a4, a5, a6⟩ := R.fp
  obtain ⟨v, e1, r⟩ := a1 i _ e
  generalize hA : A i = Z at r
  cases r with
  | @n p φ _ vs _ h1 h2 h3 h4 => exact ⟨p, φ, vs, e1, h1, h2, h3, h4, a5 i p (by rw [hA]; exact List.mem_singleton.mpr rfl)⟩
theorem FreeAt.neOwn {p q : Addr} {vs : List V} {j : Nat} {xs : List U} (f : FreeAt c F σ env p) (e : env[j]? = some (.own xs)) (s : σ[j]? = some (some (.ref q))) : q ≠ p := fun z => f.o j xs e (by rw [s, z])
/-- the dict of slot i is filled -/
theorem Rel.putN {i : Nat} {ks ks' : List (Option L2.Key)} {us us' : List U} {vs' : List V} {φ' : Heap → Prop} {p : Addr} (R : Rel c F σ env H) (e : env[i]? = some (.pas (.n ks us))) (es : σ[i]? = some (some (.ref p))) (d : c.W.dn p (ks'.zip vs') = .ext φ') (l : ks'.length = us'.length) (r : reps c.W F vs' us') :
    Rel c F σ (env.set i (.pas (.n ks' us'))) (upd H p (.ext φ')) := by
  have hi : i < env.length := lt_of_some e
  obtain ⟨p0, φ, vs, e1, h1, h2, h3, h4, f⟩ := R.pasN e
  rw [es] at e1; cases e1
  have other : ∀ {j : Nat} {s : Slot}, (env.set i (.pas (.n ks' us')))[j]? = some s → (∀ t, s ≠ .pas t) → env[j]? = some s := fun {j s} ej ns => by
    rcases getset ej with ⟨_, z⟩ | ⟨_, z⟩
    · exact absurd z (ns _)
    · exact z
  refine { pool := ⟨fun b o z => ?_, fun a cc z => ?_⟩, base := ⟨fun b o n z => ?_, R.base.pool, R.base.new⟩, len := by rw [List.length_set]; exact R.len, slot := fun j s ej => ?_, dist := fun j k q xs ys n ej ek => R.dist j k q xs ys n (other ej (by intro t z; cases z)) (other ek (by intro t z; cases z)), one := fun j cn fs ej => R.one j cn fs (other ej (by intro t z; cases z)), fp := ?_ }
  · rw [upd_ne (fun y => by rw [y, f.f] at z; cases z)]; exact R.pool.sub b o z
  · obtain ⟨g1, g2, q, st, ct, hd, lf, g3, g4⟩ := R.pool.sto a cc z
    exact ⟨g1, g2, q, st, ct, hd, lf, g3, by rw [upd_ne (f.s a cc z).symm]; exact g4⟩
  · rw [upd_ne (fun y => by rw [y, f.h] at z; cases z)]; exact R.base.keep b o n z
  · rcases getset ej with ⟨rfl, rfl⟩ | ⟨n, ej⟩
    · exact ⟨_, es, trivial⟩
    · obtain ⟨o, g1, g2⟩ := R.slot j s ej
      refine ⟨o, g1, ?_⟩
      cases s with
      | no => cases o <;> exact trivial
      | val u =>
        cases o with
        | none => exact g2.elim
        | some v => exact g2
      | own xs =>
        cases o with
        | none => exact g2.elim
        | some v =>
          obtain ⟨q, ws, rfl, k1, k2, k3, k4⟩ := g2
          have nq : q ≠ p := fun z => f.o j xs ej (by rw [g1, z])
          exact ⟨q, ws, rfl, k1, k2, by rw [upd_ne nq]; exact k3, k4⟩
      | mk cn fs =>
        cases o with
        | none => exact g2.elim
        | some v =>
          obtain ⟨q, C, dx, ws, rfl, k0, k1, k2, k3, k4⟩ := g2
          have nq : q ≠ p := fun z => by rw [z, h1] at k3; cases k3
          exact ⟨q, C, dx, ws, rfl, k0, k1, k2, by rw [upd_ne nq]; exact k3, k4⟩
      | pas t =>
        cases o with
        | none => exact g2.elim
        | some v => trivial
  · obtain ⟨A, a1, a2, a3, a4, a5, a6⟩ := R.fp
    have hA : A i = [p] := by
      obtain ⟨v, z1, z2⟩ := a1 i _ e
      rw [es] at z1; cases z1
      generalize A i = Z at z2
      cases z2; rfl
    refine ⟨A, fun j t ej => ?_, fun j n => ?_, a3, a4, fun j q hq => ?_, a6⟩
    · rcases getset ej with ⟨rfl, z⟩ | ⟨n, ej⟩
      · cases z
        exact ⟨_, es, by rw [hA]; exact .n upd_same d l r⟩
      · obtain ⟨v, z1, z2⟩ := a1 j t ej
        refine ⟨v, z1, prep.mono (Same.refl F) (fun b o z fx => ?_) z2 fun q hq o z => ?_⟩
        · rw [upd_ne (fun y => by rw [y, h1] at z; cases z; rcases fx with ⟨_, fx⟩ | ⟨_, _, fx⟩ <;> cases fx)]; exact z
        · rw [upd_ne (fun y => a4 j i (fun z => n z.symm) q hq (by rw [hA, y]; exact List.mem_singleton.mpr rfl))]; exact z
    · by_cases q : i = j
      · subst q; exact absurd (by rw [List.getElem?_set, if_pos rfl, if_pos hi]) (n _)
      · exact a2 j fun t z => n t (by rw [set_at q]; exact z)
    · have g := a5 j q hq
      exact ⟨g.f, g.h, g.s, fun k xs ek => g.o k xs (other ek (by intro t z; cases z))⟩
/-- slot i gets a new dict -/
theorem Rel.newN {i : Nat} {p : Addr} {φ : Heap → Prop} (R : Rel c F σ env H) (hi : i < env.length) (hp : H p = none) (d : c.W.dn p [] = .ext φ) : Rel c F (σ.set i (some (.ref p))) (env.set i (.pas (.n [] []))) (upd H p (.ext φ)) := by
  have R1 : Rel c F σ env (upd H p (.ext φ)) := R.more hp
  have fp0 : F p = none := by
    cases q : F p with
    | none => rfl
    | some o => rw [R.pool.sub _ _ q] at hp; cases hp
  have hl : i < σ.length := by rw [R.len]; exact hi
  have other : ∀ {j : Nat} {s : Slot}, (env.set i (.pas (.n [] [])))[j]? = some s → (∀ t, s ≠ .pas t) → i ≠ j ∧ env[j]? = some s := fun {j s} ej ns => by
    rcases getset ej with ⟨_, z⟩ | ⟨n, z⟩
    · exact absurd z (ns _)
    · exact ⟨n, z⟩
  refine { pool := R1.pool, base := R1.base, len := by rw [List.length_set, List.length_set]; exact R.len, slot := fun j s ej => ?_, dist := fun j k q xs ys n ej ek sj => ?_, one := fun j cn fs ej => R.one j cn fs (other ej (by intro t z; cases z)).2, fp := ?_ }
  · rcases getset ej with ⟨rfl, rfl⟩ | ⟨n, ej⟩
    · exact ⟨some (.ref p), by rw [List.getElem?_set, if_pos rfl, if_pos hl], trivial⟩
    · obtain ⟨o, g1, g2⟩ := R1.slot j s ej
      exact ⟨o, by rw [set_at n]; exact g1, g2⟩
  · obtain ⟨n1, ej⟩ := other ej (by intro t z; cases z)
    obtain ⟨n2, ek⟩ := other ek (by intro t z; cases z)
    rw [set_at n1] at sj
    rw [set_at n2]
    exact R.dist j k q xs ys n ej ek sj
  · obtain ⟨A, a1, a2, a3, a4, a5, a6⟩ := R.fp
    have al : ∀ (j : Nat), ∀ q ∈ A j, q ≠ p := fun j q hq z => by
      by_cases w : ∃ t, env[j]? = some (.pas t)
      · obtain ⟨t, e⟩ := w
        obtain ⟨v, _, r⟩ := a1 j t e
        obtain ⟨o, e1, _⟩ := r.alive q hq
        rw [z, hp] at e1; cases e1
      · rw [a2 j fun t z => w ⟨t, z⟩] at hq; simp at hq
    have own : ∀ (k : Nat) xs q, (env.set i (.pas (.n [] [])))[k]? = some (.own xs) → (σ.set i (some (.ref p)))[k]? = some (some (.ref q)) → env[k]? = some (.own xs) ∧ σ[k]? = some (some (.ref q)) := fun k xs q ek sk => by
      obtain ⟨n, ek⟩ := other ek (by intro t z; cases z)
      rw [set_at n] at sk
      exact ⟨ek, sk⟩
    refine ⟨fun j => if j = i then [p] else A j, fun j t ej => ?_, fun j n => ?_, fun j => ?_, fun j k n q hq => ?_, fun j q hq => ?_, fun j q hq => by simp⟩
    · rcases getset ej with ⟨rfl, z⟩ | ⟨n, ej⟩
      · cases z
        exact ⟨.ref p, by rw [List.getElem?_set, if_pos rfl, if_pos hl], by show prep c.W F _ (if i = i then [p] else A i) _ _; rw [if_pos rfl]; exact .n (vs := []) upd_same d rfl .nil⟩
      · obtain ⟨v, z1, z2⟩ := a1 j t ej
        refine ⟨v, by rw [set_at n]; exact z1, ?_⟩
        show prep c.W F _ (if j = i then [p] else A j) _ _
        rw [if_neg (fun z => n z.symm)]
        exact prep.mono (Same.refl F) (fun b o z _ => by rw [upd_ne (ne_of_none z hp)]; exact z) z2 fun q hq o z => by rw [upd_ne (al j q hq)]; exact z
    · show (if j = i then [p] else A j) = []
      by_cases q : j = i
      · subst q; exact absurd (by rw [List.getElem?_set, if_pos rfl, if_pos hi]) (n _)
      · rw [if_neg q]; exact a2 j fun t z => n t (by rw [set_at (fun z => q z.symm)]; exact z)
    · show (if j = i then [p] else A j).Nodup
      split
      · simp
      · exact a3 j
    · have hq : q ∈ (if j = i then [p] else A j) := hq
      show q ∉ (if k = i then [p] else A k)
      by_cases z1 : j = i
      · rw [if_pos z1, List.mem_singleton] at hq
        rw [if_neg (fun z2 => n (z1.trans z2.symm))]
        exact fun z => al k q z hq
      · rw [if_neg z1] at hq
        split
        · rw [List.mem_singleton]; exact al j q hq
        · exact a4 j k n q hq
    · have hq : q ∈ (if j = i then [p] else A j) := hq
      split at hq
      · rw [List.mem_singleton] at hq
        subst hq
        refine ⟨fp0, R.freshH0 hp, R.pool.neStore hp, fun k xs ek sk => ?_⟩
        obtain ⟨ek, sk⟩ := own k xs _ ek sk
        obtain ⟨o, g1, g2⟩ := R.slot k _ ek
        rw [sk] at g1; cases g1
        obtain ⟨q', ws, z, _, _, k3, _⟩ := g2
        cases z
        rw [hp] at k3; cases k3
      · have g := a5 j q hq
        exact ⟨g.f, g.h, g.s, fun k xs ek sk => by obtain ⟨ek, sk⟩ := own k xs _ ek sk; exact g.o k xs ek sk⟩
theorem putN_map {W : Wd} {F : Hp} {k : Option L2.Key} {v : V} {u : U} (a : rep W F v u) : ∀ {ks : List (Option L2.Key)} {vs : List V} {us : List U}, reps W F vs us → ks.length = us.length →
    ∃ vs', ((ks.zip vs).map fun kv => if kv.1 = k then (kv.1, v) else kv) = ks.zip vs' ∧ reps W F vs' (List.zipWith (fun j x => if j = k then u else x) ks us) ∧ ks.length = (List.zipWith (fun j x => if j = k then u else x) ks us).length
  | [], _, _, r, l => ⟨[], rfl, .nil, rfl⟩
  | j :: ks, _, _, .cons (v := x) (u := y) r1 r2, l => by
    obtain ⟨vs', h1, h2, h3⟩ := putN_map a r2 (ks := ks) (by simpa using l)
    by_cases e : j = k
    · refine ⟨v :: vs', ?_, ?_, ?_⟩
      · rw [List.zip_cons_cons, List.map_cons, h1, List.zip_cons_cons, if_pos e]
      · rw [List.zipWith_cons_cons, if_pos e]; exact .cons a h2
      · rw [List.zipWith_cons_cons, List.length_cons, List.length_cons, ← h3]
    · refine ⟨x :: vs', ?_, ?_, ?_⟩
      · rw [List.zip_cons_cons, List.map_cons, h1, List.zip_cons_cons, if_neg e]
      · rw [List.zipWith_cons_cons, if_neg e]; exact .cons r1 h2
      · rw [List.zipWith_cons_cons, List.length_cons, List.length_cons, ← h3]
theorem any_zip {k : Option L2.Key} : ∀ {ks : List (Option L2.Key)} {vs : List V}, ks.length = vs.length → ((ks.zip vs).any fun kv => decide (kv.1 = k)) = ks.any fun j => decide (j = k)
  | [], _, _ => by simp
  | j :: ks, v :: vs, l => by
    rw [List.zip_cons_cons, List.any_cons, List.any_cons, any_zip (by simpa using l)]
theorem putN_rep {W : Wd} {F : Hp} {k : Option L2.Key} {v : V} {u : U} {ks : List (Option L2.Key)} {vs : List V} {us : List U} (a : rep W F v u) (r : reps W F vs us) (l : ks.length = us.length) :
    ∃ vs', putK (ks.zip vs) k v = (UL.putN ks us k u).1.zip vs' ∧ (UL.putN ks us k u).1.length = (UL.putN ks us k u).2.length ∧ reps W F vs' (UL.putN ks us k u).2 := by
  have lv : ks.length = vs.length := by rw [l, r.length]
  unfold putK UL.putN
  rw [any_zip lv]
  by_cases h : (ks.any fun j => decide (j = k)) = true
  · rw [if_pos h, if_pos h]
    obtain ⟨vs', h1, h2, h3⟩ := putN_map (k := k) a r l
    exact ⟨vs', h1, h3, h2⟩
  · rw [if_neg h, if_neg h]
    refine ⟨vs ++ [v], ?_, ?_, r.append (.cons a .nil)⟩
    · show ks.zip vs ++ [(k, v)] = (ks ++ [k]).zip (vs ++ [v])
      rw [List.zip_append lv]; rfl
    · show (ks ++ [k]).length = (us ++ [u]).length
      rw [List.length_append, List.length_append, l]; rfl
end
/-! statements -/
def uSetD (i : Nat) : US := fun d env => i < env.length ∧ d.nx (env.set i (.pas (.n [] [])))
def uPutD (i j : Nat) (mv : UM) : US := fun d env => mv d.ex env fun y env1 => UL.pin env1 y fun u env2 => match env2[i]?, env2[j]? with
  | some (.pas (.n ks us)), some (.val w) => ∃ k, keyN w = some k ∧ us.length < 1000000 ∧ d.nx (env2.set i (.pas (.n (UL.putN ks us k u).1 (UL.putN ks us k u).2)))
  | _, _ => False
def uRetD (i : Nat) : US := fun d env => match env[i]? with
  | some (.pas (.n ks us)) => d.rt (.dcn ks us)
  | _ => False
section
variable {X : Cx} {c : Uc}
theorem us_setD {i : Nat} {x : Str} {pos pos' dpos : Pos} (ft : Fit c X) (hN : X.N.Nodup) (hi : X.N[i]? = some x) (hx : L2.Loc X.env.scope x) (hs : swapsWith (.Dict [] [] dpos) (some (.Name x pos')) pos.line X.env = pure false := by rfl) (hf : X.fn x = true ∨ X.env.scope.names.lookup x = some .local := by first | exact .inl rfl | exact .inr rfl | assumption) :
    PS X (.Assign [.Name x pos'] (.Dict [] [] dpos) pos) (ts c (uSetD i)) := PS.imp (ps_set hN hi hx pe_dnewN hs hf) fun D σ H ⟨F, env, d, R, hm, E⟩ => fun p hp =>
  E.nx F _ _ _ (Same.refl F) (R.newN hm.1 hp (by rw [ft.dn]; rfl)) hm.2
theorem us_putD {i j : Nat} {x y : Str} {value : Expr} {p1 p2 pos pos' : Pos} {mv : UM} (ft : Fit c X) (ho : PE X (.Name x p1) (tVar i)) (hi : PE X (.Name y p2) (tVar j)) (hv : PE X value (tm c mv)) (hs : swapsWith value (some (.Subscript (.Name x p1) (.Name y p2) pos')) pos.line X.env = pure false := by rfl) :
    PS X (.Assign [.Subscript (.Name x p1) (.Name y p2) pos'] value pos) (ts c (uPutD i j mv)) := PS.imp (ps_dputN ho hi hv hs) fun D σ H ⟨F, env, d, R, hm, E⟩ =>
  ⟨F, env, _, _, R, hm, E.ex, fun F' H' env' v y s' R' o' h' => by
    obtain ⟨F2, env2, u, s2, R2, r2, h2⟩ := R'.pin o' h'
    split at h2
    · rename_i ks us w e1 e2
      obtain ⟨k, ek, hl, h2⟩ := h2
      obtain ⟨p, φ, vs, s1, hp, hd, l, rs, f⟩ := R2.pasN e1
      obtain ⟨ow, sw, rw'⟩ := R2.slot j _ e2
      cases ow with
      | none => exact rw'.elim
      | some v' =>
        obtain ⟨vs', g1, g2, g3⟩ := putN_rep (k := k) r2 rs l
        have hd' : DN X.prog X.w p (ks.zip vs) = .ext φ := by rw [ft.dn] at hd; exact hd
        refine ⟨.ref p, s1, v', sw, p, ks.zip vs, k, rfl, by rw [hp, hd'], keyN_of (H := H') (.pool rw') ek, ?_, ?_⟩
        · rw [zip_len l rs]; exact Nat.lt_of_lt_of_le hl (by decide)
        · rw [g1]
          exact E.nx F2 _ _ _ (s'.trans s2).same (R2.putN e1 s1 (by rw [ft.dn]; rfl) g2 g3) h2
    · exact h2.elim⟩
theorem us_retD {i : Nat} {x : Str} {p pos : Pos} (ft : Fit c X) (hf : c.fr = false) (h : PE X (.Name x p) (tVar i)) : PS X (.Return (some (.Name x p)) pos) (ts c (uRetD i)) := PS.imp (ps_frz (ps_ret h)) fun D σ H ⟨F, env, d, R, hm, E⟩ => by
  unfold uRetD at hm
  split at hm
  · rename_i ks us e1
    obtain ⟨q, φ, vs, s1, hp, hd, l, rs, f⟩ := R.pasN e1
    refine ⟨q, _, hp, True.intro, fun od => ⟨_, s1, ?_⟩⟩
    have sm : Same F (upd F q (.frz od (.ext φ))) := fun b o z => by rw [upd_ne (fun y => by rw [y, f.f] at z; cases z)]; exact z
    refine E.rt (upd F q (.frz od (.ext φ))) _ _ _ ⟨⟨fun b o n z => ?_, R.base.pool.trans sm, fun b o z => ?_⟩, ⟨fun b o z => ?_, fun a cc z => ?_⟩⟩ (.dcn (vs := vs) (o := od) (by rw [upd_same, hd]) l (rs.mono sm)) (fun z => by rw [hf] at z; cases z) hm
    · rw [upd_ne (fun y => by rw [y, f.h] at z; cases z)]; exact R.base.keep b o n z
    · by_cases y : b = q
      · rw [y]; exact .inr f.h
      · rw [upd_ne y] at z; exact R.base.new b o z
    · by_cases y : b = q
      · rw [y, upd_same] at z ⊢; exact z
      · rw [upd_ne y] at z ⊢; exact R.pool.sub b o z
    · obtain ⟨g1, ⟨ns, g2⟩, q', st, ct, hd', lf, g3, g4⟩ := R.pool.sto a cc z
      exact ⟨by rw [upd_ne (f.s a cc z).symm]; exact g1, ⟨ns, sm _ _ g2⟩, q', st, ct, hd', lf, g3, by rw [upd_ne (f.s a cc z).symm]; exact g4⟩
  · exact hm.elim
end
end UL

namespace UL
open PySem PySem.Spec PyProof.Rows L2
/-- keys of ints and texts are keys of the wider kind -/
theorem pairsN {P : Program} {w : World} {es : List DictEntry} {vs : List (L2.Key × Value)} (h : Pairs (mixKind P w) es vs) : Pairs (noneKind P w) es (vs.map fun kv => (some kv.1, kv.2)) := by
  induction h with
  | nil => exact .nil
  | cons h1 h2 _ ih => exact .cons (kv := (some _, _)) h1 h2 ih
theorem dictN {P : Program} {w : World} {h : Heap} {p : Addr} {vs : List (L2.Key × Value)} (d : h.DictOf (mixKind P w) p vs) : h.DictOf (noneKind P w) p (vs.map fun kv => (some kv.1, kv.2)) := by
  obtain ⟨o, es, ep, ho, hx, hd, hk, hp, hn⟩ := d
  refine ⟨o, es, ep, ho, hx, hd, fun e he => let ⟨k, h1, h2⟩ := hk e he; ⟨some k, h1, h2⟩, pairsN hp, ?_⟩
  have e : (vs.map fun kv => ((some kv.1 : Option L2.Key), kv.2)).map (·.1) = (vs.map (·.1)).map some := by rw [List.map_map, List.map_map]; rfl
  rw [e]
  clear e hp
  induction vs with
  | nil => exact List.nodup_nil
  | cons v vs ih =>
    rw [List.map_cons, List.nodup_cons] at hn
    rw [List.map_cons, List.map_cons, List.nodup_cons]
    refine ⟨fun z => hn.1 ?_, ih hn.2⟩
    obtain ⟨x, hx, e⟩ := List.mem_map.mp z
    cases e; exact hx
theorem kvN {kvs : List (L2.Key × V)} {vs : List (L2.Key × Value)} (h : KV kvs vs) : KV (kvs.map fun kv => ((some kv.1 : Option L2.Key), kv.2)) (vs.map fun kv => (some kv.1, kv.2)) := by
  unfold KV at h ⊢
  induction h with
  | nil => exact .nil
  | cons h1 _ ih => exact .cons ⟨congrArg some h1.1, h1.2⟩ ih
section
variable {X : Cx} {c : Uc}
theorem inv_toN {pins : List (Addr × Obj)} {σ : L2.St} {H : Hp} {s : Shared} {p : Addr} {kvs : List (L2.Key × V)} (I : Inv X pins σ H s) (e : H p = some (.dK kvs)) : ∃ od, Inv X pins σ (upd H p (.frz od (DN X.prog X.w p (kvs.map fun kv => (some kv.1, kv.2))))) s := by
  obtain ⟨z, hd, vs, kv, dd⟩ := dk_of I.hok e
  obtain ⟨o, es, ep, ho, _⟩ := id dd
  refine ⟨o, I.write (x := p) (e := p) (t' := s.toks) (h' := s.heap) (by rw [e]; exact True.intro) (.inl rfl) (fun b v _ q => q) ⟨o, ho⟩ ⟨ho, dn_ok (by rw [List.length_map]; exact z) hd (kvN kv) (dictN dd)⟩⟩
theorem pe_toN {e : Expr} {t : TE} (h : PE X e t) : PE X e (fun σ H Q => t σ H fun v H1 => ∃ p kvs, H1 p = some (.dK kvs) ∧ ∀ od, Q v (upd H1 p (.frz od (DN X.prog X.w p (kvs.map fun kv => (some kv.1, kv.2)))))) :=
  ⟨fun pins s σ H Q I q => thn (h.run pins s σ H _ I q) fun u s1 ⟨x, H1, I1, rx, p, kvs, hd, q1⟩ => let ⟨od, I2⟩ := inv_toN I1 hd; ⟨x, _, I2, rx, q1 od⟩⟩
theorem ue_d0 {pos : Pos} (ft : Fit c X) : PE X (.Dict [] [] pos) (tm c (uC (.dcn [] []))) := PE.imp (pe_frz pe_dnewN) fun σ H Q ⟨F, env, ex, k, R, hm, hw, hk⟩ => fun p hp => by
  refine ⟨p, _, upd_same, True.intro, fun od => ?_⟩
  rw [upd_upd]
  have x := Ext.new (o := .frz od (DN X.prog X.w p [])) R.pool hp
  exact hk _ _ env _ (.val _) ((Stp.refl R.pool).ext x) (R.ext x) (.dcn (vs := []) (o := od) (by rw [upd_same, ft.dn]; rfl) rfl .nil) hm
/-- {x: y} of two names -/
def uD1 (i j : Nat) : UM := fun _ env k => match env[i]?, env[j]? with
  | some (.val (.str z)), some (.val u) => k (.val (.dcn [some (.inr z)] [u])) env
  | _, _ => False
theorem ue_d1 {i j : Nat} {x y : Str} {p1 p2 pos : Pos} (ft : Fit c X) (hx : PE X (.Name x p1) (tVar i)) (hy : PE X (.Name y p2) (tVar j)) : PE X (.Dict [some (.Name x p1)] [.Name y p2] pos) (tm c (uD1 i j)) :=
  PE.imp (pe_toN (pe_disp (pps_cons hx hy pps_nil) rfl rfl (by simp) (by simp))) fun σ H Q ⟨F, env, ex, k, R, hm, hw, hk⟩ => fun p hp => by
  unfold uD1 at hm
  split at hm
  · rename_i z u e1 e2
    obtain ⟨o1, s1, r1⟩ := R.slot i _ e1
    obtain ⟨o2, s2, r2⟩ := R.slot j _ e2
    cases o1 with
    | none => exact r1.elim
    | some v1 =>
    cases o2 with
    | none => exact r2.elim
    | some v2 =>
      cases r1
      refine ⟨_, s1, _, s2, upd_same, [(.inr z, v2)], rfl, by simp, p, _, upd_same, fun od => ?_⟩
      rw [upd_upd, upd_upd]
      have x := Ext.new (o := .frz od (DN X.prog X.w p [(some (.inr z), v2)])) R.pool hp
      exact hk _ _ env _ (.val _) ((Stp.refl R.pool).ext x) (R.ext x) (.dcn (vs := [v2]) (o := od) (by rw [upd_same, ft.dn]; rfl) rfl (.cons (r2.mono x.same) .nil)) hm
  · exact hm.elim
end
end UL

namespace UL
open PySem PySem.Spec PyProof.Rows L2
/-! data of None, bools, integers, texts, lists, tuples and dicts -/
mutual
def okU : U → Prop
  | .non => True
  | .bl _ => True
  | .int _ => True
  | .str z => z.length ≤ 100000
  | .lst xs => xs.length ≤ 1000 ∧ okUs xs
  | .tup xs => xs.length ≤ 1000 ∧ okUs xs
  | .dcn ks us => ks.length = us.length ∧ us.length ≤ 1000 ∧ (∀ k ∈ ks, okK k) ∧ ks.Nodup ∧ okUs us
  | _ => False
def okUs : List U → Prop
  | [] => True
  | x :: xs => okU x ∧ okUs xs
end
mutual
def dpU : U → Nat
  | .lst xs => dpUs xs + 1
  | .tup xs => dpUs xs + 1
  | .dcn _ us => dpUs us + 1
  | _ => 0
def dpUs : List U → Nat
  | [] => 0
  | x :: xs => max (dpU x) (dpUs xs)
end
theorem okUs_mem {xs : List U} (h : okUs xs) {x : U} (m : x ∈ xs) : okU x := by
  induction xs with
  | nil => cases m
  | cons y ys ih =>
    unfold okUs at h
    cases m with
    | head => exact h.1
    | tail _ m => exact ih h.2 m
theorem okUs_of {xs : List U} (h : ∀ x ∈ xs, okU x) : okUs xs := by
  induction xs with
  | nil => unfold okUs; trivial
  | cons y ys ih => unfold okUs; exact ⟨h _ List.mem_cons_self, ih fun x hx => h x (List.mem_cons_of_mem _ hx)⟩
theorem dpUs_mem {xs : List U} {x : U} (m : x ∈ xs) : dpU x ≤ dpUs xs := by
  induction xs with
  | nil => cases m
  | cons y ys ih =>
    unfold dpUs
    cases m with
    | head => omega
    | tail _ m => have := ih m; omega
theorem dpUs_of {xs : List U} {d : Nat} (h : ∀ x ∈ xs, dpU x ≤ d) : dpUs xs ≤ d := by
  induction xs with
  | nil => unfold dpUs; omega
  | cons y ys ih =>
    unfold dpUs
    have := h y List.mem_cons_self
    have := ih fun x hx => h x (List.mem_cons_of_mem _ hx)
    omega
def isDc : U → Bool
  | .dcn _ _ => true
  | _ => false
theorem isi2_of {u : U} {κ : U → Prop} {s n : String} {b : Bool} (h : tyU u = some s) (q : kitB s n = some b) (hd : isDc u = false) : nIsi2 [u, .ty n] κ = κ (.bl b) := by
  have e : nIsi2 [u, .ty n] κ = nIsi [u, .ty n] κ := by
    cases u <;> first | rfl | cases hd
  rw [e, isi_of h q]
theorem isi2_dc {ks : List (Option L2.Key)} {us : List U} {κ : U → Prop} {n : String} {b : Bool} (q : kitB "dict" n = some b) : nIsi2 [.dcn ks us, .ty n] κ = κ (.bl b) :=
  propext ⟨fun ⟨b', e, hk⟩ => by rw [q] at e; cases e; exact hk, fun hk => ⟨b, q, hk⟩⟩
theorem isi2_bool {u : U} {κ : U → Prop} (h : okU u) : nIsi2 [u, .ty "bool"] κ = κ (.bl (isBl u)) := by
  cases u <;> first
    | exact isi2_of rfl rfl rfl
    | exact isi2_dc rfl
    | exact (by unfold okU at h; exact h.elim)
theorem isi2_int {u : U} {κ : U → Prop} (h : okU u) : nIsi2 [u, .ty "int"] κ = κ (.bl (isIn u)) := by
  cases u <;> first
    | exact isi2_of rfl rfl rfl
    | exact isi2_dc rfl
    | exact (by unfold okU at h; exact h.elim)
theorem isi2_str {u : U} {κ : U → Prop} (h : okU u) : nIsi2 [u, .ty "str"] κ = κ (.bl (isTx u)) := by
  cases u <;> first
    | exact isi2_of rfl rfl rfl
    | exact isi2_dc rfl
    | exact (by unfold okU at h; exact h.elim)
theorem isi2_list {u : U} {κ : U → Prop} (h : okU u) : nIsi2 [u, .ty "list"] κ = κ (.bl (isLs u)) := by
  cases u <;> first
    | exact isi2_of rfl rfl rfl
    | exact isi2_dc rfl
    | exact (by unfold okU at h; exact h.elim)
theorem isi2_tuple {u : U} {κ : U → Prop} (h : okU u) : nIsi2 [u, .ty "tuple"] κ = κ (.bl (isTu u)) := by
  cases u <;> first
    | exact isi2_of rfl rfl rfl
    | exact isi2_dc rfl
    | exact (by unfold okU at h; exact h.elim)
theorem isi2_dict {u : U} {κ : U → Prop} (h : okU u) : nIsi2 [u, .ty "dict"] κ = κ (.bl (isDc u)) := by
  cases u <;> first
    | exact isi2_of rfl rfl rfl
    | exact isi2_dc rfl
    | exact (by unfold okU at h; exact h.elim)
@[simp] theorem nLen2_lst {xs : List U} {κ : U → Prop} : nLen2 [.lst xs] κ = κ (.int xs.length) := rfl
@[simp] theorem nLen2_tup {xs : List U} {κ : U → Prop} : nLen2 [.tup xs] κ = κ (.int xs.length) := rfl
@[simp] theorem nLen2_dcn {ks : List (Option L2.Key)} {us : List U} {κ : U → Prop} : nLen2 [.dcn ks us] κ = κ (.int ks.length) := rfl
@[simp] theorem gIx2_lst {xs : List U} {i : Int} {κ : U → Prop} : gIx2 (.lst xs) (.int i) κ = ∃ r, atI xs i = some r ∧ κ r := rfl
@[simp] theorem gIx2_tup {xs : List U} {i : Int} {κ : U → Prop} : gIx2 (.tup xs) (.int i) κ = ∃ r, atI xs i = some r ∧ κ r := rfl
@[simp] theorem gIx2_dcn {ks : List (Option L2.Key)} {us : List U} {w : U} {κ : U → Prop} : gIx2 (.dcn ks us) w κ = ∃ k r, keyN w = some k ∧ atK ks us k = some r ∧ κ r := rfl
@[simp] theorem gInN_dcn {ks : List (Option L2.Key)} {us : List U} {w : U} {κ : U → Prop} : gInN w (.dcn ks us) κ = ∃ k, keyN w = some k ∧ κ (.bl (atK ks us k).isSome) := rfl
theorem all_true (n : Nat) : (List.range n).all (fun _ => true) = true := by simp
theorem atK_self : ∀ {ks : List (Option L2.Key)} {us : List U} {i : Nat} {k : Option L2.Key}, ks.Nodup → ks[i]? = some k → ks.length = us.length → ∃ u, us[i]? = some u ∧ atK ks us k = some u
  | [], _, i, k, _, e, _ => by simp at e
  | j :: ks, [], i, k, _, _, l => by simp at l
  | j :: ks, u :: us, 0, k, _, e, _ => by
    simp at e
    subst e
    exact ⟨u, rfl, by unfold atK; rw [if_pos rfl]⟩
  | j :: ks, u :: us, i + 1, k, n, e, l => by
    rw [List.nodup_cons] at n
    have e : ks[i]? = some k := by simpa using e
    obtain ⟨x, h1, h2⟩ := atK_self n.2 e (us := us) (by simpa using l)
    refine ⟨x, by simpa using h1, ?_⟩
    unfold atK
    rw [if_neg (fun z => n.1 (by rw [z]; exact List.mem_of_getElem? e))]
    exact h2
theorem keyN_kU : ∀ k, keyN (kU k) = some k
  | none => rfl
  | some (.inl _) => rfl
  | some (.inr _) => rfl
theorem putN_new {ks : List (Option L2.Key)} {us : List U} {k : Option L2.Key} {u : U} (h : k ∉ ks) : putN ks us k u = (ks ++ [k], us ++ [u]) := by
  unfold putN
  rw [if_neg]
  intro z
  rw [List.any_eq_true] at z
  obtain ⟨x, hx, e⟩ := z
  exact h (by rw [← of_decide_eq_true e]; exact hx)
theorem hu64 {k : Nat} {A : Around} (hr : Room k A) : A.units + 64 < cLine := by have := hr.un; omega
theorem sortOk_txs (zs : List Str) : SortOk (zs.map PyData.str) where
  al := fun d hd d' hd' => by
    obtain ⟨z, _, rfl⟩ := List.mem_map.mp hd
    obtain ⟨z', _, rfl⟩ := List.mem_map.mp hd'
    rfl
  so := .inr fun d hd => by
    obtain ⟨z, _, rfl⟩ := List.mem_map.mp hd
    exact ⟨(by intro h; cases h), (by intro xs h; cases h)⟩
  dp := fun d hd => by
    obtain ⟨z, _, rfl⟩ := List.mem_map.mp hd
    simp [PyData.depth]
/-- sorted of texts: some texts, told by them alone -/
def srtT (zs : List Str) : List Str := ((txs zs).mergeSort leU).map strU
theorem txs_srtT (zs : List Str) : (txs zs).mergeSort leU = txs (srtT zs) := by
  have h : ∀ x ∈ (txs zs).mergeSort leU, ∃ z, x = U.str z ∧ z ∈ zs := fun x hx => by
    have hx : x ∈ txs zs := (List.mergeSort_perm (txs zs) leU).mem_iff.mp hx
    obtain ⟨z, hz, rfl⟩ := List.mem_map.mp hx
    exact ⟨z, rfl, hz⟩
  obtain ⟨ws, e, _⟩ := txs_each (p := fun z => z ∈ zs) h
  unfold srtT
  rw [e]
  unfold txs
  rw [List.map_map, List.map_map]
  rfl
theorem srtT_mem {zs : List Str} {z : Str} (h : z ∈ srtT zs) : z ∈ zs := by
  have h1 : U.str z ∈ txs (srtT zs) := List.mem_map.mpr ⟨z, h, rfl⟩
  rw [← txs_srtT] at h1
  have h2 := (List.mergeSort_perm (txs zs) leU).mem_iff.mp h1
  obtain ⟨y, hy, e⟩ := List.mem_map.mp h2
  cases e; exact hy
theorem nSort_txs {zs : List Str} {κ : List U → Prop} (h : κ (txs (srtT zs))) : nSort [.lst (txs zs)] κ :=
  ⟨⟨_, toPys_txs zs, sortOk_txs zs⟩, by rw [txs_srtT]; exact h⟩
theorem neD_txs {zs : List Str} {κ : U → Prop} (h : ∀ z ∈ zs, okS z) (hk : κ (.bl false)) : gEqD true (.lst (txs zs)) (.lst (txs zs)) κ :=
  ⟨_, _, toPy_txs zs, toPy_txs zs, shaped_txs h, shaped_txs h, by
    have : PyData.eqv (.list (zs.map PyData.str)) (.list (zs.map PyData.str)) = true := SeqAt.eqv_refl _ (by rw [PyData.canLay0]; exact can_txs zs h)
    rw [this]; exact hk⟩
def reprU (u : U) : U := match keyN u with
  | some k => .str (reprK k)
  | none => .non
theorem reprU_map (ks : List (Option L2.Key)) : (ks.map kU).map reprU = txs (ks.map reprK) := by
  unfold txs
  rw [List.map_map, List.map_map]
  refine List.map_congr_left fun k _ => ?_
  show reprU (kU k) = .str (reprK k)
  unfold reprU
  rw [keyN_kU]
theorem okS_reprK {k : Option L2.Key} (h : okK k) : okS (reprK k) := by
  match k, h with
  | none, _ => show okS "None"; unfold okS; decide +kernel
  | some (.inl i), h => exact h.2
  | some (.inr z), h => exact h.2
theorem bls_true {us : List U} : bls (us.map fun _ => U.bl true) = some (us.map fun _ => true) := bls_map us
end UL

namespace UL
open PySem PySem.Spec PyProof.Rows L2
open PySem.Builtin.Str (reprChar)
def A36 : List Nat := sg (Str.ofString "abcdefghijklmnopqrstuvwxyz0123456789")
theorem fold_ok (q : Nat) : ∀ (l : List Nat) (acc : Array Nat), (∀ x ∈ acc.toList, x < 0x110000) → (∀ c ∈ l, ∀ y ∈ reprChar q c, y < 0x110000) → ∀ x ∈ (l.foldl (fun out c => out ++ (reprChar q c).toArray) acc).toList, x < 0x110000
  | [], acc, h, _ => h
  | c :: l, acc, h, hc => by
    rw [List.foldl_cons]
    refine fold_ok q l _ (fun x hx => ?_) fun c hc' => hc c (List.mem_cons_of_mem _ hc')
    rw [Array.toList_append, List.mem_append] at hx
    rcases hx with hx | hx
    · exact h x hx
    · exact hc c List.mem_cons_self x hx
theorem repr39 : ∀ c ∈ A36, ∀ y ∈ reprChar 39 c, y < 0x110000 := by decide +kernel
theorem repr34 : ∀ c ∈ A36, ∀ y ∈ reprChar 34 c, y < 0x110000 := by decide +kernel
theorem A36_small : ∀ c ∈ A36, c < 200 := by decide +kernel
theorem okS_name {z : Str} (h : ∀ c ∈ sg z, c ∈ A36) : okS (reprText z) := by
  show PyData.strOk (reprText z) = true
  unfold PyData.strOk
  rw [Array.all_eq_true_iff_forall_mem]
  intro x hx
  refine decide_eq_true ?_
  unfold reprText at hx
  rw [Array.mem_push] at hx
  have hq : reprQuote z = 39 ∨ reprQuote z = 34 := by unfold reprQuote; split <;> simp
  have hq' : reprQuote z < 0x110000 := by rcases hq with e | e <;> rw [e] <;> decide
  rcases hx with hx | hx
  · rw [← Array.foldl_toList] at hx
    refine fold_ok (reprQuote z) z.cps.toList _ (fun y hy => ?_) (fun c hc y hy => ?_) x (Array.mem_def.mp hx)
    · have : y = reprQuote z := by simpa using hy
      rw [this]; exact hq'
    · rcases hq with e | e
      · rw [e] at hy; exact repr39 c (h c hc) y hy
      · rw [e] at hy; exact repr34 c (h c hc) y hy
  · rw [hx]; exact hq'
theorem okK_name {z : Str} (h : ∀ c ∈ sg z, c ∈ A36) (l : z.length ≤ 8) : okK (some (.inr z)) := by
  refine ⟨?_, okS_name h⟩
  have := PySem.StrLaws.reprText_len z (fun c hc => Nat.lt_trans (A36_small c (h c hc)) (by decide))
  omega
/-- filling keeps what such a dict is -/
structure NOk (m : Nat) (p : U → Prop) (ks : List (Option L2.Key)) (us : List U) : Prop where
  l : ks.length = us.length
  m : us.length ≤ m
  ok : ∀ k ∈ ks, okK k
  nd : ks.Nodup
  its : ∀ u ∈ us, p u
theorem NOk.nil {p : U → Prop} : NOk 0 p [] [] := ⟨rfl, Nat.le_refl _, (fun _ h => by cases h), List.nodup_nil, (fun _ h => by cases h)⟩
theorem mem_zipWith {k : Option L2.Key} {u : U} {p : U → Prop} (hu : p u) : ∀ {ks : List (Option L2.Key)} {us : List U}, (∀ x ∈ us, p x) → ∀ x ∈ List.zipWith (fun j y => if j = k then u else y) ks us, p x
  | [], _, _, x, hx => by simp at hx
  | j :: ks, [], _, x, hx => by simp at hx
  | j :: ks, y :: us, h, x, hx => by
    rw [List.zipWith_cons_cons, List.mem_cons] at hx
    rcases hx with rfl | hx
    · split
      · exact hu
      · exact h _ List.mem_cons_self
    · exact mem_zipWith hu (fun x hx => h x (List.mem_cons_of_mem _ hx)) x hx
theorem NOk.put {m : Nat} {p : U → Prop} {ks : List (Option L2.Key)} {us : List U} (h : NOk m p ks us) {k : Option L2.Key} {u : U} (hk : okK k) (hu : p u) : NOk (m + 1) p (putN ks us k u).1 (putN ks us k u).2 := by
  unfold putN
  by_cases q : (ks.any fun j => decide (j = k)) = true
  · rw [if_pos q]
    have e : (List.zipWith (fun j y => if j = k then u else y) ks us).length = us.length := by rw [List.length_zipWith, h.l, Nat.min_self]
    exact ⟨h.l.trans e.symm, by have := h.m; show (List.zipWith _ ks us).length ≤ _; omega, h.ok, h.nd, mem_zipWith hu h.its⟩
  · rw [if_neg q]
    refine ⟨by show (ks ++ [k]).length = (us ++ [u]).length; simp [h.l], by show (us ++ [u]).length ≤ _; have := h.m; simp; omega, fun j hj => ?_, ?_, fun x hx => ?_⟩
    · rcases List.mem_append.mp hj with hj | hj
      · exact h.ok j hj
      · rw [List.mem_singleton] at hj; rw [hj]; exact hk
    · refine List.nodup_append.mpr ⟨h.nd, by simp, fun a ha b hb e => ?_⟩
      rw [List.mem_singleton] at hb
      refine q (List.any_eq_true.mpr ⟨a, ha, decide_eq_true (e.trans hb)⟩)
    · rcases List.mem_append.mp hx with hx | hx
      · exact h.its x hx
      · rw [List.mem_singleton] at hx; rw [hx]; exact hu
end UL

namespace UL
open PySem PySem.Spec PyProof.Rows L2
theorem tw_le {α : Type} (g : α → Bool) (l : List α) : (l.takeWhile g).length ≤ l.length := (List.takeWhile_sublist g).length_le
theorem tw_all {α : Type} {g : α → Bool} {l : List α} (h : ∀ x ∈ l, g x = true) : l.takeWhile g = l := by
  induction l with
  | nil => rfl
  | cons a l ih =>
    rw [List.takeWhile_cons, if_pos (h a List.mem_cons_self), ih fun x hx => h x (List.mem_cons_of_mem _ hx)]
theorem tw_lt {α : Type} {g : α → Bool} {l : List α} (h : ∃ x ∈ l, g x = false) : (l.takeWhile g).length < l.length ∧ ∀ y, l[(l.takeWhile g).length]? = some y → g y = false := by
  induction l with
  | nil => obtain ⟨x, hx, _⟩ := h; cases hx
  | cons a l ih =>
    cases ha : g a with
    | false =>
      rw [List.takeWhile_cons, ha, if_neg (by decide)]
      exact ⟨by simp, fun y hy => by simp at hy; rw [← hy]; exact ha⟩
    | true =>
      rw [List.takeWhile_cons, ha, if_pos rfl]
      obtain ⟨x, hx, e⟩ := h
      have hx : x ∈ l := by
        rcases List.mem_cons.mp hx with rfl | hx
        · rw [ha] at e; cases e
        · exact hx
      obtain ⟨h1, h2⟩ := ih ⟨x, hx, e⟩
      exact ⟨by simp; omega, fun y hy => h2 y (by simpa using hy)⟩
/-- strip leaves nothing exactly if all signs go -/
theorem strip_none (z y : Str) : decide (Txt.stripChars z y = Str.ofString "") = (sg z).all fun c => decide (c ∈ sg y) := by
  have ext : ∀ x : Str, x = Str.ofString "" ↔ x.length = 0 := fun x => ⟨fun h => by rw [h]; rfl, fun h => sg_inj (by rw [List.length_eq_zero_iff.mp ((sg_len x).symm.trans h)]; rfl)⟩
  have hg : ∀ c, y.cps.contains c = decide (c ∈ sg y) := fun c => by
    rw [Array.contains_eq_mem]
    exact decide_eq_decide.mpr Array.mem_def
  have hl : z.length = (sg z).length := sg_len z
  by_cases h : ∀ c ∈ sg z, y.cps.contains c = true
  · have e : ((sg z).all fun c => decide (c ∈ sg y)) = true := List.all_eq_true.mpr fun c hc => by rw [← hg]; exact h c hc
    rw [e]
    refine decide_eq_true ((ext _).mpr ?_)
    have lo : stripLo y.cps.contains true z = z.length := by
      unfold stripLo
      rw [if_pos rfl]
      show ((sg z).takeWhile y.cps.contains).length = _
      rw [tw_all h, hl]
    unfold Txt.stripChars Txt.stripBy
    split
    · rename_i hs
      unfold stripSame at hs
      rw [lo, Bool.and_eq_true] at hs
      simpa using hs.1
    · unfold stripped
      rw [lo]
      show (z.cps.extract z.length _).size = 0
      rw [Array.size_extract]
      have : z.cps.size = z.length := rfl
      omega
  · have h : ∃ c ∈ sg z, y.cps.contains c = false := by
      apply Classical.byContradiction
      intro n
      refine h fun c hc => ?_
      cases q : y.cps.contains c with
      | true => rfl
      | false => exact absurd ⟨c, hc, q⟩ n
    have e : ((sg z).all fun c => decide (c ∈ sg y)) = false := by
      obtain ⟨c, hc, q⟩ := h
      rw [List.all_eq_false]
      exact ⟨c, hc, by rw [← hg, q]; decide⟩
    rw [e]
    obtain ⟨h1, h2⟩ := tw_lt h
    generalize hlo : ((sg z).takeWhile y.cps.contains).length = lo at h1 h2
    have lo' : stripLo y.cps.contains true z = lo := by
      unfold stripLo
      rw [if_pos rfl]
      exact hlo
    have hlt : lo < z.length := by rw [hl]; exact h1
    refine decide_eq_false fun q => ?_
    rw [ext] at q
    unfold Txt.stripChars Txt.stripBy at q
    split at q
    · omega
    · unfold stripped at q
      rw [lo'] at q
      have q : (z.cps.extract lo (stripHi y.cps.contains true z lo)).size = 0 := q
      rw [Array.size_extract] at q
      have hz : z.cps.size = z.length := rfl
      have t2 : (((sg z).drop lo).reverse.takeWhile y.cps.contains).length < ((sg z).drop lo).reverse.length := by
        refine (tw_lt ⟨(sg z)[lo], ?_, ?_⟩).1
        · rw [List.mem_reverse, List.mem_drop_iff_getElem]
          exact ⟨0, by omega, by simp only [Nat.add_zero, Nat.zero_add]; rfl⟩
        · exact h2 _ (List.getElem?_eq_getElem h1)
      rw [List.length_reverse, List.length_drop] at t2
      have hi : stripHi y.cps.contains true z lo = z.length - (((sg z).drop lo).reverse.takeWhile y.cps.contains).length := by
        unfold stripHi
        rw [if_pos rfl]
      rw [hi] at q
      omega
end UL

namespace UL
open PySem PySem.Spec PyProof.Rows L2
def signsV (z : Str) : List V := (sg z).map fun c => .str ⟨#[c]⟩
theorem signs_vals {z : Str} {acc : Array Value} (h : ItemsOf (SignAt z) acc z.cps.size) : Vals (signsV z) acc.toList := by
  have gen : ∀ (l : List Nat) (vs : List Value), vs.length = l.length → (∀ (j : Nat) v, vs[j]? = some v → ∃ c t, l[j]? = some c ∧ v = Value.str ⟨#[c]⟩ t) → Vals (l.map fun c => V.str ⟨#[c]⟩) vs := by
    intro l
    induction l with
    | nil => intro vs hl _; cases vs with
      | nil => exact .nil
      | cons _ _ => simp at hl
    | cons c l ih =>
      intro vs hl hv
      cases vs with
      | nil => simp at hl
      | cons v vs =>
        refine .cons ?_ (ih vs (by simpa using hl) fun j w hw => by simpa using hv (j + 1) w (by simpa using hw))
        obtain ⟨d, t, e1, e2⟩ := hv 0 v rfl
        simp at e1
        subst e1 e2
        exact ⟨t, rfl⟩
  refine gen _ _ ?_ fun j v hj => ?_
  · show acc.toList.length = (sg z).length
    rw [Array.length_toList, h.1, ← sg_len]; rfl
  · obtain ⟨c, t, e1, e2⟩ := h.2 j v (by rw [← Array.getElem?_toList]; exact hj)
    exact ⟨c, t, by rw [Array.getElem?_toList]; exact e1, e2⟩
theorem signsV_len (z : Str) : (signsV z).length = z.length := by unfold signsV; rw [List.length_map, ← sg_len]
theorem signs_rep {W : Wd} {F : Hp} (z : Str) : reps W F (signsV z) (signs z) := by
  unfold signsV signs
  show reps W F (z.cps.toList.map _) (z.cps.toList.map _)
  generalize z.cps.toList = l
  induction l with
  | nil => exact .nil
  | cons c l ih => exact .cons (.str _) ih
def rListT : List V → Hp → VK → Prop := fun xs H Q => ∃ z, xs = [.str z] ∧ z.length ≤ sizeLine ∧ ∀ l, H l = none → Q (.ref l) (upd H l (.lst (signsV z)))
def rTupT : List V → Hp → VK → Prop := fun xs H Q => ∃ z, xs = [.str z] ∧ z.length ≤ sizeLine ∧ ∀ l, H l = none → Q (.ref l) (upd H l (.tup (signsV z)))
section
variable {X : Cx}
theorem call_listT (hc : X.calm = true) : CallR X (.type "list") rListT := by
  intro pins s σ H xs us Q I r h
  obtain ⟨z, rfl, hz, q⟩ := h
  cases r with
  | cons r1 r2 =>
    cases r2
    obtain ⟨t, rfl⟩ := r1
    refine call_list_str (I.ok.hd hc) z t (fun h' tk acc c' kp e hi => ?_) hz
    exact ⟨.ref s.heap.objs.size, _, I.laid (t' := tk) kp (Nat.le_refl _) (show ObjOk X.prog X.w _ h' _ (.lst (signsV z)) from ⟨by rw [signsV_len]; exact hz, acc.toList, c', signs_vals hi, by simpa using e⟩), rfl, q _ (I.hok.fresh (Nat.le_refl _))⟩
theorem call_tupT (hc : X.calm = true) : CallR X (.type "tuple") rTupT := by
  intro pins s σ H xs us Q I r h
  obtain ⟨z, rfl, hz, q⟩ := h
  cases r with
  | cons r1 r2 =>
    cases r2
    obtain ⟨t, rfl⟩ := r1
    refine call_tuple_str (I.ok.hd hc) z t (fun h' tk acc kp hi => ?_) hz
    have I1 : Inv X pins σ H { s with heap := h', toks := tk } := I.kept (t' := tk) kp
    have I2 : Inv X pins σ (upd H h'.objs.size (.tup (signsV z))) { s with heap := h'.push { cls := .type "tuple", data := .seq acc }, toks := tk } :=
      I1.laid (t' := tk) (fun b o e => Heap.get?_push_of_some _ e) (Nat.le_refl _) (show ObjOk X.prog X.w _ _ _ (.tup (signsV z)) from ⟨by rw [signsV_len]; exact hz, acc.toList, signs_vals hi, by simpa using IsTup.new h' acc⟩)
    exact ⟨.ref h'.objs.size, _, I2, rfl, q _ (I1.hok.fresh (Nat.le_refl _))⟩
end
def nListT : LN := fun us κ => match us with
  | [.str z] => z.length ≤ 1000000 ∧ κ (signs z)
  | _ => False
theorem snd_listT {W : Wd} : SndNF W rListT nListT := fun F H vs us κ Q P hv hg hk => by
  unfold nListT at hg
  split at hg
  · rename_i z
    obtain ⟨v, rfl, h⟩ := hv.one
    have := h.str
    subst this
    exact ⟨z, rfl, szl hg.1, fun l hl => hk l _ _ hl (signs_rep z) hg.2⟩
  · exact hg.elim
def nTupT : GN := fun us κ => match us with
  | [.str z] => z.length ≤ 1000000 ∧ κ (.tup (signs z))
  | _ => False
theorem snd_tupT {W : Wd} : SndN W rTupT nTupT := fun F H vs us κ Q P hv hg hk => by
  unfold nTupT at hg
  split at hg
  · rename_i z
    obtain ⟨v, rfl, h⟩ := hv.one
    have := h.str
    subst this
    exact ⟨z, rfl, szl hg.1, fun l hl => hk _ _ _ _ (Ext.new P hl) (.tup (.inl (.inl upd_same)) ((signs_rep z).mono (Ext.new (o := .tup (signsV z)) P hl).same)) hg.2⟩
  · exact hg.elim
/-- a for over range(n), n drawn -/
theorem for_rngD {σ : Type} (B : Int → Prop) (st : σ → List Slot) (J : Nat → σ → Prop) {mi : UI} {g : UG} {b : US} {d : UEnds} {env : List Slot} (s0 : σ)
    (hm : ∀ κ : List U → List Slot → Prop, (∀ n, B n → κ (rng 0 n) env) → mi d.ex env κ) (h0 : env = st s0) (j0 : J 0 s0)
    (hs : ∀ n, B n → ∀ (i : Nat) s, (i : Int) < n → J i s → g (.int i) (st s) fun e => b { d with nx := fun e => ∃ s', e = st s' ∧ J (i + 1) s', ct := fun e => ∃ s', e = st s' ∧ J (i + 1) s', bk := d.nx } e)
    (hd : ∀ n, B n → ∀ s, J n.toNat s → d.nx (st s)) : uFor mi g b d env :=
  hm _ fun n hn => for_rng n st J s0 (mi := fun _ _ κ => κ (rng 0 n) env) (fun κ h => h) h0 j0 (hs n hn) (hd n hn)
end UL

namespace UL
open PySem PySem.Spec PyProof.Rows L2
/-- n - 1, .. , 0 -/
def rngDown (n : Int) : List U := (List.range n.toNat).map fun (i : Nat) => U.int (n - 1 - (i : Int))
def iRev1 (m : UM) : UI := fun ex env k => m ex env fun y env1 => match y with
  | .val (.int j) => 0 ≤ j ∧ j < 2 ^ 62 ∧ k (rngDown j) env1
  | _ => False
section
variable {X : Cx} {c : Uc} {tgt a : Expr} {m : UM}
theorem walkU_down {F : Hp} (n : Int) (h : 0 ≤ n) : WalkU c F (Itc (0 + (((n - 0).toNat : Nat) : Int) - 1) (-1) (n - 0).toNat) (rngDown n) := by
  refine ⟨fun _ => True, YFn fun i => .int ((0 + (((n - 0).toNat : Nat) : Int) - 1) + (i : Nat) * (-1)), ?_, fun _ _ _ _ => trivial, fun F2 i H x H' s P hi ⟨e1, e2⟩ => ?_⟩
  · have : (rngDown n).length = (n - 0).toNat := by unfold rngDown; rw [List.length_map, List.length_range, Int.sub_zero]
    rw [this]; exact walk_rangeC
  · have hi' : i < n.toNat := by unfold rngDown at hi; rw [List.length_map, List.length_range] at hi; exact hi
    refine ⟨F2, .int (n - 1 - (i : Int)), by rw [e1]; exact Ext.refl P, ?_, ?_⟩
    · unfold rngDown
      rw [List.getElem?_map, List.getElem?_range hi']; rfl
    · rw [e2]
      have : (0 + (((n - 0).toNat : Nat) : Int) - 1) + (i : Nat) * (-1) = n - 1 - (i : Int) := by omega
      show rep c.W F2 (V.int ((0 + (((n - 0).toNat : Nat) : Int) - 1) + (i : Nat) * (-1))) _
      rw [this]; exact .int _
theorem ui_rev1 {p p1 pos pos1 : Pos} (hg : Gl X "range") (hm : X.mg "range" = none) (hg' : Gl X "reversed") (hm' : X.mg "reversed" = none) (h : PE X a (tm c m)) (na : starEach [a] X.env = (false, eval a X.env) :: starEach [] X.env := by rfl)
    (hs : starEach [.Call (.Name "range" p) [a] [] pos] X.env = (false, eval (.Call (.Name "range" p) [a] [] pos) X.env) :: starEach [] X.env := by rfl) : PI X tgt (.Call (.Name "reversed" p1) [.Call (.Name "range" p) [a] [] pos] [] pos1) (tI c (iRev1 m)) :=
  PI.imp (pi_revR hg' hm' (prg_1 hg hm h na) hs) fun σ H Q ⟨F, env, ex, k, R, hm, hw, hk⟩ => by
    refine ⟨F, env, ex, _, R, hm, hw, fun F1 H1 env1 v y s1 R1 o1 h1 => ?_⟩
    match y, o1, h1 with
    | .val (.int j), o1, ⟨q1, q2, h1⟩ =>
      cases o1
      exact ⟨j, rfl, by omega, by omega, by omega, q2, hk F1 H1 env1 _ _ s1 R1 (walkU_down j q1) h1⟩
end
theorem rngDown_mem {n : Int} {u : U} (h : u ∈ rngDown n) : ∃ i : Int, 0 ≤ i ∧ i < n ∧ u = .int i := by
  unfold rngDown at h
  obtain ⟨i, hi, rfl⟩ := List.mem_map.mp h
  have hi := List.mem_range.mp hi
  exact ⟨_, by omega, by omega, rfl⟩
theorem PSs.ex {ι : Type} {X : Cx} {e : List Stmt} {p : ι → Prop} {t : ι → TS} (h : ∀ i, p i → PSs X e (t i)) : PSs X e (fun D σ H => ∃ i, p i ∧ t i D σ H) := ⟨fun pins s σ H D I ⟨i, hi, q⟩ => (h i hi).run pins s σ H D I q⟩
end UL

namespace UL
open PySem PySem.Spec PyProof.Rows L2
def topS (i : Nat) : Stmt := PySem.Challenge.pw_markshome_k00_names_are_judged.main.body.getD i (.Pass ⟨0, 0, 0, 0⟩)
def clsB : Stmt → List Stmt
  | .ClassDef (body := b) .. => b
  | _ => []
def memS (i j : Nat) : Stmt := (clsB (topS i)).getD j (.Pass ⟨0, 0, 0, 0⟩)
end UL

namespace UL
open PySem PySem.Spec PyProof.Rows L2
section
variable {P : Program} {w : World} {K : PySem.W.Frag} {mg : Str → Option Value} {base : Heap}
/-- a def that raises nothing, where errors are spoken of -/
theorem fn_cx {k : Nat} {f : Addr} {fd : FuncData} {ps : List Str} {sp : Sp} (G : FnOk P w K mg base CX0 k f fd ps sp) : FnOk P w K mg base (L2.CX P w) k f fd ps sp :=
  ⟨G.len, fun A outer s H args us vs Q E hr he hb hv hs => codeAny_mono (G.run A outer s H args us vs Q E hr he hb hv hs) fun r s' h => by
    cases r with
    | ok x => cases x <;> exact h
    | error e => exact h.elim⟩
@[simp] def spec__law_take : Spec := fun us ex k => ∃ n : Int, us = [.sto, .int n] ∧ n < 2 ^ 250 ∧ ∀ r, 0 ≤ r → r < max 1 n → k (.int r)
theorem ext_sto {st : Option (Addr × Addr)} {F H H' : Hp} {a cc : Addr} (p : Pool ⟨K, mg, st, none, DN P w⟩ F H) (e : st = some (a, cc)) (b : K1.Bt a H H') (s : K1.Sto a cc H') : Ext ⟨K, mg, st, none, DN P w⟩ F H F H' := by
  obtain ⟨h1, h2, _⟩ := p.sto a cc e
  refine ⟨⟨fun x o n q => b x o (n a cc e) q, Same.refl F, fun x o q => .inl q⟩, fun x o q => ?_, fun a' cc' e' => ?_⟩
  · exact b x o (fun z => by rw [z, h1] at q; cases q) (p.sub x o q)
  · have e' : st = some (a', cc') := e'
    rw [e] at e'; cases e'
    obtain ⟨p', st', ct, hd, lf, h4, _, h6, _⟩ := s
    exact ⟨h1, h2, p', st', ct, hd, lf, h6, h4⟩
theorem sto_of {st : Option (Addr × Addr)} {F H : Hp} {a cc : Addr} (p : Pool ⟨K, mg, st, none, DN P w⟩ F H) (e : st = some (a, cc)) : K1.Sto a cc H := by
  obtain ⟨h1, ⟨ns, h2⟩, q, st', ct, hd, lf, h3, h4⟩ := p.sto a cc e
  exact ⟨q, st', ct, hd, lf, h4, (fun z => by rw [z, h1] at h2; cases h2), h3, ns, p.sub _ _ h2⟩
theorem take_U {k : Nat} {f : Addr} {fd : FuncData} {ps : List Str} (G : FnOk P w K mg base CX0 k f fd ps (K1.sp__law_take K)) : FnOk P w K mg base (L2.CX P w) k f fd ps (Pr P w K mg false spec__law_take) :=
  (fn_cx G).imp fun vs H Q E h => by
    obtain ⟨st, F, us, ex, k, p, r, ⟨n, rfl, hn, hk⟩, _, hrt⟩ := h
    cases r with
    | cons r1 r2 =>
      cases r1 with
      | @sto a cc e =>
        cases r2 with
        | cons r3 r4 =>
          cases r3
          cases r4
          exact ⟨a, n, rfl, hn, cc, sto_of p e, fun H' r b s h0 h1 => hrt F H' _ _ (ext_sto p e b s) (.int r) (fun z => by cases z) (hk r h0 h1)⟩
end
end UL

namespace UL
open PySem PySem.Spec PyProof.Rows L2
section
variable {P : Program} {w : World} {K : PySem.W.Frag} {mg : Str → Option Value} {base : Heap}
abbrev s__law_take : Stmt := topS 9
abbrev N__law_take : List Str := ["store", "many", "size", "number"]
theorem sc__law_take : FnScope N__law_take ["store", "many"] (defScope s__law_take) := ⟨rfl, rfl, rfl, by decide +kernel, rfl, by decide +kernel, by decide +kernel⟩
abbrev s__law_pick : Stmt := topS 10
abbrev N__law_pick : List Str := ["store", "items"]
theorem sc__law_pick : FnScope N__law_pick ["store", "items"] (defScope s__law_pick) := ⟨rfl, rfl, rfl, by decide +kernel, rfl, by decide +kernel, by decide +kernel⟩
@[simp] def spec__law_pick : Spec := fun us ex k => ∃ z : Str, us = [.sto, .str z] ∧ z.length < 1000000 ∧ 0 < z.length ∧ ∀ c ∈ sg z, k (.str ⟨#[c]⟩)
theorem ok__law_pick {f__law_pick : Addr} {fd__law_pick : FuncData} (T : Tb mg) (D__law_pick : Df K mg "_law_pick" s__law_pick ["store", "items"] f__law_pick fd__law_pick) {f__law_take : Addr} {fd__law_take : FuncData} (D__law_take : Df K mg "_law_take" s__law_take ["store", "many"] f__law_take fd__law_take) (G__law_take : FnOk P w K mg base (L2.CX P w) 3 f__law_take fd__law_take ["store", "many"] (Pr P w K mg false spec__law_take)) :
    FnOk P w K mg base (L2.CX P w) 4 f__law_pick fd__law_pick ["store", "items"] (Pr P w K mg false spec__law_pick) := by
  refine fn_u D__law_pick.F sc__law_pick false spec__law_pick (fun us ex k h => ?_) ⟨_, fun cdv A outer s H E c hK hM hf hr ft =>
  (us_one (us_ret hf (ue_ix ix_str snd_ixS (ue_var (pv 1)) (ue_call ft G__law_take (hr.mono (by decide)) (by rfl) D__law_take.g D__law_take.F.kp D__law_take.b (ua_cons (ue_var (pv 0)) (ua_cons (ue_callB call_len_str snd_lenS (by rfl) T.m_len (by decide +kernel) (ua_cons (ue_var (pv 1)) ua_nil)) ua_nil))) (fun _ _ => rfl)))), fun us ex k h => ?_⟩
  · obtain ⟨n, rfl, _⟩ := h; rfl
  · obtain ⟨z, rfl, hm, h0, hk⟩ := h
    simp [uSeq, uSet, uSetO, uIf, uRet, uRetF, uRetO, uRetN, uNext, uDrop, uCall, fCall, uCallV, uCons, uNil, uVar, uC, uVal, uOp, uUn, uB, fB, uTup, uLst, fLst, fOp, uOfF, uNot, uAnd, uOr, uOfT, uIfE, uAndV, uOrV, uNotV, uChain, startE, pin, pins, vw, vws, toU, toUs, uSl, fSl, oNone, oSome, uOwnM, uOwnM0, oAppend, oExtend, oClear, oPopAt, oPop, iLst, iTp, iSt, iR1, iR2, uGN, uGT, uGCons, uGNil, gEq, scalU, eqU, gIsN, isNon, gIn_txs, gInS, gIxL, gIxT, gIxS, gSlS, gSlL, gCat, gRep, nLen, nLenS, nInt, nStrI, nMax, nMin, nList, nTuple, gI, gI0, gS, gS0, txs_len, atI_zero, atI_one, atI_lit, max_eq, min_eq, cutU_all, CMul, CPow, CDivW, N__law_pick]
    refine ⟨by omega, by omega, fun r h0 h1 => ⟨by omega, ?_⟩⟩
    obtain ⟨n, rfl⟩ : ∃ n : Nat, r = n := ⟨r.toNat, by omega⟩
    have hr : n < (sg z).length := by rw [← sg_len]; omega
    exact ⟨(sg z)[n], atI_nat (List.getElem?_eq_getElem hr), hk _ (List.getElem_mem hr)⟩
abbrev s__law_odds : Stmt := topS 11
abbrev N__law_odds : List Str := ["store", "part"]
theorem sc__law_odds : FnScope N__law_odds ["store", "part"] (defScope s__law_odds) := ⟨rfl, rfl, rfl, by decide +kernel, rfl, by decide +kernel, by decide +kernel⟩
@[simp] def spec__law_odds : Spec := fun us ex k => ∃ n : Int, us = [.sto, .int n] ∧ n < 2 ^ 250 ∧ ∀ b, k (.bl b)
theorem ok__law_odds {f__law_odds : Addr} {fd__law_odds : FuncData} (T : Tb mg) (D__law_odds : Df K mg "_law_odds" s__law_odds ["store", "part"] f__law_odds fd__law_odds) {f__law_take : Addr} {fd__law_take : FuncData} (D__law_take : Df K mg "_law_take" s__law_take ["store", "many"] f__law_take fd__law_take) (G__law_take : FnOk P w K mg base (L2.CX P w) 3 f__law_take fd__law_take ["store", "many"] (Pr P w K mg false spec__law_take)) :
    FnOk P w K mg base (L2.CX P w) 4 f__law_odds fd__law_odds ["store", "part"] (Pr P w K mg false spec__law_odds) := by
  refine fn_u D__law_odds.F sc__law_odds false spec__law_odds (fun us ex k h => ?_) ⟨_, fun cdv A outer s H E c hK hM hf hr ft =>
  (us_one (us_ret hf (ue_cmp op_eq snd_eq (ue_call ft G__law_take (hr.mono (by decide)) (by rfl) D__law_take.g D__law_take.F.kp D__law_take.b (ua_cons (ue_var (pv 0)) (ua_cons (ue_var (pv 1)) ua_nil))) ue_int (nomark _)))), fun us ex k h => ?_⟩
  · obtain ⟨n, rfl, _⟩ := h; rfl
  · obtain ⟨n, rfl, hm, hk⟩ := h
    simp [uSeq, uSet, uSetO, uIf, uRet, uRetF, uRetO, uRetN, uNext, uDrop, uCall, fCall, uCallV, uCons, uNil, uVar, uC, uVal, uOp, uUn, uB, fB, uTup, uLst, fLst, fOp, uOfF, uNot, uAnd, uOr, uOfT, uIfE, uAndV, uOrV, uNotV, uChain, startE, pin, pins, vw, vws, toU, toUs, uSl, fSl, oNone, oSome, uOwnM, uOwnM0, oAppend, oExtend, oClear, oPopAt, oPop, iLst, iTp, iSt, iR1, iR2, uGN, uGT, uGCons, uGNil, gEq, scalU, eqU, gIsN, isNon, gIn_txs, gInS, gIxL, gIxT, gIxS, gSlS, gSlL, gCat, gRep, nLen, nLenS, nInt, nStrI, nMax, nMin, nList, nTuple, gI, gI0, gS, gS0, txs_len, atI_zero, atI_one, atI_lit, max_eq, min_eq, cutU_all, CMul, CPow, CDivW, N__law_odds]
    grind
abbrev s__law_integer : Stmt := topS 12
abbrev N__law_integer : List Str := ["store", "kind"]
theorem sc__law_integer : FnScope N__law_integer ["store"] (defScope s__law_integer) := ⟨rfl, rfl, rfl, by decide +kernel, rfl, by decide +kernel, by decide +kernel⟩
@[simp] def spec__law_integer : Spec := fun us ex k => us = [.sto] ∧ ∀ i : Int, i < 2 ^ 250 → -(2 ^ 250) < i → k (.int i)
theorem ok__law_integer {f__law_integer : Addr} {fd__law_integer : FuncData} (T : Tb mg) (D__law_integer : Df K mg "_law_integer" s__law_integer ["store"] f__law_integer fd__law_integer) {f__law_take : Addr} {fd__law_take : FuncData} (D__law_take : Df K mg "_law_take" s__law_take ["store", "many"] f__law_take fd__law_take) (G__law_take : FnOk P w K mg base (L2.CX P w) 3 f__law_take fd__law_take ["store", "many"] (Pr P w K mg false spec__law_take)) :
    FnOk P w K mg base (L2.CX P w) 4 f__law_integer fd__law_integer ["store"] (Pr P w K mg false spec__law_integer) := by
  refine fn_u D__law_integer.F sc__law_integer false spec__law_integer (fun us ex k h => ?_) ⟨_, fun cdv A outer s H E c hK hM hf hr ft =>
  (us_cons (us_set (i := 1) sc__law_integer.nd rfl (.inl rfl) (ue_call ft G__law_take (hr.mono (by decide)) (by rfl) D__law_take.g D__law_take.F.kp D__law_take.b (ua_cons (ue_var (pv 0)) (ua_cons ue_int ua_nil))))
  (us_cons (us_if (ut_cmp op_lt s_ltI (ue_var (pv 1)) ue_int (nomark _))
   (us_one (us_ret hf (ue_ix (k_ixL' ft) snd_ixL (ue_f (uf_lst (ua_cons ue_int (ua_cons ue_int (ua_cons (ue_op op_sub s_subI (ue_op op_pow s_powI ue_int ue_int) ue_int) (ua_cons (ue_op op_sub s_subI ue_int (ue_op op_pow s_powI ue_int ue_int)) (ua_cons (ue_un un_neg s_negI ue_int) ua_nil))))))) (ue_var (pv 1)) (fun _ _ => rfl))))
   us_nil)
  (us_cons (us_if (ut_cmp op_lt s_ltI (ue_var (pv 1)) ue_int (nomark _))
   (us_one (us_ret hf (ue_op op_sub s_subI (ue_call ft G__law_take (hr.mono (by decide)) (by rfl) D__law_take.g D__law_take.F.kp D__law_take.b (ua_cons (ue_var (pv 0)) (ua_cons ue_int ua_nil))) ue_int)))
   us_nil)
  (us_one (us_ret hf (ue_op op_add s_addI (ue_op op_sub s_subI (ue_call ft G__law_take (hr.mono (by decide)) (by rfl) D__law_take.g D__law_take.F.kp D__law_take.b (ua_cons (ue_var (pv 0)) (ua_cons (ue_op op_sub s_subI (ue_op op_mul s_mulI ue_int (ue_op op_pow s_powI ue_int ue_int)) ue_int) ua_nil))) (ue_op op_pow s_powI ue_int ue_int)) ue_int)))))), fun us ex k h => ?_⟩
  · obtain ⟨rfl, _⟩ := h; rfl
  · obtain ⟨rfl, hk⟩ := h
    simp [uSeq, uSet, uSetO, uIf, uRet, uRetF, uRetO, uRetN, uNext, uDrop, uCall, fCall, uCallV, uCons, uNil, uVar, uC, uVal, uOp, uUn, uB, fB, uTup, uLst, fLst, fOp, uOfF, uNot, uAnd, uOr, uOfT, uIfE, uAndV, uOrV, uNotV, uChain, startE, pin, pins, vw, vws, toU, toUs, uSl, fSl, oNone, oSome, uOwnM, uOwnM0, oAppend, oExtend, oClear, oPopAt, oPop, iLst, iTp, iSt, iR1, iR2, uGN, uGT, uGCons, uGNil, gEq, scalU, eqU, gIsN, isNon, gIn_txs, gInS, gIxL, gIxT, gIxS, gSlS, gSlL, gCat, gRep, nLen, nLenS, nInt, nStrI, nMax, nMin, nList, nTuple, gI, gI0, gS, gS0, txs_len, atI_zero, atI_one, atI_lit, max_eq, min_eq, cutU_all, CMul, CPow, CDivW, N__law_integer, gNegI]
    intro r h0 h1
    by_cases h : r < 5
    · simp [h]
      obtain h | h | h | h | h : r = 0 ∨ r = 1 ∨ r = 2 ∨ r = 3 ∨ r = 4 := by omega
      all_goals subst h; exact ⟨_, rfl, hk _ (by decide) (by decide)⟩
    · simp [h]
      split
      · exact fun r h0 h1 => hk _ (by omega) (by omega)
      · exact fun r h0 h1 => hk _ (by omega) (by omega)
abbrev s__law_size : Stmt := topS 13
abbrev N__law_size : List Str := ["store", "usual", "most", "kind", "top"]
theorem sc__law_size : FnScope N__law_size ["store", "usual", "most"] (defScope s__law_size) := ⟨rfl, rfl, rfl, by decide +kernel, rfl, by decide +kernel, by decide +kernel⟩
@[simp] def spec__law_size : Spec := fun us ex k => ∃ u m : Int, us = [.sto, .int u, .int m] ∧ m < 1000000 ∧ ∀ r, 0 ≤ r → r ≤ max 0 m → k (.int r)
theorem ok__law_size {f__law_size : Addr} {fd__law_size : FuncData} (T : Tb mg) (D__law_size : Df K mg "_law_size" s__law_size ["store", "usual", "most"] f__law_size fd__law_size) {f__law_take : Addr} {fd__law_take : FuncData} (D__law_take : Df K mg "_law_take" s__law_take ["store", "many"] f__law_take fd__law_take) (G__law_take : FnOk P w K mg base (L2.CX P w) 3 f__law_take fd__law_take ["store", "many"] (Pr P w K mg false spec__law_take)) :
    FnOk P w K mg base (L2.CX P w) 4 f__law_size fd__law_size ["store", "usual", "most"] (Pr P w K mg false spec__law_size) := by
  refine fn_u D__law_size.F sc__law_size false spec__law_size (fun us ex k h => ?_) ⟨_, fun cdv A outer s H E c hK hM hf hr ft =>
  (us_cons (us_set (i := 3) sc__law_size.nd rfl (.inl rfl) (ue_call ft G__law_take (hr.mono (by decide)) (by rfl) D__law_take.g D__law_take.F.kp D__law_take.b (ua_cons (ue_var (pv 0)) (ua_cons ue_int ua_nil))))
  (us_cons (us_set (i := 4) sc__law_size.nd rfl (.inl rfl) (ue_callB (call_max2 (by rfl)) snd_max (by rfl) T.m_max (by decide +kernel) (ua_cons ue_int (ua_cons (ue_var (pv 2)) ua_nil))))
  (us_cons (us_if (ut_cmp op_eq snd_eq (ue_var (pv 3)) ue_int (nomark _))
   (us_one (us_ret hf ue_int))
   us_nil)
  (us_cons (us_if (ut_cmp op_eq snd_eq (ue_var (pv 3)) ue_int (nomark _))
   (us_one (us_ret hf (ue_callB (call_min2 (by rfl)) snd_min (by rfl) T.m_min (by decide +kernel) (ua_cons ue_int (ua_cons (ue_var (pv 4)) ua_nil)))))
   us_nil)
  (us_cons (us_if (ut_cmp op_eq snd_eq (ue_var (pv 3)) ue_int (nomark _))
   (us_one (us_ret hf (ue_var (pv 4))))
   us_nil)
  (us_cons (us_if (ut_cmp op_eq snd_eq (ue_var (pv 3)) ue_int (nomark _))
   (us_one (us_ret hf (ue_call ft G__law_take (hr.mono (by decide)) (by rfl) D__law_take.g D__law_take.F.kp D__law_take.b (ua_cons (ue_var (pv 0)) (ua_cons (ue_op op_add s_addI (ue_var (pv 4)) ue_int) ua_nil)))))
   us_nil)
  (us_one (us_ret hf (ue_call ft G__law_take (hr.mono (by decide)) (by rfl) D__law_take.g D__law_take.F.kp D__law_take.b (ua_cons (ue_var (pv 0)) (ua_cons (ue_op op_add s_addI (ue_callB (call_min2 (by rfl)) snd_min (by rfl) T.m_min (by decide +kernel) (ua_cons (ue_callB (call_max2 (by rfl)) snd_max (by rfl) T.m_max (by decide +kernel) (ua_cons ue_int (ua_cons (ue_var (pv 1)) ua_nil))) (ua_cons (ue_var (pv 4)) ua_nil))) ue_int) ua_nil))))))))))), fun us ex k h => ?_⟩
  · obtain ⟨n, m, rfl, _⟩ := h; rfl
  · obtain ⟨n, m, rfl, hm, hk⟩ := h
    simp [uSeq, uSet, uSetO, uIf, uRet, uRetF, uRetO, uRetN, uNext, uDrop, uCall, fCall, uCallV, uCons, uNil, uVar, uC, uVal, uOp, uUn, uB, fB, uTup, uLst, fLst, fOp, uOfF, uNot, uAnd, uOr, uOfT, uIfE, uAndV, uOrV, uNotV, uChain, startE, pin, pins, vw, vws, toU, toUs, uSl, fSl, oNone, oSome, uOwnM, uOwnM0, oAppend, oExtend, oClear, oPopAt, oPop, iLst, iTp, iSt, iR1, iR2, uGN, uGT, uGCons, uGNil, gEq, scalU, eqU, gIsN, isNon, gIn_txs, gInS, gIxL, gIxT, gIxS, gSlS, gSlL, gCat, gRep, nLen, nLenS, nInt, nStrI, nMax, nMin, nList, nTuple, gI, gI0, gS, gS0, txs_len, atI_zero, atI_one, atI_lit, max_eq, min_eq, cutU_all, CMul, CPow, CDivW, N__law_size]
    grind
abbrev s__law_sign : Stmt := topS 14
abbrev N__law_sign : List Str := ["store", "signs"]
theorem sc__law_sign : FnScope N__law_sign ["store"] (defScope s__law_sign) := ⟨rfl, rfl, rfl, by decide +kernel, rfl, by decide +kernel, by decide +kernel⟩
@[simp] def spec__law_sign : Spec := fun us ex k => us = [.sto] ∧ ∀ c : Nat, k (.str ⟨#[c]⟩)
theorem ok__law_sign {f__law_sign : Addr} {fd__law_sign : FuncData} (T : Tb mg) (D__law_sign : Df K mg "_law_sign" s__law_sign ["store"] f__law_sign fd__law_sign) {f__law_pick : Addr} {fd__law_pick : FuncData} (D__law_pick : Df K mg "_law_pick" s__law_pick ["store", "items"] f__law_pick fd__law_pick) (G__law_pick : FnOk P w K mg base (L2.CX P w) 4 f__law_pick fd__law_pick ["store", "items"] (Pr P w K mg false spec__law_pick)) :
    FnOk P w K mg base (L2.CX P w) 5 f__law_sign fd__law_sign ["store"] (Pr P w K mg false spec__law_sign) := by
  refine fn_u D__law_sign.F sc__law_sign false spec__law_sign (fun us ex k h => ?_) ⟨_, fun cdv A outer s H E c hK hM hf hr ft =>
  (us_cons (us_set (i := 1) sc__law_sign.nd rfl (.inl rfl) ue_str)
  (us_one (us_ret hf (ue_call ft G__law_pick (hr.mono (by decide)) (by rfl) D__law_pick.g D__law_pick.F.kp D__law_pick.b (ua_cons (ue_var (pv 0)) (ua_cons (ue_op op_add_str s_addS (ue_var (pv 1)) ue_str) ua_nil)))))), fun us ex k h => ?_⟩
  · obtain ⟨rfl, _⟩ := h; rfl
  · obtain ⟨rfl, hk⟩ := h
    simp [uSeq, uSet, uSetO, uIf, uRet, uRetF, uRetO, uRetN, uNext, uDrop, uCall, fCall, uCallV, uCons, uNil, uVar, uC, uVal, uOp, uUn, uB, fB, uTup, uLst, fLst, fOp, uOfF, uNot, uAnd, uOr, uOfT, uIfE, uAndV, uOrV, uNotV, uChain, startE, pin, pins, vw, vws, toU, toUs, uSl, fSl, oNone, oSome, uOwnM, uOwnM0, oAppend, oExtend, oClear, oPopAt, oPop, iLst, iTp, iSt, iR1, iR2, uGN, uGT, uGCons, uGNil, gEq, scalU, eqU, gIsN, isNon, gIn_txs, gInS, gIxL, gIxT, gIxS, gSlS, gSlL, gCat, gRep, nLen, nLenS, nInt, nStrI, nMax, nMin, nList, nTuple, gI, gI0, gS, gS0, txs_len, atI_zero, atI_one, atI_lit, max_eq, min_eq, cutU_all, CMul, CPow, CDivW, N__law_sign]
    exact ⟨by decide +kernel, by decide +kernel, by decide +kernel, fun c _ => hk c⟩
abbrev s__law_text : Stmt := topS 15
abbrev N__law_text : List Str := ["store", "most", "k"]
theorem sc__law_text : FnScope N__law_text ["store", "most"] (defScope s__law_text) := ⟨rfl, rfl, rfl, by decide +kernel, rfl, by decide +kernel, by decide +kernel⟩
@[simp] def spec__law_text : Spec := fun us ex k => ∃ m : Int, us = [.sto, .int m] ∧ 0 ≤ m ∧ m ≤ 1000 ∧ ∀ z : Str, z.length ≤ 1000 → k (.str z)
theorem ok__law_text {f__law_text : Addr} {fd__law_text : FuncData} (T : Tb mg) (D__law_text : Df K mg "_law_text" s__law_text ["store", "most"] f__law_text fd__law_text) {f__law_sign : Addr} {fd__law_sign : FuncData} (D__law_sign : Df K mg "_law_sign" s__law_sign ["store"] f__law_sign fd__law_sign) {f__law_size : Addr} {fd__law_size : FuncData} (D__law_size : Df K mg "_law_size" s__law_size ["store", "usual", "most"] f__law_size fd__law_size) (G__law_sign : FnOk P w K mg base (L2.CX P w) 5 f__law_sign fd__law_sign ["store"] (Pr P w K mg false spec__law_sign)) (G__law_size : FnOk P w K mg base (L2.CX P w) 4 f__law_size fd__law_size ["store", "usual", "most"] (Pr P w K mg false spec__law_size)) :
    FnOk P w K mg base (L2.CX P w) 6 f__law_text fd__law_text ["store", "most"] (Pr P w K mg false spec__law_text) := by
  refine fn_u D__law_text.F sc__law_text false spec__law_text (fun us ex k h => ?_) ⟨_, fun cdv A outer s H E c hK hM hf hr ft =>
  (us_one (us_ret hf (ue_join ue_str (ue_f (uf_lc (own := [("k", 2)]) ft sc__law_text.nd (ui_range1 (by rfl) T.m_range (ue_call ft G__law_size (hr.mono (by decide)) (by rfl) D__law_size.g D__law_size.F.kp D__law_size.b (ua_cons (ue_var (pv 0)) (ua_cons ue_int (ua_cons (ue_var (pv 1)) ua_nil))))) (blkOk_by (N := N__law_text) (sc := defScope s__law_text) (by decide +kernel))
    (fun _ _ _ _ _ ft => (ug_name (i := 2) sc__law_text.nd rfl (by first | exact Or.inl rfl | exact Or.inr rfl))) (fun _ _ _ _ _ ft => uts_nil) (fun _ _ _ _ _ ft => (ue_call ft G__law_sign (hr.mono (by decide)) (by rfl) D__law_sign.g D__law_sign.F.kp D__law_sign.b (ua_cons (ue_var (pv 0)) ua_nil))) (by decide)))))), fun us ex k h => ?_⟩
  · obtain ⟨m, rfl, _⟩ := h; rfl
  · obtain ⟨m, rfl, m0, m1, hk⟩ := h
    simp [uSeq, uSet, uSetO, uIf, uRet, uRetF, uRetO, uRetN, uNext, uDrop, uCall, fCall, uCallV, uCons, uNil, uVar, uC, uVal, uOp, uUn, uB, fB, uTup, uLst, fLst, fOp, uOfF, uNot, uAnd, uOr, uOfT, uIfE, uAndV, uOrV, uNotV, uChain, startE, pin, pins, vw, vws, toU, toUs, uSl, fSl, oNone, oSome, uOwnM, uOwnM0, oAppend, oExtend, oClear, oPopAt, oPop, iLst, iTp, iSt, iR1, iR2, uGN, uGT, uGCons, uGNil, gEq, scalU, eqU, gIsN, isNon, gIn_txs, gInS, gIxL, gIxT, gIxS, gSlS, gSlL, gCat, gRep, nLen, nLenS, nInt, nStrI, nMax, nMin, nList, nTuple, gI, gI0, gS, gS0, txs_len, atI_zero, atI_one, atI_lit, max_eq, min_eq, cutU_all, CMul, CPow, CDivW, N__law_text, uM1, gJoin, fLc]
    refine ⟨6, m, ⟨rfl, rfl⟩, by omega, fun r h0 h1 => ⟨by omega, by omega, by rw [rng_len']; omega, lc_eachR (fun y => ∃ z, y = .str z ∧ z.length = 1) (fun i i0 i1 κ hκ => ?_) fun ys hl hp => ?_⟩⟩
    · simp [uSeq, uSet, uSetO, uIf, uRet, uRetF, uRetO, uRetN, uNext, uDrop, uCall, fCall, uCallV, uCons, uNil, uVar, uC, uVal, uOp, uUn, uB, fB, uTup, uLst, fLst, fOp, uOfF, uNot, uAnd, uOr, uOfT, uIfE, uAndV, uOrV, uNotV, uChain, startE, pin, pins, vw, vws, toU, toUs, uSl, fSl, oNone, oSome, uOwnM, uOwnM0, oAppend, oExtend, oClear, oPopAt, oPop, iLst, iTp, iSt, iR1, iR2, uGN, uGT, uGCons, uGNil, gEq, scalU, eqU, gIsN, isNon, gIn_txs, gInS, gIxL, gIxT, gIxS, gSlS, gSlL, gCat, gRep, nLen, nLenS, nInt, nStrI, nMax, nMin, nList, nTuple, gI, gI0, gS, gS0, txs_len, atI_zero, atI_one, atI_lit, max_eq, min_eq, cutU_all, CMul, CPow, CDivW, N__law_text, lcTurn, uYes, exF, wipeE]
      exact fun c => hκ _ ⟨⟨#[c]⟩, rfl, rfl⟩
    · obtain ⟨zs, rfl, hz⟩ := txs_each hp
      have hs := sum_ones hz
      have e0 : (Str.ofString "").length = 0 := rfl
      rw [txs_len] at hl
      exact ⟨zs, rfl, by rw [hs, e0]; omega, hk _ (by rw [join_len, hs]; omega)⟩
theorem low36 : ∀ c ∈ (Str.ofString "abcdefghijklmnopqrstuvwxyz").cps.toList, c ∈ A36 := by decide +kernel
abbrev s__law_free_name : Stmt := topS 16
abbrev N__law_free_name : List Str := ["store", "most", "size", "number", "name", "k"]
theorem sc__law_free_name : FnScope N__law_free_name ["store", "most"] (defScope s__law_free_name) := ⟨rfl, rfl, rfl, by decide +kernel, rfl, by decide +kernel, by decide +kernel⟩
@[simp] def spec__law_free_name : Spec := fun us ex k => ∃ m : Int, us = [.sto, .int m] ∧ 1 ≤ m ∧ m ≤ 100 ∧ ∀ z : Str, 1 ≤ z.length → z.length ≤ m → (∀ c ∈ sg z, c ∈ A36) → k (.str z)
theorem ok__law_free_name {f__law_free_name : Addr} {fd__law_free_name : FuncData} (T : Tb mg) (D__law_free_name : Df K mg "_law_free_name" s__law_free_name ["store", "most"] f__law_free_name fd__law_free_name) {f__law_take : Addr} {fd__law_take : FuncData} (D__law_take : Df K mg "_law_take" s__law_take ["store", "many"] f__law_take fd__law_take) (G__law_take : FnOk P w K mg base (L2.CX P w) 3 f__law_take fd__law_take ["store", "many"] (Pr P w K mg false spec__law_take)) :
    FnOk P w K mg base (L2.CX P w) 4 f__law_free_name fd__law_free_name ["store", "most"] (Pr P w K mg false spec__law_free_name) := by
  refine fn_u D__law_free_name.F sc__law_free_name false spec__law_free_name (fun us ex k h => ?_) ⟨_, fun cdv A outer s H E c hK hM hf hr ft =>
  (us_cons (us_set (i := 2) sc__law_free_name.nd rfl (.inl rfl) (ue_ix (k_ixL' ft) snd_ixL (ue_f (uf_lst (ua_cons ue_int (ua_cons (ue_var (pv 1)) (ua_cons (ue_op op_add s_addI ue_int (ue_call ft G__law_take (hr.mono (by decide)) (by rfl) D__law_take.g D__law_take.F.kp D__law_take.b (ua_cons (ue_var (pv 0)) (ua_cons (ue_var (pv 1)) ua_nil)))) ua_nil))))) (ue_op op_fdivW s_divI (ue_call ft G__law_take (hr.mono (by decide)) (by rfl) D__law_take.g D__law_take.F.kp D__law_take.b (ua_cons (ue_var (pv 0)) (ua_cons ue_int ua_nil))) ue_int) (fun _ _ => rfl)))
  (us_cons (us_set (i := 3) sc__law_free_name.nd rfl (.inl rfl) (ue_call ft G__law_take (hr.mono (by decide)) (by rfl) D__law_take.g D__law_take.F.kp D__law_take.b (ua_cons (ue_var (pv 0)) (ua_cons (ue_op op_pow s_powI ue_int ue_int) ua_nil))))
  (us_cons (us_set (i := 4) sc__law_free_name.nd rfl (.inl rfl) (ue_ix ix_str snd_ixS ue_str (ue_op op_modN s_modI (ue_callTy call_int1 snd_int (by rfl) T.m_int (by decide +kernel) (ua_cons (ue_var (pv 3)) ua_nil)) ue_int) (fun _ _ => rfl)))
  (us_cons (us_set (i := 3) sc__law_free_name.nd rfl (.inl rfl) (ue_op op_fdivW s_divI (ue_var (pv 3)) ue_int))
  (us_cons (us_for (passes_of rfl) ft (ui_range1 (by rfl) T.m_range (ue_op op_sub s_subI (ue_var (pv 2)) ue_int)) (ug_name (i := 5) sc__law_free_name.nd rfl (.inl rfl))
   (us_cons (us_set (i := 4) sc__law_free_name.nd rfl (.inl rfl) (ue_op op_add_str s_addS (ue_var (pv 4)) (ue_ix ix_str snd_ixS ue_str (ue_op op_modN s_modI (ue_callTy call_int1 snd_int (by rfl) T.m_int (by decide +kernel) (ua_cons (ue_var (pv 3)) ua_nil)) ue_int) (fun _ _ => rfl))))
  (us_one (us_set (i := 3) sc__law_free_name.nd rfl (.inl rfl) (ue_op op_fdivW s_divI (ue_var (pv 3)) ue_int)))))
  (us_one (us_ret hf (ue_var (pv 4))))))))), fun us ex k h => ?_⟩
  · obtain ⟨m, rfl, _⟩ := h; rfl
  · obtain ⟨m, rfl, m0, m1, hk⟩ := h
    simp [uSeq, uSet, uSetO, uIf, uRet, uRetF, uRetO, uRetN, uNext, uDrop, uCall, fCall, uCallV, uCons, uNil, uVar, uC, uVal, uOp, uUn, uB, fB, uTup, uLst, fLst, fOp, uOfF, uNot, uAnd, uOr, uOfT, uIfE, uAndV, uOrV, uNotV, uChain, startE, pin, pins, vw, vws, toU, toUs, uSl, fSl, oNone, oSome, uOwnM, uOwnM0, oAppend, oExtend, oClear, oPopAt, oPop, iLst, iTp, iSt, iR1, iR2, uGN, uGT, uGCons, uGNil, gEq, scalU, eqU, gIsN, isNon, gIn_txs, gInS, gIxL, gIxT, gIxS, gSlS, gSlL, gCat, gRep, nLen, nLenS, nInt, nStrI, nMax, nMin, nList, nTuple, gI, gI0, gS, gS0, txs_len, atI_zero, atI_one, atI_lit, max_eq, min_eq, cutU_all, CMul, CPow, CDivW, N__law_free_name]
    refine ⟨by omega, fun r h0 h1 r1 h2 h3 => ⟨by decide, ?_⟩⟩
    refine atI_ex (q := fun r2 => ∀ (r : Int), 0 ≤ r → r < max 1 10000000000000 → _) (by omega) (by simp; omega) fun r2 hr2 => ?_
    obtain ⟨s, rfl, s0, s1⟩ : ∃ s : Int, r2 = .int s ∧ 1 ≤ s ∧ s ≤ m := by
      simp at hr2
      rcases hr2 with rfl | rfl | rfl
      · exact ⟨_, rfl, by omega, by omega⟩
      · exact ⟨_, rfl, by omega, by omega⟩
      · exact ⟨_, rfl, by omega, by omega⟩
    intro q q0 q1
    have f0 := Int.fmod_nonneg_of_pos q (b := 26) (by decide)
    have f1 := Int.fmod_lt_of_pos q (b := 26) (by decide)
    refine ⟨by decide +kernel, atI_ex f0 (by rw [show (Str.ofString "abcdefghijklmnopqrstuvwxyz").cps.toList.length = 26 from by decide +kernel]; exact f1) fun c hc => ⟨by decide, ?_⟩⟩
    have hc : c ∈ A36 := low36 c hc
    refine for_rng (s - 1) (σ := Str × Int × Slot) (fun x => [.val .sto, .val (.int m), .val (.int s), .val (.int x.2.1), .val (.str x.1), x.2.2]) (fun i x => x.1.length = i + 1 ∧ ∀ c ∈ sg x.1, c ∈ A36) (⟨#[c]⟩, q / 26, .no) (fun κ h => ?_) rfl ⟨rfl, fun d hd => by rw [sg_one, List.mem_singleton] at hd; rw [hd]; exact hc⟩ (fun i x hi hj => ?_) (fun x hj => ?_)
    · simp [uSeq, uSet, uSetO, uIf, uRet, uRetF, uRetO, uRetN, uNext, uDrop, uCall, fCall, uCallV, uCons, uNil, uVar, uC, uVal, uOp, uUn, uB, fB, uTup, uLst, fLst, fOp, uOfF, uNot, uAnd, uOr, uOfT, uIfE, uAndV, uOrV, uNotV, uChain, startE, pin, pins, vw, vws, toU, toUs, uSl, fSl, oNone, oSome, uOwnM, uOwnM0, oAppend, oExtend, oClear, oPopAt, oPop, iLst, iTp, iSt, iR1, iR2, uGN, uGT, uGCons, uGNil, gEq, scalU, eqU, gIsN, isNon, gIn_txs, gInS, gIxL, gIxT, gIxS, gSlS, gSlL, gCat, gRep, nLen, nLenS, nInt, nStrI, nMax, nMin, nList, nTuple, gI, gI0, gS, gS0, txs_len, atI_zero, atI_one, atI_lit, max_eq, min_eq, cutU_all, CMul, CPow, CDivW, N__law_free_name]
      exact ⟨by omega, by omega, h⟩
    · simp [uSeq, uSet, uSetO, uIf, uRet, uRetF, uRetO, uRetN, uNext, uDrop, uCall, fCall, uCallV, uCons, uNil, uVar, uC, uVal, uOp, uUn, uB, fB, uTup, uLst, fLst, fOp, uOfF, uNot, uAnd, uOr, uOfT, uIfE, uAndV, uOrV, uNotV, uChain, startE, pin, pins, vw, vws, toU, toUs, uSl, fSl, oNone, oSome, uOwnM, uOwnM0, oAppend, oExtend, oClear, oPopAt, oPop, iLst, iTp, iSt, iR1, iR2, uGN, uGT, uGCons, uGNil, gEq, scalU, eqU, gIsN, isNon, gIn_txs, gInS, gIxL, gIxT, gIxS, gSlS, gSlL, gCat, gRep, nLen, nLenS, nInt, nStrI, nMax, nMin, nList, nTuple, gI, gI0, gS, gS0, txs_len, atI_zero, atI_one, atI_lit, max_eq, min_eq, cutU_all, CMul, CPow, CDivW, N__law_free_name]
      have f0 := Int.fmod_nonneg_of_pos x.2.1 (b := 36) (by decide)
      have f1 := Int.fmod_lt_of_pos x.2.1 (b := 36) (by decide)
      refine ⟨by decide +kernel, atI_ex f0 (by rw [show (Str.ofString "abcdefghijklmnopqrstuvwxyz0123456789").cps.toList.length = 36 from by decide +kernel]; exact f1) fun c hc => ⟨?_, by decide, ?_, fun d hd => ?_⟩⟩
      · rw [len_one]; have := hj.1; omega
      · rw [len_app, len_one, hj.1]
      · have hd : d ∈ sg (x.1 ++ ⟨#[c]⟩) := Array.mem_def.mp hd
        rw [sg_app, sg_one, List.mem_append, List.mem_singleton] at hd
        rcases hd with hd | hd
        · exact hj.2 d hd
        · rw [hd]; exact hc
    · simp [uSeq, uSet, uSetO, uIf, uRet, uRetF, uRetO, uRetN, uNext, uDrop, uCall, fCall, uCallV, uCons, uNil, uVar, uC, uVal, uOp, uUn, uB, fB, uTup, uLst, fLst, fOp, uOfF, uNot, uAnd, uOr, uOfT, uIfE, uAndV, uOrV, uNotV, uChain, startE, pin, pins, vw, vws, toU, toUs, uSl, fSl, oNone, oSome, uOwnM, uOwnM0, oAppend, oExtend, oClear, oPopAt, oPop, iLst, iTp, iSt, iR1, iR2, uGN, uGT, uGCons, uGNil, gEq, scalU, eqU, gIsN, isNon, gIn_txs, gInS, gIxL, gIxT, gIxS, gSlS, gSlL, gCat, gRep, nLen, nLenS, nInt, nStrI, nMax, nMin, nList, nTuple, gI, gI0, gS, gS0, txs_len, atI_zero, atI_one, atI_lit, max_eq, min_eq, cutU_all, CMul, CPow, CDivW, N__law_free_name]
      have := hj.1
      exact hk _ (by omega) (by omega) hj.2
abbrev s__law_bad_word : Stmt := topS 17
abbrev N__law_bad_word : List Str := ["store", "name", "kind", "place"]
theorem sc__law_bad_word : FnScope N__law_bad_word ["store"] (defScope s__law_bad_word) := ⟨rfl, rfl, rfl, by decide +kernel, rfl, by decide +kernel, by decide +kernel⟩
@[simp] def spec__law_bad_word : Spec := fun us ex k => us = [.sto] ∧ ∀ z : Str, z.length ≤ 100 → k (.str z)
theorem ok__law_bad_word {f__law_bad_word : Addr} {fd__law_bad_word : FuncData} (T : Tb mg) (D__law_bad_word : Df K mg "_law_bad_word" s__law_bad_word ["store"] f__law_bad_word fd__law_bad_word) {f__law_free_name : Addr} {fd__law_free_name : FuncData} (D__law_free_name : Df K mg "_law_free_name" s__law_free_name ["store", "most"] f__law_free_name fd__law_free_name) {f__law_pick : Addr} {fd__law_pick : FuncData} (D__law_pick : Df K mg "_law_pick" s__law_pick ["store", "items"] f__law_pick fd__law_pick) {f__law_take : Addr} {fd__law_take : FuncData} (D__law_take : Df K mg "_law_take" s__law_take ["store", "many"] f__law_take fd__law_take) (G__law_free_name : FnOk P w K mg base (L2.CX P w) 4 f__law_free_name fd__law_free_name ["store", "most"] (Pr P w K mg false spec__law_free_name)) (G__law_pick : FnOk P w K mg base (L2.CX P w) 4 f__law_pick fd__law_pick ["store", "items"] (Pr P w K mg false spec__law_pick)) (G__law_take : FnOk P w K mg base (L2.CX P w) 3 f__law_take fd__law_take ["store", "many"] (Pr P w K mg false spec__law_take)) :
    FnOk P w K mg base (L2.CX P w) 5 f__law_bad_word fd__law_bad_word ["store"] (Pr P w K mg false spec__law_bad_word) := by
  refine fn_u D__law_bad_word.F sc__law_bad_word false spec__law_bad_word (fun us ex k h => ?_) ⟨_, fun cdv A outer s H E c hK hM hf hr ft =>
  (us_cons (us_set (i := 1) sc__law_bad_word.nd rfl (.inl rfl) (ue_call ft G__law_free_name (hr.mono (by decide)) (by rfl) D__law_free_name.g D__law_free_name.F.kp D__law_free_name.b (ua_cons (ue_var (pv 0)) (ua_cons ue_int ua_nil))))
  (us_cons (us_set (i := 2) sc__law_bad_word.nd rfl (.inl rfl) (ue_call ft G__law_take (hr.mono (by decide)) (by rfl) D__law_take.g D__law_take.F.kp D__law_take.b (ua_cons (ue_var (pv 0)) (ua_cons ue_int ua_nil))))
  (us_cons (us_set (i := 3) sc__law_bad_word.nd rfl (.inl rfl) (ue_call ft G__law_take (hr.mono (by decide)) (by rfl) D__law_take.g D__law_take.F.kp D__law_take.b (ua_cons (ue_var (pv 0)) (ua_cons (ue_op op_add s_addI (ue_callB call_len_str snd_lenS (by rfl) T.m_len (by decide +kernel) (ua_cons (ue_var (pv 1)) ua_nil)) ue_int) ua_nil))))
  (us_cons (us_if (ut_cmp op_eq snd_eq (ue_var (pv 2)) ue_int (nomark _))
   (us_one (us_ret hf (ue_op op_add_str s_addS (ue_callTy call_str_int snd_strI (by rfl) T.m_str (by decide +kernel) (ua_cons (ue_call ft G__law_take (hr.mono (by decide)) (by rfl) D__law_take.g D__law_take.F.kp D__law_take.b (ua_cons (ue_var (pv 0)) (ua_cons ue_int ua_nil))) ua_nil)) (ue_var (pv 1)))))
   us_nil)
  (us_cons (us_if (ut_cmp op_eq snd_eq (ue_var (pv 2)) ue_int (nomark _))
   (us_one (us_ret hf (ue_slice sl_str snd_slS (ue_op op_add_str s_addS (ue_var (pv 1)) ue_str) uo_none (uo_some (ue_op op_add s_addI ue_int (ue_call ft G__law_take (hr.mono (by decide)) (by rfl) D__law_take.g D__law_take.F.kp D__law_take.b (ua_cons (ue_var (pv 0)) (ua_cons ue_int ua_nil))))))))
   us_nil)
  (us_cons (us_if (ut_cmp op_eq snd_eq (ue_var (pv 2)) ue_int (nomark _))
   (us_one (us_ret hf (ue_op op_add_str s_addS (ue_op op_add_str s_addS (ue_slice sl_str snd_slS (ue_var (pv 1)) uo_none (uo_some (ue_var (pv 3)))) (ue_call ft G__law_pick (hr.mono (by decide)) (by rfl) D__law_pick.g D__law_pick.F.kp D__law_pick.b (ua_cons (ue_var (pv 0)) (ua_cons ue_str ua_nil)))) (ue_slice sl_str snd_slS (ue_var (pv 1)) (uo_some (ue_var (pv 3))) uo_none))))
   us_nil)
  (us_one (us_ret hf (ue_op op_add_str s_addS (ue_op op_add_str s_addS (ue_slice sl_str snd_slS (ue_var (pv 1)) uo_none (uo_some (ue_var (pv 3)))) (ue_call ft G__law_pick (hr.mono (by decide)) (by rfl) D__law_pick.g D__law_pick.F.kp D__law_pick.b (ua_cons (ue_var (pv 0)) (ua_cons ue_str ua_nil)))) (ue_slice sl_str snd_slS (ue_var (pv 1)) (uo_some (ue_var (pv 3))) uo_none)))))))))), fun us ex k h => ?_⟩
  · obtain ⟨rfl, _⟩ := h; rfl
  · obtain ⟨rfl, hk⟩ := h
    simp [uSeq, uSet, uSetO, uIf, uRet, uRetF, uRetO, uRetN, uNext, uDrop, uCall, fCall, uCallV, uCons, uNil, uVar, uC, uVal, uOp, uUn, uB, fB, uTup, uLst, fLst, fOp, uOfF, uNot, uAnd, uOr, uOfT, uIfE, uAndV, uOrV, uNotV, uChain, startE, pin, pins, vw, vws, toU, toUs, uSl, fSl, oNone, oSome, uOwnM, uOwnM0, oAppend, oExtend, oClear, oPopAt, oPop, iLst, iTp, iSt, iR1, iR2, uGN, uGT, uGCons, uGNil, gEq, scalU, eqU, gIsN, isNon, gIn_txs, gInS, gIxL, gIxT, gIxS, gSlS, gSlL, gCat, gRep, nLen, nLenS, nInt, nStrI, nMax, nMin, nList, nTuple, gI, gI0, gS, gS0, txs_len, atI_zero, atI_one, atI_lit, max_eq, min_eq, cutU_all, CMul, CPow, CDivW, N__law_bad_word]
    intro z z0 z1 _ r r0 r1
    refine ⟨by omega, by omega, fun p p0 p1 => ?_⟩
    have a1 : (Str.ofString "a0b1c2d3e4").length = 10 := by decide +kernel
    split
    · intro d d0 d1
      have := repr_digit d0 (by omega)
      refine ⟨Nat.lt_of_lt_of_le (m := 10) (by omega) (by decide), by omega, hk _ (by rw [len_app]; omega)⟩
    split
    · refine ⟨by omega, fun d d0 d1 => ⟨by rw [len_app]; omega, hk _ ?_⟩⟩
      rw [len_cut_to _ (by omega), len_app]; omega
    split
    all_goals
      refine ⟨by omega, by decide +kernel, by decide +kernel, fun c _ => ?_⟩
      have h1 := len_cut_to z (i := p) (by omega)
      have h2 := len_cut_from z (i := p) (by omega)
      rw [len_app, len_one]
      refine ⟨by omega, by omega, by omega, hk _ ?_⟩
      rw [len_app, len_app, len_one]; omega
abbrev s__law_bad_name : Stmt := topS 18
abbrev N__law_bad_name : List Str := ["store", "kind", "name", "place"]
theorem sc__law_bad_name : FnScope N__law_bad_name ["store"] (defScope s__law_bad_name) := ⟨rfl, rfl, rfl, by decide +kernel, rfl, by decide +kernel, by decide +kernel⟩
@[simp] def spec__law_bad_name : Spec := fun us ex k => us = [.sto] ∧ ∀ z : Str, z.length ≤ 4000 → k (.str z)
theorem ok__law_bad_name {f__law_bad_name : Addr} {fd__law_bad_name : FuncData} (T : Tb mg) (D__law_bad_name : Df K mg "_law_bad_name" s__law_bad_name ["store"] f__law_bad_name fd__law_bad_name) {f__law_bad_word : Addr} {fd__law_bad_word : FuncData} (D__law_bad_word : Df K mg "_law_bad_word" s__law_bad_word ["store"] f__law_bad_word fd__law_bad_word) {f__law_free_name : Addr} {fd__law_free_name : FuncData} (D__law_free_name : Df K mg "_law_free_name" s__law_free_name ["store", "most"] f__law_free_name fd__law_free_name) {f__law_pick : Addr} {fd__law_pick : FuncData} (D__law_pick : Df K mg "_law_pick" s__law_pick ["store", "items"] f__law_pick fd__law_pick) {f__law_size : Addr} {fd__law_size : FuncData} (D__law_size : Df K mg "_law_size" s__law_size ["store", "usual", "most"] f__law_size fd__law_size) {f__law_take : Addr} {fd__law_take : FuncData} (D__law_take : Df K mg "_law_take" s__law_take ["store", "many"] f__law_take fd__law_take) (G__law_bad_word : FnOk P w K mg base (L2.CX P w) 5 f__law_bad_word fd__law_bad_word ["store"] (Pr P w K mg false spec__law_bad_word)) (G__law_free_name : FnOk P w K mg base (L2.CX P w) 4 f__law_free_name fd__law_free_name ["store", "most"] (Pr P w K mg false spec__law_free_name)) (G__law_pick : FnOk P w K mg base (L2.CX P w) 4 f__law_pick fd__law_pick ["store", "items"] (Pr P w K mg false spec__law_pick)) (G__law_size : FnOk P w K mg base (L2.CX P w) 4 f__law_size fd__law_size ["store", "usual", "most"] (Pr P w K mg false spec__law_size)) (G__law_take : FnOk P w K mg base (L2.CX P w) 3 f__law_take fd__law_take ["store", "many"] (Pr P w K mg false spec__law_take)) :
    FnOk P w K mg base (L2.CX P w) 6 f__law_bad_name fd__law_bad_name ["store"] (Pr P w K mg false spec__law_bad_name) := by
  refine fn_u D__law_bad_name.F sc__law_bad_name false spec__law_bad_name (fun us ex k h => ?_) ⟨_, fun cdv A outer s H E c hK hM hf hr ft =>
  (us_cons (us_set (i := 1) sc__law_bad_name.nd rfl (.inl rfl) (ue_call ft G__law_take (hr.mono (by decide)) (by rfl) D__law_take.g D__law_take.F.kp D__law_take.b (ua_cons (ue_var (pv 0)) (ua_cons ue_int ua_nil))))
  (us_cons (us_set (i := 2) sc__law_bad_name.nd rfl (.inl rfl) (ue_call ft G__law_free_name (hr.mono (by decide)) (by rfl) D__law_free_name.g D__law_free_name.F.kp D__law_free_name.b (ua_cons (ue_var (pv 0)) (ua_cons ue_int ua_nil))))
  (us_cons (us_set (i := 3) sc__law_bad_name.nd rfl (.inl rfl) (ue_call ft G__law_take (hr.mono (by decide)) (by rfl) D__law_take.g D__law_take.F.kp D__law_take.b (ua_cons (ue_var (pv 0)) (ua_cons (ue_op op_add s_addI (ue_callB call_len_str snd_lenS (by rfl) T.m_len (by decide +kernel) (ua_cons (ue_var (pv 2)) ua_nil)) ue_int) ua_nil))))
  (us_cons (us_if (ut_cmp op_eq snd_eq (ue_var (pv 1)) ue_int (nomark _))
   (us_one (us_ret hf ue_str))
   us_nil)
  (us_cons (us_if (ut_cmp op_eq snd_eq (ue_var (pv 1)) ue_int (nomark _))
   (us_one (us_ret hf (ue_op op_add_str s_addS (ue_op op_add_str s_addS (ue_slice sl_str snd_slS (ue_var (pv 2)) uo_none (uo_some (ue_var (pv 3)))) (ue_call ft G__law_pick (hr.mono (by decide)) (by rfl) D__law_pick.g D__law_pick.F.kp D__law_pick.b (ua_cons (ue_var (pv 0)) (ua_cons ue_str ua_nil)))) (ue_slice sl_str snd_slS (ue_var (pv 2)) (uo_some (ue_var (pv 3))) uo_none))))
   us_nil)
  (us_cons (us_if (ut_cmp op_eq snd_eq (ue_var (pv 1)) ue_int (nomark _))
   (us_one (us_ret hf (ue_slice sl_str snd_slS (ue_op op_mulS s_mulS (ue_var (pv 2)) ue_int) uo_none (uo_some (ue_op op_add s_addI ue_int (ue_call ft G__law_size (hr.mono (by decide)) (by rfl) D__law_size.g D__law_size.F.kp D__law_size.b (ua_cons (ue_var (pv 0)) (ua_cons ue_int (ua_cons ue_int ua_nil)))))))))
   us_nil)
  (us_one (us_ret hf (ue_call ft G__law_bad_word (hr.mono (by decide)) (by rfl) D__law_bad_word.g D__law_bad_word.F.kp D__law_bad_word.b (ua_cons (ue_var (pv 0)) ua_nil)))))))))), fun us ex k h => ?_⟩
  · obtain ⟨rfl, _⟩ := h; rfl
  · obtain ⟨rfl, hk⟩ := h
    simp [uSeq, uSet, uSetO, uIf, uRet, uRetF, uRetO, uRetN, uNext, uDrop, uCall, fCall, uCallV, uCons, uNil, uVar, uC, uVal, uOp, uUn, uB, fB, uTup, uLst, fLst, fOp, uOfF, uNot, uAnd, uOr, uOfT, uIfE, uAndV, uOrV, uNotV, uChain, startE, pin, pins, vw, vws, toU, toUs, uSl, fSl, oNone, oSome, uOwnM, uOwnM0, oAppend, oExtend, oClear, oPopAt, oPop, iLst, iTp, iSt, iR1, iR2, uGN, uGT, uGCons, uGNil, gEq, scalU, eqU, gIsN, isNon, gIn_txs, gInS, gIxL, gIxT, gIxS, gSlS, gSlL, gCat, gRep, nLen, nLenS, nInt, nStrI, nMax, nMin, nList, nTuple, gI, gI0, gS, gS0, txs_len, atI_zero, atI_one, atI_lit, max_eq, min_eq, cutU_all, CMul, CPow, CDivW, N__law_bad_name]
    intro r r0 r1 z z0 z1 _
    refine ⟨by omega, by omega, fun p p0 p1 => ?_⟩
    split
    · exact hk _ (by decide)
    split
    · refine ⟨by omega, by decide +kernel, by decide +kernel, fun c _ => ?_⟩
      have h1 := len_cut_to z (i := p) (by omega)
      have h2 := len_cut_from z (i := p) (by omega)
      rw [len_app, len_one]
      refine ⟨by omega, by omega, by omega, hk _ ?_⟩
      rw [len_app, len_app, len_one]; omega
    split
    · refine ⟨⟨by omega, by omega, by omega, by omega⟩, 30, 3991, ⟨rfl, rfl⟩, by omega, fun d d0 d1 => ?_⟩
      have e : (mulS z 500).length = 500 * z.length := mulS_len z 500
      refine ⟨by rw [e]; omega, hk _ ?_⟩
      rw [len_cut_to _ (by omega), e]; omega
    · exact fun z hz => hk z (by omega)
end
end UL

namespace UL
open PySem PySem.Spec PyProof.Rows L2
section
variable {P : Program} {w : World} {K : PySem.W.Frag} {mg : Str → Option Value} {base : Heap}
abbrev s__law_same : Stmt := topS 20
abbrev N__law_same : List Str := ["told", "due", "labels", "label", "k"]
theorem sc__law_same : FnScope N__law_same ["told", "due"] (defScope s__law_same) := ⟨rfl, rfl, rfl, by decide +kernel, rfl, by decide +kernel, by decide +kernel⟩
@[simp] def spec__law_same : Nat → Spec := fun n us ex k => ∃ u, us = [u, u] ∧ okU u ∧ dpU u < n ∧ k (.bl true)
theorem ok__law_same {n : Nat} {f__law_same : Addr} {fd__law_same : FuncData} (T : Tb mg) (D__law_same : Df K mg "_law_same" s__law_same ["told", "due"] f__law_same fd__law_same) (G__law_same : FnOk P w K mg base (L2.CX P w) (0 + n) f__law_same fd__law_same ["told", "due"] (Pr P w K mg false (spec__law_same (n)))) :
    FnOk P w K mg base (L2.CX P w) (0 + n + 1) f__law_same fd__law_same ["told", "due"] (Pr P w K mg false (spec__law_same (n + 1))) := by
  refine fn_u D__law_same.F sc__law_same false (spec__law_same (n + 1)) (fun us ex k h => ?_) ⟨_, fun cdv A outer s H E c hK hM hf hr ft =>
  (us_cons (us_if (ut_cmp op_isN snd_isN (ue_var (pv 1)) ue_non (nomark _))
   (us_one (us_ret hf (ue_cmp op_isN snd_isN (ue_var (pv 0)) ue_non (nomark _))))
   us_nil)
  (us_cons (us_if (ut_val (ue_callB (k_isi2 ft) (snd_isi2 ft) (by rfl) T.m_isinstance (by decide +kernel) (ua_cons (ue_var (pv 1)) (ua_cons (ue_ty (n := "bool") (by rfl) T.m_bool (by decide +kernel)) ua_nil))))
   (us_one (us_ret hf (ue_and (ue_callB (k_isi2 ft) (snd_isi2 ft) (by rfl) T.m_isinstance (by decide +kernel) (ua_cons (ue_var (pv 0)) (ua_cons (ue_ty (n := "bool") (by rfl) T.m_bool (by decide +kernel)) ua_nil))) (ue_one (ue_cmp op_eq snd_eq (ue_var (pv 0)) (ue_var (pv 1)) (nomark _))))))
   us_nil)
  (us_cons (us_if (ut_val (ue_callB (k_isi2 ft) (snd_isi2 ft) (by rfl) T.m_isinstance (by decide +kernel) (ua_cons (ue_var (pv 1)) (ua_cons (ue_ty (n := "int") (by rfl) T.m_int (by decide +kernel)) ua_nil))))
   (us_one (us_ret hf (ue_and (ue_callB (k_isi2 ft) (snd_isi2 ft) (by rfl) T.m_isinstance (by decide +kernel) (ua_cons (ue_var (pv 0)) (ua_cons (ue_ty (n := "int") (by rfl) T.m_int (by decide +kernel)) ua_nil))) (ue_and (ue_not (ue_callB (k_isi2 ft) (snd_isi2 ft) (by rfl) T.m_isinstance (by decide +kernel) (ua_cons (ue_var (pv 0)) (ua_cons (ue_ty (n := "bool") (by rfl) T.m_bool (by decide +kernel)) ua_nil)))) (ue_one (ue_cmp op_eq snd_eq (ue_var (pv 0)) (ue_var (pv 1)) (nomark _)))))))
   us_nil)
  (us_cons (us_if (ut_val (ue_callB (k_isi2 ft) (snd_isi2 ft) (by rfl) T.m_isinstance (by decide +kernel) (ua_cons (ue_var (pv 1)) (ua_cons (ue_ty (n := "str") (by rfl) T.m_str (by decide +kernel)) ua_nil))))
   (us_one (us_ret hf (ue_and (ue_callB (k_isi2 ft) (snd_isi2 ft) (by rfl) T.m_isinstance (by decide +kernel) (ua_cons (ue_var (pv 0)) (ua_cons (ue_ty (n := "str") (by rfl) T.m_str (by decide +kernel)) ua_nil))) (ue_one (ue_cmp op_eq snd_eq (ue_var (pv 0)) (ue_var (pv 1)) (nomark _))))))
   us_nil)
  (us_cons (us_if (PW.pt (uw_or (PW.pt (uw_and (ut_val (ue_callB (k_isi2 ft) (snd_isi2 ft) (by rfl) T.m_isinstance (by decide +kernel) (ua_cons (ue_var (pv 1)) (ua_cons (ue_ty (n := "list") (by rfl) T.m_list (by decide +kernel)) ua_nil)))) (uw_and1 (ut_not (ut_val (ue_callB (k_isi2 ft) (snd_isi2 ft) (by rfl) T.m_isinstance (by decide +kernel) (ua_cons (ue_var (pv 0)) (ua_cons (ue_ty (n := "list") (by rfl) T.m_list (by decide +kernel)) ua_nil)))))))) (uw_or1 (PW.pt (uw_and (ut_val (ue_callB (k_isi2 ft) (snd_isi2 ft) (by rfl) T.m_isinstance (by decide +kernel) (ua_cons (ue_var (pv 1)) (ua_cons (ue_ty (n := "tuple") (by rfl) T.m_tuple (by decide +kernel)) ua_nil)))) (uw_and1 (ut_not (ut_val (ue_callB (k_isi2 ft) (snd_isi2 ft) (by rfl) T.m_isinstance (by decide +kernel) (ua_cons (ue_var (pv 0)) (ua_cons (ue_ty (n := "tuple") (by rfl) T.m_tuple (by decide +kernel)) ua_nil)))))))))))
   (us_one (us_ret hf ue_bl))
   us_nil)
  (us_cons (us_if (ut_val (ue_callB (k_isi2 ft) (snd_isi2 ft) (by rfl) T.m_isinstance (by decide +kernel) (ua_cons (ue_var (pv 1)) (ua_cons (ue_ty (n := "dict") (by rfl) T.m_dict (by decide +kernel)) ua_nil))))
   (us_cons (us_if (PW.pt (uw_or (ut_not (ut_val (ue_callB (k_isi2 ft) (snd_isi2 ft) (by rfl) T.m_isinstance (by decide +kernel) (ua_cons (ue_var (pv 0)) (ua_cons (ue_ty (n := "dict") (by rfl) T.m_dict (by decide +kernel)) ua_nil))))) (uw_or1 (ut_cmp op_ne snd_ne (ue_callB (k_len2 ft) (snd_len2 ft) (by rfl) T.m_len (by decide +kernel) (ua_cons (ue_var (pv 0)) ua_nil)) (ue_callB (k_len2 ft) (snd_len2 ft) (by rfl) T.m_len (by decide +kernel) (ua_cons (ue_var (pv 1)) ua_nil)) (nomark _)))))
   (us_one (us_ret hf ue_bl))
   us_nil)
  (us_cons (us_set (i := 2) sc__law_same.nd rfl (.inl rfl) (ue_f (uf_callB (k_sortD ft (hu64 hr)) snd_sort (by rfl) T.m_sorted (by decide +kernel) (ua_cons (ue_f (uf_lc (own := [("label", 3)]) ft sc__law_same.nd (ui_dn ft (ue_var (pv 0))) (blkOk_by (N := N__law_same) (sc := defScope s__law_same) (by decide +kernel))
    (fun _ _ _ _ _ ft => (ug_name (i := 3) sc__law_same.nd rfl (by first | exact Or.inl rfl | exact Or.inr rfl))) (fun _ _ _ _ _ ft => uts_nil) (fun _ _ _ _ _ ft => (ue_callB call_reprK snd_repr (by rfl) T.m_repr (by decide +kernel) (ua_cons (ue_var (pv 3)) ua_nil))) (by decide))) ua_nil))))
  (us_cons (us_if (ut_cmp (k_neD' ft hr.units) snd_neD (ue_var (pv 2)) (ue_f (uf_callB (k_sortD ft (hu64 hr)) snd_sort (by rfl) T.m_sorted (by decide +kernel) (ua_cons (ue_f (uf_lc (own := [("label", 3)]) ft sc__law_same.nd (ui_dn ft (ue_var (pv 1))) (blkOk_by (N := N__law_same) (sc := defScope s__law_same) (by decide +kernel))
    (fun _ _ _ _ _ ft => (ug_name (i := 3) sc__law_same.nd rfl (by first | exact Or.inl rfl | exact Or.inr rfl))) (fun _ _ _ _ _ ft => uts_nil) (fun _ _ _ _ _ ft => (ue_callB call_reprK snd_repr (by rfl) T.m_repr (by decide +kernel) (ua_cons (ue_var (pv 3)) ua_nil))) (by decide))) ua_nil))) (nomark _))
   (us_one (us_ret hf ue_bl))
   us_nil)
  (us_one (us_ret hf (ue_callB (k_all' ft) snd_all (by rfl) T.m_all (by decide +kernel) (ua_cons (ue_f (uf_lc (own := [("label", 3)]) ft sc__law_same.nd (ui_dn ft (ue_var (pv 1))) (blkOk_by (N := N__law_same) (sc := defScope s__law_same) (by decide +kernel))
    (fun _ _ _ _ _ ft => (ug_name (i := 3) sc__law_same.nd rfl (by first | exact Or.inl rfl | exact Or.inr rfl))) (fun _ _ _ _ _ ft => uts_nil) (fun _ _ _ _ _ ft => (ue_and (ue_cmp op_inN (snd_inN ft) (ue_var (pv 3)) (ue_var (pv 0)) rfl) (ue_one (ue_call ft G__law_same (hr.mono (by omega)) (by rfl) D__law_same.g D__law_same.F.kp D__law_same.b (ua_cons (ue_ix (k_ix2 ft) (snd_ix2 ft) (ue_var (pv 0)) (ue_var (pv 3)) (fun _ _ => rfl)) (ua_cons (ue_ix (k_ix2 ft) (snd_ix2 ft) (ue_var (pv 1)) (ue_var (pv 3)) (fun _ _ => rfl)) ua_nil)))))) (by decide))) ua_nil)))))))
   us_nil)
  (us_one (us_ret hf (ue_and (ue_cmp op_eq snd_eq (ue_callB (k_len2 ft) (snd_len2 ft) (by rfl) T.m_len (by decide +kernel) (ua_cons (ue_var (pv 0)) ua_nil)) (ue_callB (k_len2 ft) (snd_len2 ft) (by rfl) T.m_len (by decide +kernel) (ua_cons (ue_var (pv 1)) ua_nil)) (nomark _)) (ue_one (ue_callB (k_all' ft) snd_all (by rfl) T.m_all (by decide +kernel) (ua_cons (ue_f (uf_lc (own := [("k", 4)]) ft sc__law_same.nd (ui_range1 (by rfl) T.m_range (ue_callB (k_len2 ft) (snd_len2 ft) (by rfl) T.m_len (by decide +kernel) (ua_cons (ue_var (pv 1)) ua_nil))) (blkOk_by (N := N__law_same) (sc := defScope s__law_same) (by decide +kernel))
    (fun _ _ _ _ _ ft => (ug_name (i := 4) sc__law_same.nd rfl (by first | exact Or.inl rfl | exact Or.inr rfl))) (fun _ _ _ _ _ ft => uts_nil) (fun _ _ _ _ _ ft => (ue_call ft G__law_same (hr.mono (by omega)) (by rfl) D__law_same.g D__law_same.F.kp D__law_same.b (ua_cons (ue_ix (k_ix2 ft) (snd_ix2 ft) (ue_var (pv 0)) (ue_var (pv 4)) (fun _ _ => rfl)) (ua_cons (ue_ix (k_ix2 ft) (snd_ix2 ft) (ue_var (pv 1)) (ue_var (pv 4)) (fun _ _ => rfl)) ua_nil)))) (by decide))) ua_nil)))))))))))), fun us ex k h => ?_⟩
  · obtain ⟨t, rfl, _⟩ := h; rfl
  · obtain ⟨t, rfl, ht, hn, hk⟩ := h
    simp [uSeq, uSet, uSetO, uIf, uRet, uRetF, uRetO, uRetN, uNext, uDrop, uCall, fCall, uCallV, uCons, uNil, uVar, uC, uVal, uOp, uUn, uB, fB, uTup, uLst, fLst, fOp, uOfF, uNot, uAnd, uOr, uOfT, uIfE, uAndV, uOrV, uNotV, uChain, startE, pin, pins, vw, vws, toU, toUs, uSl, fSl, oNone, oSome, uOwnM, uOwnM0, oAppend, oExtend, oClear, oPopAt, oPop, iLst, iTp, iSt, iR1, iR2, uGN, uGT, uGCons, uGNil, gEq, scalU, eqU, gIsN, isNon, gIn_txs, gInS, gIxL, gIxT, gIxS, gSlS, gSlL, gCat, gRep, nLen, nLenS, nInt, nStrI, nMax, nMin, nList, nTuple, gI, gI0, gS, gS0, txs_len, atI_zero, atI_one, atI_lit, max_eq, min_eq, cutU_all, CMul, CPow, CDivW, N__law_same, isi2_bool ht, isi2_int ht, isi2_str ht, isi2_list ht, isi2_tuple ht, isi2_dict ht]
    cases t <;> unfold okU at ht <;> simp [isBl, isIn, isTx, isLs, isTu, isDc] at hk ht ⊢
    all_goals try exact hk
    · rename_i xs
      simp [uSeq, uSet, uSetO, uIf, uRet, uRetF, uRetO, uRetN, uNext, uDrop, uCall, fCall, uCallV, uCons, uNil, uVar, uC, uVal, uOp, uUn, uB, fB, uTup, uLst, fLst, fOp, uOfF, uNot, uAnd, uOr, uOfT, uIfE, uAndV, uOrV, uNotV, uChain, startE, pin, pins, vw, vws, toU, toUs, uSl, fSl, oNone, oSome, uOwnM, uOwnM0, oAppend, oExtend, oClear, oPopAt, oPop, iLst, iTp, iSt, iR1, iR2, uGN, uGT, uGCons, uGNil, gEq, scalU, eqU, gIsN, isNon, gIn_txs, gInS, gIxL, gIxT, gIxS, gSlS, gSlL, gCat, gRep, nLen, nLenS, nInt, nStrI, nMax, nMin, nList, nTuple, gI, gI0, gS, gS0, txs_len, atI_zero, atI_one, atI_lit, max_eq, min_eq, cutU_all, CMul, CPow, CDivW, N__law_same, fLc, lcTurn, uYes, wipeE, exF]
      refine ⟨by omega, by rw [rng_length]; omega, lc_all' (fun _ => true) (fun i hi κ hκ => ?_) (by rw [all_true]; exact hk)⟩
      simp [uSeq, uSet, uSetO, uIf, uRet, uRetF, uRetO, uRetN, uNext, uDrop, uCall, fCall, uCallV, uCons, uNil, uVar, uC, uVal, uOp, uUn, uB, fB, uTup, uLst, fLst, fOp, uOfF, uNot, uAnd, uOr, uOfT, uIfE, uAndV, uOrV, uNotV, uChain, startE, pin, pins, vw, vws, toU, toUs, uSl, fSl, oNone, oSome, uOwnM, uOwnM0, oAppend, oExtend, oClear, oPopAt, oPop, iLst, iTp, iSt, iR1, iR2, uGN, uGT, uGCons, uGNil, gEq, scalU, eqU, gIsN, isNon, gIn_txs, gInS, gIxL, gIxT, gIxS, gSlS, gSlL, gCat, gRep, nLen, nLenS, nInt, nStrI, nMax, nMin, nList, nTuple, gI, gI0, gS, gS0, txs_len, atI_zero, atI_one, atI_lit, max_eq, min_eq, cutU_all, CMul, CPow, CDivW, N__law_same, lcTurn, uYes, exF]
      have e : atI xs (i : Int) = some xs[i] := atI_nat (List.getElem?_eq_getElem hi)
      have := dpUs_mem (List.getElem_mem hi)
      unfold dpU at hn
      exact ⟨_, e, _, e, _, ⟨rfl, rfl⟩, okUs_mem ht.2 (List.getElem_mem hi), by omega, hκ⟩
    · rename_i xs
      simp [uSeq, uSet, uSetO, uIf, uRet, uRetF, uRetO, uRetN, uNext, uDrop, uCall, fCall, uCallV, uCons, uNil, uVar, uC, uVal, uOp, uUn, uB, fB, uTup, uLst, fLst, fOp, uOfF, uNot, uAnd, uOr, uOfT, uIfE, uAndV, uOrV, uNotV, uChain, startE, pin, pins, vw, vws, toU, toUs, uSl, fSl, oNone, oSome, uOwnM, uOwnM0, oAppend, oExtend, oClear, oPopAt, oPop, iLst, iTp, iSt, iR1, iR2, uGN, uGT, uGCons, uGNil, gEq, scalU, eqU, gIsN, isNon, gIn_txs, gInS, gIxL, gIxT, gIxS, gSlS, gSlL, gCat, gRep, nLen, nLenS, nInt, nStrI, nMax, nMin, nList, nTuple, gI, gI0, gS, gS0, txs_len, atI_zero, atI_one, atI_lit, max_eq, min_eq, cutU_all, CMul, CPow, CDivW, N__law_same, fLc, lcTurn, uYes, wipeE, exF]
      refine ⟨by omega, by rw [rng_length]; omega, lc_all' (fun _ => true) (fun i hi κ hκ => ?_) (by rw [all_true]; exact hk)⟩
      simp [uSeq, uSet, uSetO, uIf, uRet, uRetF, uRetO, uRetN, uNext, uDrop, uCall, fCall, uCallV, uCons, uNil, uVar, uC, uVal, uOp, uUn, uB, fB, uTup, uLst, fLst, fOp, uOfF, uNot, uAnd, uOr, uOfT, uIfE, uAndV, uOrV, uNotV, uChain, startE, pin, pins, vw, vws, toU, toUs, uSl, fSl, oNone, oSome, uOwnM, uOwnM0, oAppend, oExtend, oClear, oPopAt, oPop, iLst, iTp, iSt, iR1, iR2, uGN, uGT, uGCons, uGNil, gEq, scalU, eqU, gIsN, isNon, gIn_txs, gInS, gIxL, gIxT, gIxS, gSlS, gSlL, gCat, gRep, nLen, nLenS, nInt, nStrI, nMax, nMin, nList, nTuple, gI, gI0, gS, gS0, txs_len, atI_zero, atI_one, atI_lit, max_eq, min_eq, cutU_all, CMul, CPow, CDivW, N__law_same, lcTurn, uYes, exF]
      have e : atI xs (i : Int) = some xs[i] := atI_nat (List.getElem?_eq_getElem hi)
      have := dpUs_mem (List.getElem_mem hi)
      unfold dpU at hn
      exact ⟨_, e, _, e, _, ⟨rfl, rfl⟩, okUs_mem ht.2 (List.getElem_mem hi), by omega, hκ⟩
    · rename_i ks us
      obtain ⟨l, l1, ok, nd, ou⟩ := ht
      unfold dpU at hn
      simp [uSeq, uSet, uSetO, uIf, uRet, uRetF, uRetO, uRetN, uNext, uDrop, uCall, fCall, uCallV, uCons, uNil, uVar, uC, uVal, uOp, uUn, uB, fB, uTup, uLst, fLst, fOp, uOfF, uNot, uAnd, uOr, uOfT, uIfE, uAndV, uOrV, uNotV, uChain, startE, pin, pins, vw, vws, toU, toUs, uSl, fSl, oNone, oSome, uOwnM, uOwnM0, oAppend, oExtend, oClear, oPopAt, oPop, iLst, iTp, iSt, iR1, iR2, uGN, uGT, uGCons, uGNil, gEq, scalU, eqU, gIsN, isNon, gIn_txs, gInS, gIxL, gIxT, gIxS, gSlS, gSlL, gCat, gRep, nLen, nLenS, nInt, nStrI, nMax, nMin, nList, nTuple, gI, gI0, gS, gS0, txs_len, atI_zero, atI_one, atI_lit, max_eq, min_eq, cutU_all, CMul, CPow, CDivW, N__law_same, fLc, lcTurn, uYes, wipeE, exF, iDcn]
      have turn : ∀ (e1 e2 e3 e4 e5 : Slot) (u : U), u ∈ ks.map kU → ∀ κ : Option U → Prop, κ (some (reprU u)) → lcTurn (uGN 3) uYes (uB nRepr (uCons (uVar 3) uNil)) [e1, e2, e3, e4, e5] u κ := fun e1 e2 e3 e4 e5 u hu κ hκ => by
        obtain ⟨j, hj, rfl⟩ := List.mem_map.mp hu
        simp [uSeq, uSet, uSetO, uIf, uRet, uRetF, uRetO, uRetN, uNext, uDrop, uCall, fCall, uCallV, uCons, uNil, uVar, uC, uVal, uOp, uUn, uB, fB, uTup, uLst, fLst, fOp, uOfF, uNot, uAnd, uOr, uOfT, uIfE, uAndV, uOrV, uNotV, uChain, startE, pin, pins, vw, vws, toU, toUs, uSl, fSl, oNone, oSome, uOwnM, uOwnM0, oAppend, oExtend, oClear, oPopAt, oPop, iLst, iTp, iSt, iR1, iR2, uGN, uGT, uGCons, uGNil, gEq, scalU, eqU, gIsN, isNon, gIn_txs, gInS, gIxL, gIxT, gIxS, gSlS, gSlL, gCat, gRep, nLen, nLenS, nInt, nStrI, nMax, nMin, nList, nTuple, gI, gI0, gS, gS0, txs_len, atI_zero, atI_one, atI_lit, max_eq, min_eq, cutU_all, CMul, CPow, CDivW, N__law_same, lcTurn, uYes, exF]
        refine ⟨j, keyN_kU j, ok j hj, ?_⟩
        unfold reprU at hκ
        rw [keyN_kU] at hκ
        exact hκ
      have hs : ∀ z ∈ srtT (ks.map reprK), okS z := fun z hz => by
        obtain ⟨j, hj, rfl⟩ := List.mem_map.mp (srtT_mem hz)
        exact okS_reprK (ok j hj)
      refine ⟨by omega, lcRun_map reprU (turn _ _ _ _ _) ?_⟩
      rw [reprU_map]
      refine nSort_txs ⟨by omega, lcRun_map reprU (turn _ _ _ _ _) ?_⟩
      rw [reprU_map]
      refine nSort_txs (neD_txs hs ?_)
      simp
      refine ⟨by omega, lcRun_map (fun _ => .bl true) (fun u hu κ hκ => ?_) ⟨_, bls_true, ?_⟩⟩
      · obtain ⟨j, hj, rfl⟩ := List.mem_map.mp hu
        simp [uSeq, uSet, uSetO, uIf, uRet, uRetF, uRetO, uRetN, uNext, uDrop, uCall, fCall, uCallV, uCons, uNil, uVar, uC, uVal, uOp, uUn, uB, fB, uTup, uLst, fLst, fOp, uOfF, uNot, uAnd, uOr, uOfT, uIfE, uAndV, uOrV, uNotV, uChain, startE, pin, pins, vw, vws, toU, toUs, uSl, fSl, oNone, oSome, uOwnM, uOwnM0, oAppend, oExtend, oClear, oPopAt, oPop, iLst, iTp, iSt, iR1, iR2, uGN, uGT, uGCons, uGNil, gEq, scalU, eqU, gIsN, isNon, gIn_txs, gInS, gIxL, gIxT, gIxS, gSlS, gSlL, gCat, gRep, nLen, nLenS, nInt, nStrI, nMax, nMin, nList, nTuple, gI, gI0, gS, gS0, txs_len, atI_zero, atI_one, atI_lit, max_eq, min_eq, cutU_all, CMul, CPow, CDivW, N__law_same, lcTurn, uYes, exF]
        obtain ⟨i, hi⟩ := List.getElem?_of_mem hj
        obtain ⟨u, h1, h2⟩ := atK_self nd hi l
        have hm := List.mem_of_getElem? h1
        have := dpUs_mem hm
        refine ⟨j, keyN_kU j, ?_⟩
        rw [h2, if_pos (show (some u).isSome = true from rfl)]
        exact ⟨j, keyN_kU j, u, h2, j, keyN_kU j, u, h2, u, ⟨rfl, rfl⟩, okUs_mem ou hm, by omega, hκ⟩
      · have e : ((List.map (fun x => true) (List.map kU ks)).all id) = true := by simp
        show k (.bl _)
        rw [e]; exact hk
theorem rec__law_same {f__law_same : Addr} {fd__law_same : FuncData} (T : Tb mg) (D__law_same : Df K mg "_law_same" s__law_same ["told", "due"] f__law_same fd__law_same) : ∀ n : Nat, FnOk P w K mg base (L2.CX P w) (0 + n) f__law_same fd__law_same ["told", "due"] (Pr P w K mg false (spec__law_same n))
  | 0 => fn_void fun us ex k ⟨_, _, _, h, _⟩ => absurd h (Nat.not_lt_zero _)
  | n + 1 => ok__law_same T D__law_same (rec__law_same T D__law_same n)
abbrev s__law_copy : Stmt := topS 21
abbrev N__law_copy : List Str := ["value", "item", "found", "label"]
theorem sc__law_copy : FnScope N__law_copy ["value"] (defScope s__law_copy) := ⟨rfl, rfl, rfl, by decide +kernel, rfl, by decide +kernel, by decide +kernel⟩
@[simp] def spec__law_copy : Nat → Spec := fun n us ex k => ∃ u, us = [u] ∧ okU u ∧ dpU u < n ∧ k u
theorem ok__law_copy {n : Nat} {f__law_copy : Addr} {fd__law_copy : FuncData} (T : Tb mg) (D__law_copy : Df K mg "_law_copy" s__law_copy ["value"] f__law_copy fd__law_copy) (G__law_copy : FnOk P w K mg base (L2.CX P w) (0 + n) f__law_copy fd__law_copy ["value"] (Pr P w K mg false (spec__law_copy (n)))) :
    FnOk P w K mg base (L2.CX P w) (0 + n + 1) f__law_copy fd__law_copy ["value"] (Pr P w K mg false (spec__law_copy (n + 1))) := by
  refine fn_u D__law_copy.F sc__law_copy false (spec__law_copy (n + 1)) (fun us ex k h => ?_) ⟨_, fun cdv A outer s H E c hK hM hf hr ft =>
  (us_cons (us_if (ut_val (ue_callB (k_isi2 ft) (snd_isi2 ft) (by rfl) T.m_isinstance (by decide +kernel) (ua_cons (ue_var (pv 0)) (ua_cons (ue_ty (n := "list") (by rfl) T.m_list (by decide +kernel)) ua_nil))))
   (us_one (us_ret hf (ue_f (uf_lc (own := [("item", 1)]) ft sc__law_copy.nd (ui_list (ue_var (pv 0))) (blkOk_by (N := N__law_copy) (sc := defScope s__law_copy) (by decide +kernel))
    (fun _ _ _ _ _ ft => (ug_name (i := 1) sc__law_copy.nd rfl (by first | exact Or.inl rfl | exact Or.inr rfl))) (fun _ _ _ _ _ ft => uts_nil) (fun _ _ _ _ _ ft => (ue_call ft G__law_copy (hr.mono (by omega)) (by rfl) D__law_copy.g D__law_copy.F.kp D__law_copy.b (ua_cons (ue_var (pv 1)) ua_nil))) (by decide)))))
   us_nil)
  (us_cons (us_if (ut_val (ue_callB (k_isi2 ft) (snd_isi2 ft) (by rfl) T.m_isinstance (by decide +kernel) (ua_cons (ue_var (pv 0)) (ua_cons (ue_ty (n := "tuple") (by rfl) T.m_tuple (by decide +kernel)) ua_nil))))
   (us_one (us_ret hf (ue_callTy (k_tuple' ft) snd_tuple (by rfl) T.m_tuple (by decide +kernel) (ua_cons (ue_f (uf_lc (own := [("item", 1)]) ft sc__law_copy.nd (ui_tup ft (ue_var (pv 0))) (blkOk_by (N := N__law_copy) (sc := defScope s__law_copy) (by decide +kernel))
    (fun _ _ _ _ _ ft => (ug_name (i := 1) sc__law_copy.nd rfl (by first | exact Or.inl rfl | exact Or.inr rfl))) (fun _ _ _ _ _ ft => uts_nil) (fun _ _ _ _ _ ft => (ue_call ft G__law_copy (hr.mono (by omega)) (by rfl) D__law_copy.g D__law_copy.F.kp D__law_copy.b (ua_cons (ue_var (pv 1)) ua_nil))) (by decide))) ua_nil))))
   us_nil)
  (us_cons (us_if (ut_val (ue_callB (k_isi2 ft) (snd_isi2 ft) (by rfl) T.m_isinstance (by decide +kernel) (ua_cons (ue_var (pv 0)) (ua_cons (ue_ty (n := "dict") (by rfl) T.m_dict (by decide +kernel)) ua_nil))))
   (us_cons (us_setD (i := 2) ft sc__law_copy.nd rfl (.inl rfl))
  (us_cons (us_for (passes_of rfl) ft (ui_dn ft (ue_var (pv 0))) (ug_name (i := 3) sc__law_copy.nd rfl (.inl rfl))
   (us_one (us_putD (i := 2) (j := 3) ft (pv 2) (pv 3) (ue_call ft G__law_copy (hr.mono (by omega)) (by rfl) D__law_copy.g D__law_copy.F.kp D__law_copy.b (ua_cons (ue_ix (k_ix2 ft) (snd_ix2 ft) (ue_var (pv 0)) (ue_var (pv 3)) (fun _ _ => rfl)) ua_nil)))))
  (us_one (us_retD (i := 2) ft hf (pv 2)))))
   us_nil)
  (us_one (us_ret hf (ue_var (pv 0))))))), fun us ex k h => ?_⟩
  · obtain ⟨t, rfl, _⟩ := h; rfl
  · obtain ⟨t, rfl, ht, hn, hk⟩ := h
    simp [uSeq, uSet, uSetO, uIf, uRet, uRetF, uRetO, uRetN, uNext, uDrop, uCall, fCall, uCallV, uCons, uNil, uVar, uC, uVal, uOp, uUn, uB, fB, uTup, uLst, fLst, fOp, uOfF, uNot, uAnd, uOr, uOfT, uIfE, uAndV, uOrV, uNotV, uChain, startE, pin, pins, vw, vws, toU, toUs, uSl, fSl, oNone, oSome, uOwnM, uOwnM0, oAppend, oExtend, oClear, oPopAt, oPop, iLst, iTp, iSt, iR1, iR2, uGN, uGT, uGCons, uGNil, gEq, scalU, eqU, gIsN, isNon, gIn_txs, gInS, gIxL, gIxT, gIxS, gSlS, gSlL, gCat, gRep, nLen, nLenS, nInt, nStrI, nMax, nMin, nList, nTuple, gI, gI0, gS, gS0, txs_len, atI_zero, atI_one, atI_lit, max_eq, min_eq, cutU_all, CMul, CPow, CDivW, N__law_copy, isi2_list ht, isi2_tuple ht, isi2_dict ht]
    cases t <;> unfold okU at ht <;> simp [isLs, isTu, isDc] at hk ht ⊢
    all_goals try exact hk
    · rename_i xs
      unfold dpU at hn
      simp [uSeq, uSet, uSetO, uIf, uRet, uRetF, uRetO, uRetN, uNext, uDrop, uCall, fCall, uCallV, uCons, uNil, uVar, uC, uVal, uOp, uUn, uB, fB, uTup, uLst, fLst, fOp, uOfF, uNot, uAnd, uOr, uOfT, uIfE, uAndV, uOrV, uNotV, uChain, startE, pin, pins, vw, vws, toU, toUs, uSl, fSl, oNone, oSome, uOwnM, uOwnM0, oAppend, oExtend, oClear, oPopAt, oPop, iLst, iTp, iSt, iR1, iR2, uGN, uGT, uGCons, uGNil, gEq, scalU, eqU, gIsN, isNon, gIn_txs, gInS, gIxL, gIxT, gIxS, gSlS, gSlL, gCat, gRep, nLen, nLenS, nInt, nStrI, nMax, nMin, nList, nTuple, gI, gI0, gS, gS0, txs_len, atI_zero, atI_one, atI_lit, max_eq, min_eq, cutU_all, CMul, CPow, CDivW, N__law_copy, fLc, lcTurn, uYes, wipeE, exF]
      refine ⟨by omega, lcRun_map id (fun u hu κ hκ => ?_) (by rw [List.map_id]; exact hk)⟩
      simp [uSeq, uSet, uSetO, uIf, uRet, uRetF, uRetO, uRetN, uNext, uDrop, uCall, fCall, uCallV, uCons, uNil, uVar, uC, uVal, uOp, uUn, uB, fB, uTup, uLst, fLst, fOp, uOfF, uNot, uAnd, uOr, uOfT, uIfE, uAndV, uOrV, uNotV, uChain, startE, pin, pins, vw, vws, toU, toUs, uSl, fSl, oNone, oSome, uOwnM, uOwnM0, oAppend, oExtend, oClear, oPopAt, oPop, iLst, iTp, iSt, iR1, iR2, uGN, uGT, uGCons, uGNil, gEq, scalU, eqU, gIsN, isNon, gIn_txs, gInS, gIxL, gIxT, gIxS, gSlS, gSlL, gCat, gRep, nLen, nLenS, nInt, nStrI, nMax, nMin, nList, nTuple, gI, gI0, gS, gS0, txs_len, atI_zero, atI_one, atI_lit, max_eq, min_eq, cutU_all, CMul, CPow, CDivW, N__law_copy, lcTurn, uYes, exF]
      have := dpUs_mem hu
      exact ⟨okUs_mem ht.2 hu, by omega, hκ⟩
    · rename_i xs
      unfold dpU at hn
      simp [uSeq, uSet, uSetO, uIf, uRet, uRetF, uRetO, uRetN, uNext, uDrop, uCall, fCall, uCallV, uCons, uNil, uVar, uC, uVal, uOp, uUn, uB, fB, uTup, uLst, fLst, fOp, uOfF, uNot, uAnd, uOr, uOfT, uIfE, uAndV, uOrV, uNotV, uChain, startE, pin, pins, vw, vws, toU, toUs, uSl, fSl, oNone, oSome, uOwnM, uOwnM0, oAppend, oExtend, oClear, oPopAt, oPop, iLst, iTp, iSt, iR1, iR2, uGN, uGT, uGCons, uGNil, gEq, scalU, eqU, gIsN, isNon, gIn_txs, gInS, gIxL, gIxT, gIxS, gSlS, gSlL, gCat, gRep, nLen, nLenS, nInt, nStrI, nMax, nMin, nList, nTuple, gI, gI0, gS, gS0, txs_len, atI_zero, atI_one, atI_lit, max_eq, min_eq, cutU_all, CMul, CPow, CDivW, N__law_copy, fLc, lcTurn, uYes, wipeE, exF]
      refine ⟨by omega, lcRun_map id (fun u hu κ hκ => ?_) (by rw [List.map_id]; exact hk)⟩
      simp [uSeq, uSet, uSetO, uIf, uRet, uRetF, uRetO, uRetN, uNext, uDrop, uCall, fCall, uCallV, uCons, uNil, uVar, uC, uVal, uOp, uUn, uB, fB, uTup, uLst, fLst, fOp, uOfF, uNot, uAnd, uOr, uOfT, uIfE, uAndV, uOrV, uNotV, uChain, startE, pin, pins, vw, vws, toU, toUs, uSl, fSl, oNone, oSome, uOwnM, uOwnM0, oAppend, oExtend, oClear, oPopAt, oPop, iLst, iTp, iSt, iR1, iR2, uGN, uGT, uGCons, uGNil, gEq, scalU, eqU, gIsN, isNon, gIn_txs, gInS, gIxL, gIxT, gIxS, gSlS, gSlL, gCat, gRep, nLen, nLenS, nInt, nStrI, nMax, nMin, nList, nTuple, gI, gI0, gS, gS0, txs_len, atI_zero, atI_one, atI_lit, max_eq, min_eq, cutU_all, CMul, CPow, CDivW, N__law_copy, lcTurn, uYes, exF]
      have := dpUs_mem hu
      exact ⟨okUs_mem ht.2 hu, by omega, hκ⟩
    · rename_i ks us
      obtain ⟨l, l1, ok, nd, ou⟩ := ht
      unfold dpU at hn
      simp [uSeq, uSet, uSetO, uIf, uRet, uRetF, uRetO, uRetN, uNext, uDrop, uCall, fCall, uCallV, uCons, uNil, uVar, uC, uVal, uOp, uUn, uB, fB, uTup, uLst, fLst, fOp, uOfF, uNot, uAnd, uOr, uOfT, uIfE, uAndV, uOrV, uNotV, uChain, startE, pin, pins, vw, vws, toU, toUs, uSl, fSl, oNone, oSome, uOwnM, uOwnM0, oAppend, oExtend, oClear, oPopAt, oPop, iLst, iTp, iSt, iR1, iR2, uGN, uGT, uGCons, uGNil, gEq, scalU, eqU, gIsN, isNon, gIn_txs, gInS, gIxL, gIxT, gIxS, gSlS, gSlL, gCat, gRep, nLen, nLenS, nInt, nStrI, nMax, nMin, nList, nTuple, gI, gI0, gS, gS0, txs_len, atI_zero, atI_one, atI_lit, max_eq, min_eq, cutU_all, CMul, CPow, CDivW, N__law_copy, uSetD]
      refine for_st kU ks (σ := Nat × Slot) (fun s => [.val (.dcn ks us), .no, .pas (.n (ks.take s.1) (us.take s.1)), s.2]) (fun i s => s.1 = i) (0, .no) (fun κ h => ?_) rfl rfl (fun i j s hj hi => ?_) (fun s hi => ?_)
      · simp [uSeq, uSet, uSetO, uIf, uRet, uRetF, uRetO, uRetN, uNext, uDrop, uCall, fCall, uCallV, uCons, uNil, uVar, uC, uVal, uOp, uUn, uB, fB, uTup, uLst, fLst, fOp, uOfF, uNot, uAnd, uOr, uOfT, uIfE, uAndV, uOrV, uNotV, uChain, startE, pin, pins, vw, vws, toU, toUs, uSl, fSl, oNone, oSome, uOwnM, uOwnM0, oAppend, oExtend, oClear, oPopAt, oPop, iLst, iTp, iSt, iR1, iR2, uGN, uGT, uGCons, uGNil, gEq, scalU, eqU, gIsN, isNon, gIn_txs, gInS, gIxL, gIxT, gIxS, gSlS, gSlL, gCat, gRep, nLen, nLenS, nInt, nStrI, nMax, nMin, nList, nTuple, gI, gI0, gS, gS0, txs_len, atI_zero, atI_one, atI_lit, max_eq, min_eq, cutU_all, CMul, CPow, CDivW, N__law_copy, iDcn]
        exact h
      · obtain ⟨i', x⟩ := s
        obtain rfl : i' = i := hi
        obtain ⟨u, h1, h2⟩ := atK_self nd hj l
        have hm := List.mem_of_getElem? h1
        have := dpUs_mem hm
        have nj : j ∉ ks.take i' := by
          have := List.Sublist.nodup (List.take_sublist (i' + 1) ks) nd
          rw [List.take_add_one, hj] at this
          intro z
          have h := (List.nodup_append.mp this).2.2 j z j (by simp)
          exact h rfl
        simp [uSeq, uSet, uSetO, uIf, uRet, uRetF, uRetO, uRetN, uNext, uDrop, uCall, fCall, uCallV, uCons, uNil, uVar, uC, uVal, uOp, uUn, uB, fB, uTup, uLst, fLst, fOp, uOfF, uNot, uAnd, uOr, uOfT, uIfE, uAndV, uOrV, uNotV, uChain, startE, pin, pins, vw, vws, toU, toUs, uSl, fSl, oNone, oSome, uOwnM, uOwnM0, oAppend, oExtend, oClear, oPopAt, oPop, iLst, iTp, iSt, iR1, iR2, uGN, uGT, uGCons, uGNil, gEq, scalU, eqU, gIsN, isNon, gIn_txs, gInS, gIxL, gIxT, gIxS, gSlS, gSlL, gCat, gRep, nLen, nLenS, nInt, nStrI, nMax, nMin, nList, nTuple, gI, gI0, gS, gS0, txs_len, atI_zero, atI_one, atI_lit, max_eq, min_eq, cutU_all, CMul, CPow, CDivW, N__law_copy, uPutD]
        refine ⟨j, keyN_kU j, u, h2, okUs_mem ou hm, by omega, j, keyN_kU j, by omega, ?_, ?_⟩
        · rw [putN_new nj, List.take_add_one, hj]; rfl
        · rw [putN_new nj, List.take_add_one, h1]; rfl
      · obtain ⟨i', x⟩ := s
        obtain rfl : i' = ks.length := hi
        simp [uSeq, uSet, uSetO, uIf, uRet, uRetF, uRetO, uRetN, uNext, uDrop, uCall, fCall, uCallV, uCons, uNil, uVar, uC, uVal, uOp, uUn, uB, fB, uTup, uLst, fLst, fOp, uOfF, uNot, uAnd, uOr, uOfT, uIfE, uAndV, uOrV, uNotV, uChain, startE, pin, pins, vw, vws, toU, toUs, uSl, fSl, oNone, oSome, uOwnM, uOwnM0, oAppend, oExtend, oClear, oPopAt, oPop, iLst, iTp, iSt, iR1, iR2, uGN, uGT, uGCons, uGNil, gEq, scalU, eqU, gIsN, isNon, gIn_txs, gInS, gIxL, gIxT, gIxS, gSlS, gSlL, gCat, gRep, nLen, nLenS, nInt, nStrI, nMax, nMin, nList, nTuple, gI, gI0, gS, gS0, txs_len, atI_zero, atI_one, atI_lit, max_eq, min_eq, cutU_all, CMul, CPow, CDivW, N__law_copy, uRetD]
        rw [l, List.take_length]
        exact hk
theorem rec__law_copy {f__law_copy : Addr} {fd__law_copy : FuncData} (T : Tb mg) (D__law_copy : Df K mg "_law_copy" s__law_copy ["value"] f__law_copy fd__law_copy) : ∀ n : Nat, FnOk P w K mg base (L2.CX P w) (0 + n) f__law_copy fd__law_copy ["value"] (Pr P w K mg false (spec__law_copy n))
  | 0 => fn_void fun us ex k ⟨_, _, _, h, _⟩ => absurd h (Nat.not_lt_zero _)
  | n + 1 => ok__law_copy T D__law_copy (rec__law_copy T D__law_copy n)
abbrev s__law_value : Stmt := topS 22
abbrev N__law_value : List Str := ["store", "deep", "kind", "many", "k", "found", "label"]
theorem sc__law_value : FnScope N__law_value ["store", "deep"] (defScope s__law_value) := ⟨rfl, rfl, rfl, by decide +kernel, rfl, by decide +kernel, by decide +kernel⟩
@[simp] def spec__law_value : Nat → Spec := fun n us ex k => ∃ i : Int, us = [.sto, .int i] ∧ i.toNat < n ∧ ∀ u, okU u → dpU u ≤ i.toNat → k u
theorem ok__law_value {n : Nat} {f__law_value : Addr} {fd__law_value : FuncData} (T : Tb mg) (D__law_value : Df K mg "_law_value" s__law_value ["store", "deep"] f__law_value fd__law_value) {f__law_free_name : Addr} {fd__law_free_name : FuncData} (D__law_free_name : Df K mg "_law_free_name" s__law_free_name ["store", "most"] f__law_free_name fd__law_free_name) {f__law_integer : Addr} {fd__law_integer : FuncData} (D__law_integer : Df K mg "_law_integer" s__law_integer ["store"] f__law_integer fd__law_integer) {f__law_odds : Addr} {fd__law_odds : FuncData} (D__law_odds : Df K mg "_law_odds" s__law_odds ["store", "part"] f__law_odds fd__law_odds) {f__law_take : Addr} {fd__law_take : FuncData} (D__law_take : Df K mg "_law_take" s__law_take ["store", "many"] f__law_take fd__law_take) {f__law_text : Addr} {fd__law_text : FuncData} (D__law_text : Df K mg "_law_text" s__law_text ["store", "most"] f__law_text fd__law_text) (G__law_free_name : FnOk P w K mg base (L2.CX P w) 4 f__law_free_name fd__law_free_name ["store", "most"] (Pr P w K mg false spec__law_free_name)) (G__law_integer : FnOk P w K mg base (L2.CX P w) 4 f__law_integer fd__law_integer ["store"] (Pr P w K mg false spec__law_integer)) (G__law_odds : FnOk P w K mg base (L2.CX P w) 4 f__law_odds fd__law_odds ["store", "part"] (Pr P w K mg false spec__law_odds)) (G__law_take : FnOk P w K mg base (L2.CX P w) 3 f__law_take fd__law_take ["store", "many"] (Pr P w K mg false spec__law_take)) (G__law_text : FnOk P w K mg base (L2.CX P w) 6 f__law_text fd__law_text ["store", "most"] (Pr P w K mg false spec__law_text)) (G__law_value : FnOk P w K mg base (L2.CX P w) (6 + n) f__law_value fd__law_value ["store", "deep"] (Pr P w K mg false (spec__law_value (n)))) :
    FnOk P w K mg base (L2.CX P w) (6 + n + 1) f__law_value fd__law_value ["store", "deep"] (Pr P w K mg false (spec__law_value (n + 1))) := by
  refine fn_u D__law_value.F sc__law_value false (spec__law_value (n + 1)) (fun us ex k h => ?_) ⟨_, fun cdv A outer s H E c hK hM hf hr ft =>
  (us_cons (us_set (i := 2) sc__law_value.nd rfl (.inl rfl) (ue_call ft G__law_take (hr.mono (by omega)) (by rfl) D__law_take.g D__law_take.F.kp D__law_take.b (ua_cons (ue_var (pv 0)) (ua_cons ue_int ua_nil))))
  (us_cons (us_set (i := 3) sc__law_value.nd rfl (.inl rfl) (ue_call ft G__law_take (hr.mono (by omega)) (by rfl) D__law_take.g D__law_take.F.kp D__law_take.b (ua_cons (ue_var (pv 0)) (ua_cons ue_int ua_nil))))
  (us_cons (us_if (ut_cmp op_eq snd_eq (ue_var (pv 2)) ue_int (nomark _))
   (us_one (us_ret hf ue_non))
   us_nil)
  (us_cons (us_if (ut_cmp op_eq snd_eq (ue_var (pv 2)) ue_int (nomark _))
   (us_one (us_ret hf (ue_call ft G__law_odds (hr.mono (by omega)) (by rfl) D__law_odds.g D__law_odds.F.kp D__law_odds.b (ua_cons (ue_var (pv 0)) (ua_cons ue_int ua_nil)))))
   us_nil)
  (us_cons (us_if (ut_cmp op_eq snd_eq (ue_var (pv 2)) ue_int (nomark _))
   (us_one (us_ret hf (ue_call ft G__law_integer (hr.mono (by omega)) (by rfl) D__law_integer.g D__law_integer.F.kp D__law_integer.b (ua_cons (ue_var (pv 0)) ua_nil))))
   us_nil)
  (us_cons (us_if (ut_cmp op_eq snd_eq (ue_var (pv 2)) ue_int (nomark _))
   (us_one (us_ret hf (ue_call ft G__law_text (hr.mono (by omega)) (by rfl) D__law_text.g D__law_text.F.kp D__law_text.b (ua_cons (ue_var (pv 0)) (ua_cons ue_int ua_nil)))))
   us_nil)
  (us_cons (us_if (PW.pt (uw_or (ut_cmp op_eq snd_eq (ue_var (pv 2)) ue_int (nomark _)) (uw_or1 (ut_cmp op_le s_leI (ue_var (pv 1)) ue_int (nomark _)))))
   (us_one (us_ret hf (ue_call ft G__law_free_name (hr.mono (by omega)) (by rfl) D__law_free_name.g D__law_free_name.F.kp D__law_free_name.b (ua_cons (ue_var (pv 0)) (ua_cons ue_int ua_nil)))))
   us_nil)
  (us_cons (us_if (ut_cmp op_lt s_ltI (ue_var (pv 2)) ue_int (nomark _))
   (us_one (us_ret hf (ue_f (uf_lc (own := [("k", 4)]) ft sc__law_value.nd (ui_range1 (by rfl) T.m_range (ue_var (pv 3))) (blkOk_by (N := N__law_value) (sc := defScope s__law_value) (by decide +kernel))
    (fun _ _ _ _ _ ft => (ug_name (i := 4) sc__law_value.nd rfl (by first | exact Or.inl rfl | exact Or.inr rfl))) (fun _ _ _ _ _ ft => uts_nil) (fun _ _ _ _ _ ft => (ue_call ft G__law_value (hr.mono (by omega)) (by rfl) D__law_value.g D__law_value.F.kp D__law_value.b (ua_cons (ue_var (pv 0)) (ua_cons (ue_op op_sub s_subI (ue_var (pv 1)) ue_int) ua_nil)))) (by decide)))))
   us_nil)
  (us_cons (us_if (ut_cmp op_eq snd_eq (ue_var (pv 2)) ue_int (nomark _))
   (us_one (us_ret hf (ue_callTy (k_tuple' ft) snd_tuple (by rfl) T.m_tuple (by decide +kernel) (ua_cons (ue_f (uf_lc (own := [("k", 4)]) ft sc__law_value.nd (ui_range1 (by rfl) T.m_range (ue_var (pv 3))) (blkOk_by (N := N__law_value) (sc := defScope s__law_value) (by decide +kernel))
    (fun _ _ _ _ _ ft => (ug_name (i := 4) sc__law_value.nd rfl (by first | exact Or.inl rfl | exact Or.inr rfl))) (fun _ _ _ _ _ ft => uts_nil) (fun _ _ _ _ _ ft => (ue_call ft G__law_value (hr.mono (by omega)) (by rfl) D__law_value.g D__law_value.F.kp D__law_value.b (ua_cons (ue_var (pv 0)) (ua_cons (ue_op op_sub s_subI (ue_var (pv 1)) ue_int) ua_nil)))) (by decide))) ua_nil))))
   us_nil)
  (us_cons (us_setD (i := 5) ft sc__law_value.nd rfl (.inl rfl))
  (us_cons (us_for (passes_of rfl) ft (ui_range1 (by rfl) T.m_range (ue_var (pv 3))) (ug_name (i := 4) sc__law_value.nd rfl (.inl rfl))
   (us_cons (us_set (i := 6) sc__law_value.nd rfl (.inl rfl) (ue_ix (k_ixL' ft) snd_ixL (ue_f (uf_lst (ua_cons (ue_call ft G__law_free_name (hr.mono (by omega)) (by rfl) D__law_free_name.g D__law_free_name.F.kp D__law_free_name.b (ua_cons (ue_var (pv 0)) (ua_cons ue_int ua_nil))) (ua_cons (ue_var (pv 4)) (ua_cons ue_non (ua_cons ue_str ua_nil)))))) (ue_call ft G__law_take (hr.mono (by omega)) (by rfl) D__law_take.g D__law_take.F.kp D__law_take.b (ua_cons (ue_var (pv 0)) (ua_cons ue_int ua_nil))) (fun _ _ => rfl)))
  (us_one (us_putD (i := 5) (j := 6) ft (pv 5) (pv 6) (ue_call ft G__law_value (hr.mono (by omega)) (by rfl) D__law_value.g D__law_value.F.kp D__law_value.b (ua_cons (ue_var (pv 0)) (ua_cons (ue_op op_sub s_subI (ue_var (pv 1)) ue_int) ua_nil)))))))
  (us_one (us_retD (i := 5) ft hf (pv 5)))))))))))))), fun us ex k h => ?_⟩
  · obtain ⟨t, rfl, _⟩ := h; rfl
  · obtain ⟨i, rfl, hi, hk⟩ := h
    have kz : ∀ z : Str, z.length ≤ 100000 → k (.str z) := fun z hz => hk _ (by unfold okU; exact hz) (by unfold dpU; omega)
    simp [uSeq, uSet, uSetO, uIf, uRet, uRetF, uRetO, uRetN, uNext, uDrop, uCall, fCall, uCallV, uCons, uNil, uVar, uC, uVal, uOp, uUn, uB, fB, uTup, uLst, fLst, fOp, uOfF, uNot, uAnd, uOr, uOfT, uIfE, uAndV, uOrV, uNotV, uChain, startE, pin, pins, vw, vws, toU, toUs, uSl, fSl, oNone, oSome, uOwnM, uOwnM0, oAppend, oExtend, oClear, oPopAt, oPop, iLst, iTp, iSt, iR1, iR2, uGN, uGT, uGCons, uGNil, gEq, scalU, eqU, gIsN, isNon, gIn_txs, gInS, gIxL, gIxT, gIxS, gSlS, gSlL, gCat, gRep, nLen, nLenS, nInt, nStrI, nMax, nMin, nList, nTuple, gI, gI0, gS, gS0, txs_len, atI_zero, atI_one, atI_lit, max_eq, min_eq, cutU_all, CMul, CPow, CDivW, N__law_value, uSetD]
    intro r r0 r1 m m0 m1
    by_cases c0 : r = 0
    · simp [c0]; exact hk _ trivial (Nat.zero_le _)
    by_cases c1 : r = 1
    · simp [c1]; exact ⟨hk _ trivial (Nat.zero_le _), hk _ trivial (Nat.zero_le _)⟩
    by_cases c2 : r = 2
    · simp [c2]; exact fun i _ _ => hk _ trivial (Nat.zero_le _)
    by_cases c3 : r = 3
    · simp [c3]; exact fun z hz => kz z (by omega)
    by_cases c4 : r = 4
    · simp [c4]; exact fun z _ hz _ => kz z (by omega)
    simp [c0, c1, c2, c3, c4]
    by_cases c5 : i ≤ 0
    · simp [c5]; exact fun z _ hz _ => kz z (by omega)
    have step : ∀ (e4 e5 e6 : Slot) (j : Int), 0 ≤ j → j < m → ∀ κ : Option U → Prop, (∀ y, okU y ∧ dpU y ≤ i.toNat - 1 → κ (some y)) →
        lcTurn (uGN 4) uYes (uCall (spec__law_value n) (uCons (uVar 0) (uCons (uOp gSubI (uVar 1) (uC (U.int 1))) uNil))) [.val .sto, .val (.int i), .val (.int r), .val (.int m), e4, e5, e6] (.int j) κ := fun e4 e5 e6 j _ _ κ hκ => by
      simp [uSeq, uSet, uSetO, uIf, uRet, uRetF, uRetO, uRetN, uNext, uDrop, uCall, fCall, uCallV, uCons, uNil, uVar, uC, uVal, uOp, uUn, uB, fB, uTup, uLst, fLst, fOp, uOfF, uNot, uAnd, uOr, uOfT, uIfE, uAndV, uOrV, uNotV, uChain, startE, pin, pins, vw, vws, toU, toUs, uSl, fSl, oNone, oSome, uOwnM, uOwnM0, oAppend, oExtend, oClear, oPopAt, oPop, iLst, iTp, iSt, iR1, iR2, uGN, uGT, uGCons, uGNil, gEq, scalU, eqU, gIsN, isNon, gIn_txs, gInS, gIxL, gIxT, gIxS, gSlS, gSlL, gCat, gRep, nLen, nLenS, nInt, nStrI, nMax, nMin, nList, nTuple, gI, gI0, gS, gS0, txs_len, atI_zero, atI_one, atI_lit, max_eq, min_eq, cutU_all, CMul, CPow, CDivW, N__law_value, lcTurn, uYes, exF]
      exact ⟨by omega, fun u ou du => hκ u ⟨ou, by omega⟩⟩
    simp [c5]
    by_cases c6 : r < 7
    · simp [c6, uSeq, uSet, uSetO, uIf, uRet, uRetF, uRetO, uRetN, uNext, uDrop, uCall, fCall, uCallV, uCons, uNil, uVar, uC, uVal, uOp, uUn, uB, fB, uTup, uLst, fLst, fOp, uOfF, uNot, uAnd, uOr, uOfT, uIfE, uAndV, uOrV, uNotV, uChain, startE, pin, pins, vw, vws, toU, toUs, uSl, fSl, oNone, oSome, uOwnM, uOwnM0, oAppend, oExtend, oClear, oPopAt, oPop, iLst, iTp, iSt, iR1, iR2, uGN, uGT, uGCons, uGNil, gEq, scalU, eqU, gIsN, isNon, gIn_txs, gInS, gIxL, gIxT, gIxS, gSlS, gSlL, gCat, gRep, nLen, nLenS, nInt, nStrI, nMax, nMin, nList, nTuple, gI, gI0, gS, gS0, txs_len, atI_zero, atI_one, atI_lit, max_eq, min_eq, cutU_all, CMul, CPow, CDivW, N__law_value, fLc, wipeE, exF]
      refine ⟨by omega, by omega, by rw [rng_len']; omega, lc_eachR (fun y => okU y ∧ dpU y ≤ i.toNat - 1) (step _ _ _) fun ys hl hp => hk _ ?_ ?_⟩
      · unfold okU; exact ⟨by omega, okUs_of fun x hx => (hp x hx).1⟩
      · unfold dpU
        have := dpUs_of fun x hx => (hp x hx).2
        omega
    by_cases c7 : r = 7
    · simp [c7, uSeq, uSet, uSetO, uIf, uRet, uRetF, uRetO, uRetN, uNext, uDrop, uCall, fCall, uCallV, uCons, uNil, uVar, uC, uVal, uOp, uUn, uB, fB, uTup, uLst, fLst, fOp, uOfF, uNot, uAnd, uOr, uOfT, uIfE, uAndV, uOrV, uNotV, uChain, startE, pin, pins, vw, vws, toU, toUs, uSl, fSl, oNone, oSome, uOwnM, uOwnM0, oAppend, oExtend, oClear, oPopAt, oPop, iLst, iTp, iSt, iR1, iR2, uGN, uGT, uGCons, uGNil, gEq, scalU, eqU, gIsN, isNon, gIn_txs, gInS, gIxL, gIxT, gIxS, gSlS, gSlL, gCat, gRep, nLen, nLenS, nInt, nStrI, nMax, nMin, nList, nTuple, gI, gI0, gS, gS0, txs_len, atI_zero, atI_one, atI_lit, max_eq, min_eq, cutU_all, CMul, CPow, CDivW, N__law_value, fLc, wipeE, exF]
      refine ⟨by omega, by omega, by rw [rng_len']; omega, lc_eachR (fun y => okU y ∧ dpU y ≤ i.toNat - 1) (c7 ▸ step _ _ _) fun ys hl hp => hk _ ?_ ?_⟩
      · unfold okU; exact ⟨by omega, okUs_of fun x hx => (hp x hx).1⟩
      · unfold dpU
        have := dpUs_of fun x hx => (hp x hx).2
        omega
    simp [c6, c7]
    refine for_rng m (σ := List (Option L2.Key) × List U × Slot × Slot) (fun s => [.val .sto, .val (.int i), .val (.int r), .val (.int m), s.2.2.1, .pas (.n s.1 s.2.1), s.2.2.2]) (fun a s => NOk a (fun u => okU u ∧ dpU u ≤ i.toNat - 1) s.1 s.2.1) ([], [], .no, .no) (fun κ h => ?_) rfl NOk.nil (fun a s ha hs => ?_) (fun s hs => ?_)
    · simp [uSeq, uSet, uSetO, uIf, uRet, uRetF, uRetO, uRetN, uNext, uDrop, uCall, fCall, uCallV, uCons, uNil, uVar, uC, uVal, uOp, uUn, uB, fB, uTup, uLst, fLst, fOp, uOfF, uNot, uAnd, uOr, uOfT, uIfE, uAndV, uOrV, uNotV, uChain, startE, pin, pins, vw, vws, toU, toUs, uSl, fSl, oNone, oSome, uOwnM, uOwnM0, oAppend, oExtend, oClear, oPopAt, oPop, iLst, iTp, iSt, iR1, iR2, uGN, uGT, uGCons, uGNil, gEq, scalU, eqU, gIsN, isNon, gIn_txs, gInS, gIxL, gIxT, gIxS, gSlS, gSlL, gCat, gRep, nLen, nLenS, nInt, nStrI, nMax, nMin, nList, nTuple, gI, gI0, gS, gS0, txs_len, atI_zero, atI_one, atI_lit, max_eq, min_eq, cutU_all, CMul, CPow, CDivW, N__law_value]
      exact ⟨by omega, by omega, h⟩
    · obtain ⟨ks, us, s4, s6⟩ := s
      simp [uSeq, uSet, uSetO, uIf, uRet, uRetF, uRetO, uRetN, uNext, uDrop, uCall, fCall, uCallV, uCons, uNil, uVar, uC, uVal, uOp, uUn, uB, fB, uTup, uLst, fLst, fOp, uOfF, uNot, uAnd, uOr, uOfT, uIfE, uAndV, uOrV, uNotV, uChain, startE, pin, pins, vw, vws, toU, toUs, uSl, fSl, oNone, oSome, uOwnM, uOwnM0, oAppend, oExtend, oClear, oPopAt, oPop, iLst, iTp, iSt, iR1, iR2, uGN, uGT, uGCons, uGNil, gEq, scalU, eqU, gIsN, isNon, gIn_txs, gInS, gIxL, gIxT, gIxS, gSlS, gSlL, gCat, gRep, nLen, nLenS, nInt, nStrI, nMax, nMin, nList, nTuple, gI, gI0, gS, gS0, txs_len, atI_zero, atI_one, atI_lit, max_eq, min_eq, cutU_all, CMul, CPow, CDivW, N__law_value, uPutD]
      intro z z0 z1 zc q q0 q1
      have hs' : NOk a (fun u => okU u ∧ dpU u ≤ i.toNat - 1) ks us := hs
      obtain ⟨lab, kk, e1, e2, e3⟩ : ∃ lab kk, atI [U.str z, U.int (a : Int), U.non, U.str (Str.ofString "")] q = some lab ∧ keyN lab = some kk ∧ okK kk := by
        obtain h | h | h | h : q = 0 ∨ q = 1 ∨ q = 2 ∨ q = 3 := by omega
        · subst h; exact ⟨_, some (.inr z), rfl, rfl, okK_name (fun c hc => zc c (Array.mem_def.mpr hc)) (by omega)⟩
        · subst h
          refine ⟨_, some (.inl a), rfl, rfl, ?_⟩
          obtain h | h | h : a = 0 ∨ a = 1 ∨ a = 2 := by omega
          all_goals subst h; exact ⟨by decide +kernel, by unfold okS; decide +kernel⟩
        · subst h; exact ⟨_, none, rfl, rfl, trivial⟩
        · subst h; exact ⟨_, some (.inr (Str.ofString "")), rfl, rfl, okK_name (fun c hc => by cases hc) (by decide)⟩
      exact ⟨lab, e1, by omega, fun u ou du => ⟨kk, e2, by have := hs'.m; omega, _, _, ⟨rfl, rfl⟩, hs'.put e3 ⟨ou, du⟩⟩⟩
    · obtain ⟨ks, us, s4, s6⟩ := s
      simp [uSeq, uSet, uSetO, uIf, uRet, uRetF, uRetO, uRetN, uNext, uDrop, uCall, fCall, uCallV, uCons, uNil, uVar, uC, uVal, uOp, uUn, uB, fB, uTup, uLst, fLst, fOp, uOfF, uNot, uAnd, uOr, uOfT, uIfE, uAndV, uOrV, uNotV, uChain, startE, pin, pins, vw, vws, toU, toUs, uSl, fSl, oNone, oSome, uOwnM, uOwnM0, oAppend, oExtend, oClear, oPopAt, oPop, iLst, iTp, iSt, iR1, iR2, uGN, uGT, uGCons, uGNil, gEq, scalU, eqU, gIsN, isNon, gIn_txs, gInS, gIxL, gIxT, gIxS, gSlS, gSlL, gCat, gRep, nLen, nLenS, nInt, nStrI, nMax, nMin, nList, nTuple, gI, gI0, gS, gS0, txs_len, atI_zero, atI_one, atI_lit, max_eq, min_eq, cutU_all, CMul, CPow, CDivW, N__law_value, uRetD]
      have hs : NOk m.toNat (fun u => okU u ∧ dpU u ≤ i.toNat - 1) ks us := hs
      refine hk _ ?_ ?_
      · unfold okU
        exact ⟨hs.l, by have := hs.m; omega, hs.ok, hs.nd, okUs_of fun x hx => (hs.its x hx).1⟩
      · unfold dpU
        have := dpUs_of fun x hx => (hs.its x hx).2
        omega
theorem rec__law_value {f__law_value : Addr} {fd__law_value : FuncData} (T : Tb mg) (D__law_value : Df K mg "_law_value" s__law_value ["store", "deep"] f__law_value fd__law_value) {f__law_free_name : Addr} {fd__law_free_name : FuncData} (D__law_free_name : Df K mg "_law_free_name" s__law_free_name ["store", "most"] f__law_free_name fd__law_free_name) {f__law_integer : Addr} {fd__law_integer : FuncData} (D__law_integer : Df K mg "_law_integer" s__law_integer ["store"] f__law_integer fd__law_integer) {f__law_odds : Addr} {fd__law_odds : FuncData} (D__law_odds : Df K mg "_law_odds" s__law_odds ["store", "part"] f__law_odds fd__law_odds) {f__law_take : Addr} {fd__law_take : FuncData} (D__law_take : Df K mg "_law_take" s__law_take ["store", "many"] f__law_take fd__law_take) {f__law_text : Addr} {fd__law_text : FuncData} (D__law_text : Df K mg "_law_text" s__law_text ["store", "most"] f__law_text fd__law_text) (G__law_free_name : FnOk P w K mg base (L2.CX P w) 4 f__law_free_name fd__law_free_name ["store", "most"] (Pr P w K mg false spec__law_free_name)) (G__law_integer : FnOk P w K mg base (L2.CX P w) 4 f__law_integer fd__law_integer ["store"] (Pr P w K mg false spec__law_integer)) (G__law_odds : FnOk P w K mg base (L2.CX P w) 4 f__law_odds fd__law_odds ["store", "part"] (Pr P w K mg false spec__law_odds)) (G__law_take : FnOk P w K mg base (L2.CX P w) 3 f__law_take fd__law_take ["store", "many"] (Pr P w K mg false spec__law_take)) (G__law_text : FnOk P w K mg base (L2.CX P w) 6 f__law_text fd__law_text ["store", "most"] (Pr P w K mg false spec__law_text)) : ∀ n : Nat, FnOk P w K mg base (L2.CX P w) (6 + n) f__law_value fd__law_value ["store", "deep"] (Pr P w K mg false (spec__law_value n))
  | 0 => fn_void fun us ex k ⟨_, _, h, _⟩ => absurd h (Nat.not_lt_zero _)
  | n + 1 => ok__law_value T D__law_value D__law_free_name D__law_integer D__law_odds D__law_take D__law_text G__law_free_name G__law_integer G__law_odds G__law_take G__law_text (rec__law_value T D__law_value D__law_free_name D__law_integer D__law_odds D__law_take D__law_text G__law_free_name G__law_integer G__law_odds G__law_take G__law_text n)
end
end UL

namespace UL
open PySem PySem.Spec PyProof.Rows L2
section
variable {P : Program} {w : World} {K : PySem.W.Frag} {mg : Str → Option Value} {base : Heap}
abbrev s__law_near_name : Stmt := topS 19
abbrev N__law_near_name : List Str := ["store", "kind"]
theorem sc__law_near_name : FnScope N__law_near_name ["store"] (defScope s__law_near_name) := ⟨rfl, rfl, rfl, by decide +kernel, rfl, by decide +kernel, by decide +kernel⟩
@[simp] def spec__law_near_name : Spec := fun us ex k => us = [.sto] ∧ ∀ u, okU u → dpU u ≤ 2 → k u
theorem ok__law_near_name {f__law_near_name : Addr} {fd__law_near_name : FuncData} (T : Tb mg) (D__law_near_name : Df K mg "_law_near_name" s__law_near_name ["store"] f__law_near_name fd__law_near_name) {f__law_bad_name : Addr} {fd__law_bad_name : FuncData} (D__law_bad_name : Df K mg "_law_bad_name" s__law_bad_name ["store"] f__law_bad_name fd__law_bad_name) {f__law_free_name : Addr} {fd__law_free_name : FuncData} (D__law_free_name : Df K mg "_law_free_name" s__law_free_name ["store", "most"] f__law_free_name fd__law_free_name) {f__law_take : Addr} {fd__law_take : FuncData} (D__law_take : Df K mg "_law_take" s__law_take ["store", "many"] f__law_take fd__law_take) {f__law_value : Addr} {fd__law_value : FuncData} (D__law_value : Df K mg "_law_value" s__law_value ["store", "deep"] f__law_value fd__law_value) (G__law_bad_name : FnOk P w K mg base (L2.CX P w) 6 f__law_bad_name fd__law_bad_name ["store"] (Pr P w K mg false spec__law_bad_name)) (G__law_free_name : FnOk P w K mg base (L2.CX P w) 4 f__law_free_name fd__law_free_name ["store", "most"] (Pr P w K mg false spec__law_free_name)) (G__law_take : FnOk P w K mg base (L2.CX P w) 3 f__law_take fd__law_take ["store", "many"] (Pr P w K mg false spec__law_take)) (G__law_value : FnOk P w K mg base (L2.CX P w) 18 f__law_value fd__law_value ["store", "deep"] (Pr P w K mg false (spec__law_value 12))) :
    FnOk P w K mg base (L2.CX P w) 19 f__law_near_name fd__law_near_name ["store"] (Pr P w K mg false spec__law_near_name) := by
  refine fn_u D__law_near_name.F sc__law_near_name false spec__law_near_name (fun us ex k h => ?_) ⟨_, fun cdv A outer s H E c hK hM hf hr ft =>
  (us_cons (us_set (i := 1) sc__law_near_name.nd rfl (.inl rfl) (ue_call ft G__law_take (hr.mono (by decide)) (by rfl) D__law_take.g D__law_take.F.kp D__law_take.b (ua_cons (ue_var (pv 0)) (ua_cons ue_int ua_nil))))
  (us_cons (us_if (ut_cmp op_eq snd_eq (ue_var (pv 1)) ue_int (nomark _))
   (us_one (us_ret hf (ue_call ft G__law_free_name (hr.mono (by decide)) (by rfl) D__law_free_name.g D__law_free_name.F.kp D__law_free_name.b (ua_cons (ue_var (pv 0)) (ua_cons ue_int ua_nil)))))
   us_nil)
  (us_cons (us_if (ut_cmp op_eq snd_eq (ue_var (pv 1)) ue_int (nomark _))
   (us_one (us_ret hf (ue_call ft G__law_value (hr.mono (by decide)) (by rfl) D__law_value.g D__law_value.F.kp D__law_value.b (ua_cons (ue_var (pv 0)) (ua_cons ue_int ua_nil)))))
   us_nil)
  (us_cons (us_if (ut_cmp op_eq snd_eq (ue_var (pv 1)) ue_int (nomark _))
   (us_one (us_ret hf (ue_slice sl_str snd_slS (ue_op op_add_str s_addS (ue_call ft G__law_free_name (hr.mono (by decide)) (by rfl) D__law_free_name.g D__law_free_name.F.kp D__law_free_name.b (ua_cons (ue_var (pv 0)) (ua_cons ue_int ua_nil))) ue_str) uo_none (uo_some (ue_op op_add s_addI ue_int (ue_call ft G__law_take (hr.mono (by decide)) (by rfl) D__law_take.g D__law_take.F.kp D__law_take.b (ua_cons (ue_var (pv 0)) (ua_cons ue_int ua_nil))))))))
   us_nil)
  (us_one (us_ret hf (ue_call ft G__law_bad_name (hr.mono (by decide)) (by rfl) D__law_bad_name.g D__law_bad_name.F.kp D__law_bad_name.b (ua_cons (ue_var (pv 0)) ua_nil)))))))), fun us ex k h => ?_⟩
  · obtain ⟨rfl, _⟩ := h; rfl
  · obtain ⟨rfl, hk⟩ := h
    have kz : ∀ z : Str, z.length ≤ 100000 → k (.str z) := fun z hz => hk _ (by unfold okU; exact hz) (by unfold dpU; omega)
    simp [uSeq, uSet, uSetO, uIf, uRet, uRetF, uRetO, uRetN, uNext, uDrop, uCall, fCall, uCallV, uCons, uNil, uVar, uC, uVal, uOp, uUn, uB, fB, uTup, uLst, fLst, fOp, uOfF, uNot, uAnd, uOr, uOfT, uIfE, uAndV, uOrV, uNotV, uChain, startE, pin, pins, vw, vws, toU, toUs, uSl, fSl, oNone, oSome, uOwnM, uOwnM0, oAppend, oExtend, oClear, oPopAt, oPop, iLst, iTp, iSt, iR1, iR2, uGN, uGT, uGCons, uGNil, gEq, scalU, eqU, gIsN, isNon, gIn_txs, gInS, gIxL, gIxT, gIxS, gSlS, gSlL, gCat, gRep, nLen, nLenS, nInt, nStrI, nMax, nMin, nList, nTuple, gI, gI0, gS, gS0, txs_len, atI_zero, atI_one, atI_lit, max_eq, min_eq, cutU_all, CMul, CPow, CDivW, N__law_near_name]
    intro r r0 r1
    have a1 : (Str.ofString "a0a0a0a0").length = 8 := by decide +kernel
    split
    · exact fun z z0 z1 _ => kz z (by omega)
    split
    · exact hk
    split
    · intro z z0 z1 _
      refine ⟨by omega, fun d d0 d1 => ⟨by rw [len_app]; omega, kz _ ?_⟩⟩
      rw [len_cut_to _ (by omega), len_app]; omega
    · exact fun z hz => kz z (by omega)
abbrev s__law_nest : Stmt := topS 23
abbrev N__law_nest : List Str := ["store", "most", "value", "k"]
theorem sc__law_nest : FnScope N__law_nest ["store", "most"] (defScope s__law_nest) := ⟨rfl, rfl, rfl, by decide +kernel, rfl, by decide +kernel, by decide +kernel⟩
@[simp] def spec__law_nest : Spec := fun us ex k => ∃ m : Int, us = [.sto, .int m] ∧ 1 ≤ m ∧ m ≤ 7 ∧ ∀ u, okU u → dpU u ≤ 8 → k u
theorem ok__law_nest {f__law_nest : Addr} {fd__law_nest : FuncData} (T : Tb mg) (D__law_nest : Df K mg "_law_nest" s__law_nest ["store", "most"] f__law_nest fd__law_nest) {f__law_odds : Addr} {fd__law_odds : FuncData} (D__law_odds : Df K mg "_law_odds" s__law_odds ["store", "part"] f__law_odds fd__law_odds) {f__law_take : Addr} {fd__law_take : FuncData} (D__law_take : Df K mg "_law_take" s__law_take ["store", "many"] f__law_take fd__law_take) {f__law_value : Addr} {fd__law_value : FuncData} (D__law_value : Df K mg "_law_value" s__law_value ["store", "deep"] f__law_value fd__law_value) (G__law_odds : FnOk P w K mg base (L2.CX P w) 4 f__law_odds fd__law_odds ["store", "part"] (Pr P w K mg false spec__law_odds)) (G__law_take : FnOk P w K mg base (L2.CX P w) 3 f__law_take fd__law_take ["store", "many"] (Pr P w K mg false spec__law_take)) (G__law_value : FnOk P w K mg base (L2.CX P w) 18 f__law_value fd__law_value ["store", "deep"] (Pr P w K mg false (spec__law_value 12))) :
    FnOk P w K mg base (L2.CX P w) 19 f__law_nest fd__law_nest ["store", "most"] (Pr P w K mg false spec__law_nest) := by
  refine fn_u D__law_nest.F sc__law_nest false spec__law_nest (fun us ex k h => ?_) ⟨_, fun cdv A outer s H E c hK hM hf hr ft =>
  (us_cons (us_set (i := 2) sc__law_nest.nd rfl (.inl rfl) (ue_call ft G__law_value (hr.mono (by decide)) (by rfl) D__law_value.g D__law_value.F.kp D__law_value.b (ua_cons (ue_var (pv 0)) (ua_cons ue_int ua_nil))))
  (us_cons (us_for (passes_of rfl) ft (ui_range1 (by rfl) T.m_range (ue_op op_add s_addI ue_int (ue_call ft G__law_take (hr.mono (by decide)) (by rfl) D__law_take.g D__law_take.F.kp D__law_take.b (ua_cons (ue_var (pv 0)) (ua_cons (ue_var (pv 1)) ua_nil))))) (ug_name (i := 3) sc__law_nest.nd rfl (.inl rfl))
   (us_cons (us_set (i := 2) sc__law_nest.nd rfl (.inl rfl) (ue_f (uf_lst (ua_cons (ue_var (pv 2)) ua_nil))))
  (us_one (us_if (ut_val (ue_call ft G__law_odds (hr.mono (by decide)) (by rfl) D__law_odds.g D__law_odds.F.kp D__law_odds.b (ua_cons (ue_var (pv 0)) (ua_cons ue_int ua_nil))))
   (us_one (us_set (i := 2) sc__law_nest.nd rfl (.inl rfl) (ue_callTy (k_tuple' ft) snd_tuple (by rfl) T.m_tuple (by decide +kernel) (ua_cons (ue_var (pv 2)) ua_nil))))
   us_nil))))
  (us_one (us_ret hf (ue_var (pv 2)))))), fun us ex k h => ?_⟩
  · obtain ⟨m, rfl, _⟩ := h; rfl
  · obtain ⟨m, rfl, m0, m1, hk⟩ := h
    simp [uSeq, uSet, uSetO, uIf, uRet, uRetF, uRetO, uRetN, uNext, uDrop, uCall, fCall, uCallV, uCons, uNil, uVar, uC, uVal, uOp, uUn, uB, fB, uTup, uLst, fLst, fOp, uOfF, uNot, uAnd, uOr, uOfT, uIfE, uAndV, uOrV, uNotV, uChain, startE, pin, pins, vw, vws, toU, toUs, uSl, fSl, oNone, oSome, uOwnM, uOwnM0, oAppend, oExtend, oClear, oPopAt, oPop, iLst, iTp, iSt, iR1, iR2, uGN, uGT, uGCons, uGNil, gEq, scalU, eqU, gIsN, isNon, gIn_txs, gInS, gIxL, gIxT, gIxS, gSlS, gSlL, gCat, gRep, nLen, nLenS, nInt, nStrI, nMax, nMin, nList, nTuple, gI, gI0, gS, gS0, txs_len, atI_zero, atI_one, atI_lit, max_eq, min_eq, cutU_all, CMul, CPow, CDivW, N__law_nest]
    intro u ou du
    refine for_rngD (fun n => 0 ≤ n ∧ n ≤ 8) (σ := U × Slot) (fun s => [.val .sto, .val (.int m), .val s.1, s.2]) (fun i s => okU s.1 ∧ dpU s.1 ≤ i) (u, .no) (fun κ h => ?_) rfl ⟨ou, by show dpU u ≤ 0; omega⟩ (fun n hn i s hi hs => ?_) (fun n hn s hs => ?_)
    · simp [uSeq, uSet, uSetO, uIf, uRet, uRetF, uRetO, uRetN, uNext, uDrop, uCall, fCall, uCallV, uCons, uNil, uVar, uC, uVal, uOp, uUn, uB, fB, uTup, uLst, fLst, fOp, uOfF, uNot, uAnd, uOr, uOfT, uIfE, uAndV, uOrV, uNotV, uChain, startE, pin, pins, vw, vws, toU, toUs, uSl, fSl, oNone, oSome, uOwnM, uOwnM0, oAppend, oExtend, oClear, oPopAt, oPop, iLst, iTp, iSt, iR1, iR2, uGN, uGT, uGCons, uGNil, gEq, scalU, eqU, gIsN, isNon, gIn_txs, gInS, gIxL, gIxT, gIxS, gSlS, gSlL, gCat, gRep, nLen, nLenS, nInt, nStrI, nMax, nMin, nList, nTuple, gI, gI0, gS, gS0, txs_len, atI_zero, atI_one, atI_lit, max_eq, min_eq, cutU_all, CMul, CPow, CDivW, N__law_nest]
      exact ⟨by omega, fun r r0 r1 => ⟨by omega, by omega, h _ ⟨by omega, by omega⟩⟩⟩
    · simp [uSeq, uSet, uSetO, uIf, uRet, uRetF, uRetO, uRetN, uNext, uDrop, uCall, fCall, uCallV, uCons, uNil, uVar, uC, uVal, uOp, uUn, uB, fB, uTup, uLst, fLst, fOp, uOfF, uNot, uAnd, uOr, uOfT, uIfE, uAndV, uOrV, uNotV, uChain, startE, pin, pins, vw, vws, toU, toUs, uSl, fSl, oNone, oSome, uOwnM, uOwnM0, oAppend, oExtend, oClear, oPopAt, oPop, iLst, iTp, iSt, iR1, iR2, uGN, uGT, uGCons, uGNil, gEq, scalU, eqU, gIsN, isNon, gIn_txs, gInS, gIxL, gIxT, gIxS, gSlS, gSlL, gCat, gRep, nLen, nLenS, nInt, nStrI, nMax, nMin, nList, nTuple, gI, gI0, gS, gS0, txs_len, atI_zero, atI_one, atI_lit, max_eq, min_eq, cutU_all, CMul, CPow, CDivW, N__law_nest]
      have h1 : okU (.lst [s.1]) := by unfold okU; exact ⟨by simp, by unfold okUs; exact ⟨hs.1, by unfold okUs; trivial⟩⟩
      have h2 : dpU (.lst [s.1]) ≤ i + 1 := by unfold dpU; have := hs.2; simp [dpUs]; omega
      have h3 : okU (.tup [s.1]) := by unfold okU; exact ⟨by simp, by unfold okUs; exact ⟨hs.1, by unfold okUs; trivial⟩⟩
      have h4 : dpU (.tup [s.1]) ≤ i + 1 := by unfold dpU; have := hs.2; simp [dpUs]; omega
      exact ⟨⟨h1, h2⟩, h3, h4⟩
    · simp [uSeq, uSet, uSetO, uIf, uRet, uRetF, uRetO, uRetN, uNext, uDrop, uCall, fCall, uCallV, uCons, uNil, uVar, uC, uVal, uOp, uUn, uB, fB, uTup, uLst, fLst, fOp, uOfF, uNot, uAnd, uOr, uOfT, uIfE, uAndV, uOrV, uNotV, uChain, startE, pin, pins, vw, vws, toU, toUs, uSl, fSl, oNone, oSome, uOwnM, uOwnM0, oAppend, oExtend, oClear, oPopAt, oPop, iLst, iTp, iSt, iR1, iR2, uGN, uGT, uGCons, uGNil, gEq, scalU, eqU, gIsN, isNon, gIn_txs, gInS, gIxL, gIxT, gIxS, gSlS, gSlL, gCat, gRep, nLen, nLenS, nInt, nStrI, nMax, nMin, nList, nTuple, gI, gI0, gS, gS0, txs_len, atI_zero, atI_one, atI_lit, max_eq, min_eq, cutU_all, CMul, CPow, CDivW, N__law_nest]
      exact hk _ hs.1 (by have := hs.2; omega)
def nameU : U → Bool
  | .str z => isNm z
  | _ => false
abbrev s__law_due : Stmt := topS 24
abbrev N__law_due : List Str := ["value", "letters"]
theorem sc__law_due : FnScope N__law_due ["value"] (defScope s__law_due) := ⟨rfl, rfl, rfl, by decide +kernel, rfl, by decide +kernel, by decide +kernel⟩
@[simp] def spec__law_due : Spec := fun us ex k => ∃ u, us = [u] ∧ okU u ∧ k (.bl (nameU u))
theorem ok__law_due {f__law_due : Addr} {fd__law_due : FuncData} (T : Tb mg) (D__law_due : Df K mg "_law_due" s__law_due ["value"] f__law_due fd__law_due) :
    FnOk P w K mg base (L2.CX P w) 1 f__law_due fd__law_due ["value"] (Pr P w K mg false spec__law_due) := by
  refine fn_u D__law_due.F sc__law_due false spec__law_due (fun us ex k h => ?_) ⟨_, fun cdv A outer s H E c hK hM hf hr ft =>
  (us_cons (us_if (PW.pt (uw_or (ut_not (ut_val (ue_callB (k_isi2 ft) (snd_isi2 ft) (by rfl) T.m_isinstance (by decide +kernel) (ua_cons (ue_var (pv 0)) (ua_cons (ue_ty (n := "str") (by rfl) T.m_str (by decide +kernel)) ua_nil))))) (uw_or (ut_cmp op_eq snd_eq (ue_callB call_len_str snd_lenS (by rfl) T.m_len (by decide +kernel) (ua_cons (ue_var (pv 0)) ua_nil)) ue_int (nomark _)) (uw_or1 (ut_cmp op_gt s_gtI (ue_callB call_len_str snd_lenS (by rfl) T.m_len (by decide +kernel) (ua_cons (ue_var (pv 0)) ua_nil)) ue_int (nomark _))))))
   (us_one (us_ret hf ue_bl))
   us_nil)
  (us_cons (us_set (i := 1) sc__law_due.nd rfl (.inl rfl) ue_str)
  (us_one (us_ret hf (ue_and (ue_cmp op_eq snd_eq (ue_m1 (c := c) (name := "strip") (ue_slice sl_str snd_slS (ue_var (pv 0)) uo_none (uo_some ue_int)) (ue_var (pv 1)) PySem.F.slot_str_strip PySem.F.type_str_strip mt_stripChars snd_strip) ue_str (nomark _)) (ue_one (ue_cmp op_eq snd_eq (ue_m1 (c := c) (name := "strip") (ue_var (pv 0)) (ue_op op_add_str s_addS (ue_var (pv 1)) ue_str) PySem.F.slot_str_strip PySem.F.type_str_strip mt_stripChars snd_strip) ue_str (nomark _)))))))), fun us ex k h => ?_⟩
  · obtain ⟨m, rfl, _⟩ := h; rfl
  · obtain ⟨u, rfl, ou, hk⟩ := h
    cases u with
    | str z =>
      have hz : z.length ≤ 100000 := by unfold okU at ou; exact ou
      simp [uSeq, uSet, uSetO, uIf, uRet, uRetF, uRetO, uRetN, uNext, uDrop, uCall, fCall, uCallV, uCons, uNil, uVar, uC, uVal, uOp, uUn, uB, fB, uTup, uLst, fLst, fOp, uOfF, uNot, uAnd, uOr, uOfT, uIfE, uAndV, uOrV, uNotV, uChain, startE, pin, pins, vw, vws, toU, toUs, uSl, fSl, oNone, oSome, uOwnM, uOwnM0, oAppend, oExtend, oClear, oPopAt, oPop, iLst, iTp, iSt, iR1, iR2, uGN, uGT, uGCons, uGNil, gEq, scalU, eqU, gIsN, isNon, gIn_txs, gInS, gIxL, gIxT, gIxS, gSlS, gSlL, gCat, gRep, nLen, nLenS, nInt, nStrI, nMax, nMin, nList, nTuple, gI, gI0, gS, gS0, txs_len, atI_zero, atI_one, atI_lit, max_eq, min_eq, cutU_all, CMul, CPow, CDivW, N__law_due, isi2_str ou, isTx, uM1, gStrip, fLc, nameU] at hk ⊢
      have hlen := sg_len z
      unfold isNm at hk
      change k (.bl (match sg z with
        | [] => false
        | c :: cs => decide (cs.length + 1 ≤ 8) && (isL c && (c :: cs).all isLD))) at hk
      cases q : sg z with
      | nil =>
        rw [q] at hk hlen
        have hlen : z.length = 0 := hlen
        exact ⟨by omega, by rw [if_pos hlen]; exact hk⟩
      | cons c cs =>
        rw [q] at hk hlen
        rw [List.length_cons] at hlen
        have hk : k (.bl (decide (cs.length + 1 ≤ 8) && (isL c && (c :: cs).all isLD))) := hk
        refine ⟨by omega, ?_⟩
        rw [if_neg (by omega)]
        refine ⟨by omega, ?_⟩
        split
        · rename_i h8
          rw [decide_eq_false (by omega), Bool.false_and] at hk
          exact hk
        · rename_i h8
          rw [decide_eq_true (by omega), Bool.true_and] at hk
          refine ⟨by omega, by rw [len_cut_to _ (by decide)]; omega, ?_⟩
          have e1 : decide (Txt.stripChars (cutS z none (some 1)) (Str.ofString "abcdefghijklmnopqrstuvwxyz") = Str.ofString "") = isL c := by
            rw [strip_none, sg_cut_to z (by decide), q]
            show ([c].all fun d => decide (d ∈ sg (Str.ofString "abcdefghijklmnopqrstuvwxyz"))) = isL c
            simp only [List.all_cons, List.all_nil, Bool.and_true]
            rfl
          have e2 : (Txt.stripChars z (Str.ofString "abcdefghijklmnopqrstuvwxyz" ++ Str.ofString "0123456789") == Str.ofString "") = (c :: cs).all isLD := by
            have e3 : Str.ofString "abcdefghijklmnopqrstuvwxyz" ++ Str.ofString "0123456789" = Str.ofString "abcdefghijklmnopqrstuvwxyz0123456789" := by decide +kernel
            rw [e3, ← q]
            have := strip_none z (Str.ofString "abcdefghijklmnopqrstuvwxyz0123456789")
            rw [show ((sg z).all isLD) = (sg z).all fun c => decide (c ∈ sg (Str.ofString "abcdefghijklmnopqrstuvwxyz0123456789")) from rfl, ← this, Bool.eq_iff_iff, beq_iff_eq, decide_eq_true_iff]
          split
          · rename_i h1
            rw [decide_eq_true h1] at e1
            rw [← e1, Bool.true_and] at hk
            refine ⟨by decide +kernel, by omega, ?_⟩
            rw [e2]; exact hk
          · rename_i h1
            rw [decide_eq_false h1] at e1
            rw [← e1, Bool.false_and] at hk
            exact hk
    | _ => simp [uSeq, uSet, uSetO, uIf, uRet, uRetF, uRetO, uRetN, uNext, uDrop, uCall, fCall, uCallV, uCons, uNil, uVar, uC, uVal, uOp, uUn, uB, fB, uTup, uLst, fLst, fOp, uOfF, uNot, uAnd, uOr, uOfT, uIfE, uAndV, uOrV, uNotV, uChain, startE, pin, pins, vw, vws, toU, toUs, uSl, fSl, oNone, oSome, uOwnM, uOwnM0, oAppend, oExtend, oClear, oPopAt, oPop, iLst, iTp, iSt, iR1, iR2, uGN, uGT, uGCons, uGNil, gEq, scalU, eqU, gIsN, isNon, gIn_txs, gInS, gIxL, gIxT, gIxS, gSlS, gSlL, gCat, gRep, nLen, nLenS, nInt, nStrI, nMax, nMin, nList, nTuple, gI, gI0, gS, gS0, txs_len, atI_zero, atI_one, atI_lit, max_eq, min_eq, cutU_all, CMul, CPow, CDivW, N__law_due, isi2_str ou, isTx, nameU] at hk ⊢ <;> exact hk
abbrev s_is_name : Stmt := topS 4
abbrev N_is_name : List Str := ["value", "sign"]
theorem sc_is_name : FnScope N_is_name ["value"] (defScope s_is_name) := ⟨rfl, rfl, rfl, by decide +kernel, rfl, by decide +kernel, by decide +kernel⟩
@[simp] def spec_is_name : Spec := fun us ex k => ∃ u, us = [u] ∧ okU u ∧ k (.bl (nameU u))
theorem ok_is_name {f_is_name : Addr} {fd_is_name : FuncData} (T : Tb mg) (D_is_name : Df K mg "is_name" s_is_name ["value"] f_is_name fd_is_name) {t_LETTERS : Tok} (C_LETTERS : mg "LETTERS" = some (.str (Str.ofString "abcdefghijklmnopqrstuvwxyz") t_LETTERS)) {t_LETTERS_AND_DIGITS : Tok} (C_LETTERS_AND_DIGITS : mg "LETTERS_AND_DIGITS" = some (.str (Str.ofString "abcdefghijklmnopqrstuvwxyz0123456789") t_LETTERS_AND_DIGITS)) {t_MOST_SIGNS : Tok} (C_MOST_SIGNS : mg "MOST_SIGNS" = some (.int 8 t_MOST_SIGNS)) :
    FnOk P w K mg base (L2.CX P w) 1 f_is_name fd_is_name ["value"] (Pr P w K mg false spec_is_name) := by
  refine fn_u D_is_name.F sc_is_name false spec_is_name (fun us ex k h => ?_) ⟨_, fun cdv A outer s H E c hK hM hf hr ft =>
  (us_cons (us_if (PW.pt (uw_or (ut_not (ut_val (ue_callB (k_isi2 ft) (snd_isi2 ft) (by rfl) T.m_isinstance (by decide +kernel) (ua_cons (ue_var (pv 0)) (ua_cons (ue_ty (n := "str") (by rfl) T.m_str (by decide +kernel)) ua_nil))))) (uw_or1 (ut_not (ut_chain op_le s_leI op_le s_leI ue_int (ue_callB call_len_str snd_lenS (by rfl) T.m_len (by decide +kernel) (ua_cons (ue_var (pv 0)) ua_nil)) (ue_c (pe_glob (v := .int 8) rfl C_MOST_SIGNS ⟨_, rfl⟩) (fun _ _ => .int _)))))))
   (us_one (us_ret hf ue_bl))
   us_nil)
  (us_one (us_ret hf (ue_and (ue_cmp op_in_sign snd_inS (ue_ix ix_str snd_ixS (ue_var (pv 0)) ue_int (fun _ _ => rfl)) (ue_c (pe_glob (v := .str (Str.ofString "abcdefghijklmnopqrstuvwxyz")) rfl C_LETTERS ⟨_, rfl⟩) (fun _ _ => .str _)) rfl) (ue_one (ue_callB (k_all' ft) snd_all (by rfl) T.m_all (by decide +kernel) (ua_cons (ue_f (uf_lc (own := [("sign", 1)]) ft sc_is_name.nd (ui_str (ue_var (pv 0))) (blkOk_by (N := N_is_name) (sc := defScope s_is_name) (by decide +kernel))
    (fun _ _ _ _ _ ft => (ug_name (i := 1) sc_is_name.nd rfl (by first | exact Or.inl rfl | exact Or.inr rfl))) (fun _ _ _ _ _ ft => uts_nil) (fun _ _ _ _ _ ft => (ue_cmp op_in_sign snd_inS (ue_var (pv 1)) (ue_c (pe_glob (v := .str (Str.ofString "abcdefghijklmnopqrstuvwxyz0123456789")) rfl C_LETTERS_AND_DIGITS ⟨_, rfl⟩) (fun _ _ => .str _)) rfl)) (by decide))) ua_nil))))))), fun us ex k h => ?_⟩
  · obtain ⟨m, rfl, _⟩ := h; rfl
  · obtain ⟨u, rfl, ou, hk⟩ := h
    cases u with
    | str z =>
      have hz : z.length ≤ 100000 := by unfold okU at ou; exact ou
      simp [uSeq, uSet, uSetO, uIf, uRet, uRetF, uRetO, uRetN, uNext, uDrop, uCall, fCall, uCallV, uCons, uNil, uVar, uC, uVal, uOp, uUn, uB, fB, uTup, uLst, fLst, fOp, uOfF, uNot, uAnd, uOr, uOfT, uIfE, uAndV, uOrV, uNotV, uChain, startE, pin, pins, vw, vws, toU, toUs, uSl, fSl, oNone, oSome, uOwnM, uOwnM0, oAppend, oExtend, oClear, oPopAt, oPop, iLst, iTp, iSt, iR1, iR2, uGN, uGT, uGCons, uGNil, gEq, scalU, eqU, gIsN, isNon, gIn_txs, gInS, gIxL, gIxT, gIxS, gSlS, gSlL, gCat, gRep, nLen, nLenS, nInt, nStrI, nMax, nMin, nList, nTuple, gI, gI0, gS, gS0, txs_len, atI_zero, atI_one, atI_lit, max_eq, min_eq, cutU_all, CMul, CPow, CDivW, N_is_name, isi2_str ou, isTx, uM1, gStrip, fLc, nameU] at hk ⊢
      have hlen := sg_len z
      unfold isNm at hk
      change k (.bl (match sg z with
        | [] => false
        | c :: cs => decide (cs.length + 1 ≤ 8) && (isL c && (c :: cs).all isLD))) at hk
      refine ⟨by omega, ?_⟩
      cases q : sg z with
      | nil =>
        rw [q] at hk hlen
        have hlen : z.length = 0 := hlen
        rw [if_neg (by omega)]; exact hk
      | cons c cs =>
        rw [q] at hk hlen
        rw [List.length_cons] at hlen
        have hk : k (.bl (decide (cs.length + 1 ≤ 8) && (isL c && (c :: cs).all isLD))) := hk
        rw [if_pos (by omega)]
        split
        · rename_i h8
          rw [decide_eq_true (by omega), Bool.true_and] at hk
          refine ⟨by omega, c, ?_, ?_⟩
          · have : (sg z)[0]? = some c := by rw [q]; rfl
            rw [← this]
            exact (Array.getElem?_toList ..).symm
          · split
            · rename_i h1
              have h1 : isL c = true := decide_eq_true (Array.mem_def.mp h1)
              rw [h1, Bool.true_and] at hk
              have hs : (signs z).length = z.length := by unfold signs; rw [List.length_map]; exact (sg_len z).symm
              refine ⟨by rw [hs]; omega, lcRun_map (fun u => .bl (isLD ((sg (strU u)).headD 0))) (fun u hu κ hκ => ?_) ⟨_, bls_map (F := fun u => isLD ((sg (strU u)).headD 0)) _, ?_⟩⟩
              · unfold signs at hu
                obtain ⟨d, hd, rfl⟩ := List.mem_map.mp hu
                exact ⟨rfl, d, rfl, rfl, hκ⟩
              · have e3 : ((signs z).map fun u => isLD ((sg (strU u)).headD 0)).all id = (c :: cs).all isLD := by
                  unfold signs
                  rw [List.map_map, List.all_map]
                  rw [← q]
                  rfl
                rw [e3]; exact hk
            · rename_i h1
              have h1 : isL c = false := decide_eq_false (fun h => h1 (Array.mem_def.mpr h))
              rw [h1, Bool.false_and] at hk
              exact hk
        · rename_i h8
          rw [decide_eq_false (by omega), Bool.false_and] at hk
          exact hk
    | _ => simp [uSeq, uSet, uSetO, uIf, uRet, uRetF, uRetO, uRetN, uNext, uDrop, uCall, fCall, uCallV, uCons, uNil, uVar, uC, uVal, uOp, uUn, uB, fB, uTup, uLst, fLst, fOp, uOfF, uNot, uAnd, uOr, uOfT, uIfE, uAndV, uOrV, uNotV, uChain, startE, pin, pins, vw, vws, toU, toUs, uSl, fSl, oNone, oSome, uOwnM, uOwnM0, oAppend, oExtend, oClear, oPopAt, oPop, iLst, iTp, iSt, iR1, iR2, uGN, uGT, uGCons, uGNil, gEq, scalU, eqU, gIsN, isNon, gIn_txs, gInS, gIxL, gIxT, gIxS, gSlS, gSlL, gCat, gRep, nLen, nLenS, nInt, nStrI, nMax, nMin, nList, nTuple, gI, gI0, gS, gS0, txs_len, atI_zero, atI_one, atI_lit, max_eq, min_eq, cutU_all, CMul, CPow, CDivW, N_is_name, isi2_str ou, isTx, nameU] at hk ⊢ <;> exact hk
end
end UL

set_option maxHeartbeats 4000000
namespace UL
open PySem PySem.Spec PyProof.Rows L2
section
variable {P : Program} {w : World} {K : PySem.W.Frag} {mg : Str → Option Value} {base : Heap}
theorem seq_op {a b : US} {d : UEnds} {env : List Slot} (h : ∀ R : List Slot → Prop, (∀ e, b d e → R e) → a { d with nx := R } env) : uSeq a b d env := h _ fun _ h => h
abbrev s__law_values : Stmt := topS 25
abbrev N__law_values : List Str := ["store", "name", "longer", "found", "k", "place", "signs", "sign"]
theorem sc__law_values : FnScope N__law_values ["store"] (defScope s__law_values) := ⟨rfl, rfl, rfl, by decide +kernel, rfl, by decide +kernel, by decide +kernel⟩
@[simp] def spec__law_values : Spec := fun us ex k => us = [.sto] ∧ ∀ xs : List U, xs.length ≤ 300 → (∀ u ∈ xs, okU u ∧ dpU u ≤ 8) → k (.lst xs)
theorem ok__law_values {f__law_values : Addr} {fd__law_values : FuncData} (T : Tb mg) (D__law_values : Df K mg "_law_values" s__law_values ["store"] f__law_values fd__law_values) {f__law_free_name : Addr} {fd__law_free_name : FuncData} (D__law_free_name : Df K mg "_law_free_name" s__law_free_name ["store", "most"] f__law_free_name fd__law_free_name) {f__law_near_name : Addr} {fd__law_near_name : FuncData} (D__law_near_name : Df K mg "_law_near_name" s__law_near_name ["store"] f__law_near_name fd__law_near_name) {f__law_nest : Addr} {fd__law_nest : FuncData} (D__law_nest : Df K mg "_law_nest" s__law_nest ["store", "most"] f__law_nest fd__law_nest) {f__law_take : Addr} {fd__law_take : FuncData} (D__law_take : Df K mg "_law_take" s__law_take ["store", "many"] f__law_take fd__law_take) (G__law_free_name : FnOk P w K mg base (L2.CX P w) 4 f__law_free_name fd__law_free_name ["store", "most"] (Pr P w K mg false spec__law_free_name)) (G__law_near_name : FnOk P w K mg base (L2.CX P w) 19 f__law_near_name fd__law_near_name ["store"] (Pr P w K mg false spec__law_near_name)) (G__law_nest : FnOk P w K mg base (L2.CX P w) 19 f__law_nest fd__law_nest ["store", "most"] (Pr P w K mg false spec__law_nest)) (G__law_take : FnOk P w K mg base (L2.CX P w) 3 f__law_take fd__law_take ["store", "many"] (Pr P w K mg false spec__law_take)) :
    FnOk P w K mg base (L2.CX P w) 20 f__law_values fd__law_values ["store"] (Pr P w K mg false spec__law_values) := by
  refine fn_u D__law_values.F sc__law_values false spec__law_values (fun us ex k h => ?_) ⟨_, fun cdv A outer s H E c hK hM hf hr ft =>
  (us_cons (us_set (i := 1) sc__law_values.nd rfl (.inr rfl) (ue_call ft G__law_free_name (hr.mono (by decide)) (by rfl) D__law_free_name.g D__law_free_name.F.kp D__law_free_name.b (ua_cons (ue_var (pv 0)) (ua_cons ue_int ua_nil))))
  (us_cons (us_set (i := 2) sc__law_values.nd rfl (.inl rfl) (ue_op op_add_str s_addS (ue_var (pv 1)) ue_str))
  (us_cons (us_setLc (i := 3) (own := [("k", 4)]) ft sc__law_values.nd rfl rfl (sw_true rfl rfl rfl (by decide +kernel)) (ui_range1 (by rfl) T.m_range ue_int) (blkOk_by (N := N__law_values) (sc := defScope s__law_values) (by decide +kernel))
    (fun _ _ _ _ _ ft => (ug_name (i := 4) sc__law_values.nd rfl (by first | exact Or.inl rfl | exact Or.inr rfl))) (fun _ _ _ _ _ ft => uts_nil) (fun _ _ _ _ _ ft => (ue_call ft G__law_near_name (hr.mono (by decide)) (by rfl) D__law_near_name.g D__law_near_name.F.kp D__law_near_name.b (ua_cons (ue_var (pv 0)) ua_nil))) (by decide))
  (us_cons (us_set (i := 3) sc__law_values.nd rfl (.inl rfl) (ue_f (uf_op op_cat snd_cat (ue_var (pv 3)) (ue_f (uf_lst (ua_cons (ue_var (pv 1)) (ua_cons (ue_f (uf_lst (ua_cons (ue_var (pv 1)) ua_nil))) (ua_cons (ue_tup (ua_cons (ue_var (pv 1)) ua_nil)) (ua_cons (ue_d1 (i := 1) (j := 1) ft (pv 1) (pv 1)) (ua_cons (ue_f (uf_callTy (call_listT (by rfl)) snd_listT (by rfl) T.m_list (by decide +kernel) (ua_cons (ue_var (pv 1)) ua_nil))) (ua_cons (ue_callTy (call_tupT (by rfl)) snd_tupT (by rfl) T.m_tuple (by decide +kernel) (ua_cons (ue_var (pv 1)) ua_nil)) (ua_cons (ue_upper (ue_var (pv 1))) (ua_cons (ue_slice sl_str snd_slS (ue_var (pv 1)) (uo_some ue_int) uo_none) (ua_cons (ue_op op_add_str s_addS (ue_var (pv 1)) ue_str) ua_nil))))))))))))))
  (us_cons (us_set (i := 3) sc__law_values.nd rfl (.inl rfl) (ue_f (uf_op op_cat snd_cat (ue_var (pv 3)) (ue_f (uf_lst (ua_cons (ue_op op_add_str s_addS ue_str (ue_var (pv 1))) (ua_cons (ue_op op_add_str s_addS (ue_var (pv 1)) ue_str) (ua_cons (ue_op op_add_str s_addS ue_str (ue_var (pv 1))) (ua_cons (ue_op op_add_str s_addS ue_str (ue_var (pv 1))) (ua_cons (ue_slice sl_str snd_slS (ue_var (pv 2)) uo_none (uo_some ue_int)) (ua_cons (ue_slice sl_str snd_slS (ue_var (pv 2)) uo_none (uo_some ue_int)) (ua_cons (ue_slice sl_str snd_slS (ue_var (pv 2)) uo_none (uo_some ue_int)) ua_nil))))))))))))
  (us_cons (us_set (i := 3) sc__law_values.nd rfl (.inl rfl) (ue_f (uf_op op_cat snd_cat (ue_var (pv 3)) (ue_f (uf_lst (ua_cons ue_non (ua_cons ue_bl (ua_cons ue_bl (ua_cons ue_int (ua_cons ue_int (ua_cons ue_str (ua_cons ue_str (ua_cons (ue_f (uf_lst ua_nil)) (ua_cons (ue_tup ua_nil) (ua_cons (ue_d0 ft) (ua_cons (ue_call ft G__law_nest (hr.mono (by decide)) (by rfl) D__law_nest.g D__law_nest.F.kp D__law_nest.b (ua_cons (ue_var (pv 0)) (ua_cons ue_int ua_nil))) ua_nil))))))))))))))))
  (us_cons (us_set (i := 5) sc__law_values.nd rfl (.inr rfl) (ue_call ft G__law_take (hr.mono (by decide)) (by rfl) D__law_take.g D__law_take.F.kp D__law_take.b (ua_cons (ue_var (pv 0)) (ua_cons (ue_callB call_len_str snd_lenS (by rfl) T.m_len (by decide +kernel) (ua_cons (ue_var (pv 1)) ua_nil)) ua_nil))))
  (us_cons (us_set (i := 6) sc__law_values.nd rfl (.inl rfl) ue_str)
  (us_one (us_ret hf (ue_f (uf_op op_cat snd_cat (ue_var (pv 3)) (ue_f (uf_lc (own := [("sign", 7)]) ft sc__law_values.nd (ui_str (ue_var (pv 6))) (blkOk_by (N := N__law_values) (sc := defScope s__law_values) (by decide +kernel))
    (fun _ _ _ _ _ ft => (ug_name (i := 7) sc__law_values.nd rfl (by first | exact Or.inl rfl | exact Or.inr rfl))) (fun _ _ _ _ _ ft => uts_nil) (fun _ _ _ _ _ ft => (ue_op op_add_str s_addS (ue_op op_add_str s_addS (ue_slice sl_str snd_slS (ue_var (pv 1)) uo_none (uo_some (ue_var (pv 5)))) (ue_var (pv 7))) (ue_slice sl_str snd_slS (ue_var (pv 1)) (uo_some (ue_op op_add s_addI (ue_var (pv 5)) ue_int)) uo_none))) (by decide))))))))))))))), fun us ex k h => ?_⟩
  · obtain ⟨rfl, _⟩ := h; rfl
  · obtain ⟨rfl, hk⟩ := h
    refine seq_op fun R h1 => ?_
    simp [uSeq, uSet, uSetO, uIf, uRet, uRetF, uRetO, uRetN, uNext, uDrop, uCall, fCall, uCallV, uCons, uNil, uVar, uC, uVal, uOp, uUn, uB, fB, uTup, uLst, fLst, fOp, uOfF, uNot, uAnd, uOr, uOfT, uIfE, uAndV, uOrV, uNotV, uChain, startE, pin, pins, vw, vws, toU, toUs, uSl, fSl, oNone, oSome, uOwnM, uOwnM0, oAppend, oExtend, oClear, oPopAt, oPop, iLst, iTp, iSt, iR1, iR2, uGN, uGT, uGCons, uGNil, gEq, scalU, eqU, gIsN, isNon, gIn_txs, gInS, gIxL, gIxT, gIxS, gSlS, gSlL, gCat, gRep, nLen, nLenS, nInt, nStrI, nMax, nMin, nList, nTuple, gI, gI0, gS, gS0, txs_len, atI_zero, atI_one, atI_lit, max_eq, min_eq, cutU_all, CMul, CPow, CDivW, N__law_values]
    intro z z0 z1 zc
    refine h1 _ ?_
    clear h1 R
    refine seq_op fun R h1 => ?_
    simp [uSeq, uSet, uSetO, uIf, uRet, uRetF, uRetO, uRetN, uNext, uDrop, uCall, fCall, uCallV, uCons, uNil, uVar, uC, uVal, uOp, uUn, uB, fB, uTup, uLst, fLst, fOp, uOfF, uNot, uAnd, uOr, uOfT, uIfE, uAndV, uOrV, uNotV, uChain, startE, pin, pins, vw, vws, toU, toUs, uSl, fSl, oNone, oSome, uOwnM, uOwnM0, oAppend, oExtend, oClear, oPopAt, oPop, iLst, iTp, iSt, iR1, iR2, uGN, uGT, uGCons, uGNil, gEq, scalU, eqU, gIsN, isNon, gIn_txs, gInS, gIxL, gIxT, gIxS, gSlS, gSlL, gCat, gRep, nLen, nLenS, nInt, nStrI, nMax, nMin, nList, nTuple, gI, gI0, gS, gS0, txs_len, atI_zero, atI_one, atI_lit, max_eq, min_eq, cutU_all, CMul, CPow, CDivW, N__law_values]
    have e9 : (Str.ofString "a0b1c2d3e").length = 9 := by decide +kernel
    refine ⟨by omega, h1 _ ?_⟩
    clear h1 R
    have lz : (z ++ Str.ofString "a0b1c2d3e").length ≤ 17 := by rw [len_app]; omega
    generalize z ++ Str.ofString "a0b1c2d3e" = zl at lz ⊢
    refine seq_op fun R h1 => ?_
    simp [uSeq, uSet, uSetO, uIf, uRet, uRetF, uRetO, uRetN, uNext, uDrop, uCall, fCall, uCallV, uCons, uNil, uVar, uC, uVal, uOp, uUn, uB, fB, uTup, uLst, fLst, fOp, uOfF, uNot, uAnd, uOr, uOfT, uIfE, uAndV, uOrV, uNotV, uChain, startE, pin, pins, vw, vws, toU, toUs, uSl, fSl, oNone, oSome, uOwnM, uOwnM0, oAppend, oExtend, oClear, oPopAt, oPop, iLst, iTp, iSt, iR1, iR2, uGN, uGT, uGCons, uGNil, gEq, scalU, eqU, gIsN, isNon, gIn_txs, gInS, gIxL, gIxT, gIxS, gSlS, gSlL, gCat, gRep, nLen, nLenS, nInt, nStrI, nMax, nMin, nList, nTuple, gI, gI0, gS, gS0, txs_len, atI_zero, atI_one, atI_lit, max_eq, min_eq, cutU_all, CMul, CPow, CDivW, N__law_values, fLc, wipeE, exF]
    have kz : ∀ y : Str, y.length ≤ 100000 → okU (.str y) ∧ dpU (.str y) ≤ 8 := fun y hy => ⟨by unfold okU; exact hy, by unfold dpU; omega⟩
    refine ⟨by unfold rng; simp, lc_eachR (fun y => okU y ∧ dpU y ≤ 8) (fun i i0 i1 κ hκ => ?_) fun ys hl hp => h1 _ ?_⟩
    · simp [uSeq, uSet, uSetO, uIf, uRet, uRetF, uRetO, uRetN, uNext, uDrop, uCall, fCall, uCallV, uCons, uNil, uVar, uC, uVal, uOp, uUn, uB, fB, uTup, uLst, fLst, fOp, uOfF, uNot, uAnd, uOr, uOfT, uIfE, uAndV, uOrV, uNotV, uChain, startE, pin, pins, vw, vws, toU, toUs, uSl, fSl, oNone, oSome, uOwnM, uOwnM0, oAppend, oExtend, oClear, oPopAt, oPop, iLst, iTp, iSt, iR1, iR2, uGN, uGT, uGCons, uGNil, gEq, scalU, eqU, gIsN, isNon, gIn_txs, gInS, gIxL, gIxT, gIxS, gSlS, gSlL, gCat, gRep, nLen, nLenS, nInt, nStrI, nMax, nMin, nList, nTuple, gI, gI0, gS, gS0, txs_len, atI_zero, atI_one, atI_lit, max_eq, min_eq, cutU_all, CMul, CPow, CDivW, N__law_values, lcTurn, uYes, exF]
      exact fun u ou du => hκ u ⟨ou, by omega⟩
    clear h1 R
    have hl : ys.length ≤ 4 := by rw [hl]; decide
    refine seq_op fun R h1 => ?_
    simp [uSeq, uSet, uSetO, uIf, uRet, uRetF, uRetO, uRetN, uNext, uDrop, uCall, fCall, uCallV, uCons, uNil, uVar, uC, uVal, uOp, uUn, uB, fB, uTup, uLst, fLst, fOp, uOfF, uNot, uAnd, uOr, uOfT, uIfE, uAndV, uOrV, uNotV, uChain, startE, pin, pins, vw, vws, toU, toUs, uSl, fSl, oNone, oSome, uOwnM, uOwnM0, oAppend, oExtend, oClear, oPopAt, oPop, iLst, iTp, iSt, iR1, iR2, uGN, uGT, uGCons, uGNil, gEq, scalU, eqU, gIsN, isNon, gIn_txs, gInS, gIxL, gIxT, gIxS, gSlS, gSlL, gCat, gRep, nLen, nLenS, nInt, nStrI, nMax, nMin, nList, nTuple, gI, gI0, gS, gS0, txs_len, atI_zero, atI_one, atI_lit, max_eq, min_eq, cutU_all, CMul, CPow, CDivW, N__law_values, nListT, nTupT, uD1, gUpper]
    have s1 : (Str.ofString " ").length = 1 := rfl
    have oz : okU (.str z) := by unfold okU; omega
    have ozs : okUs [U.str z] := okUs_of fun x hx => by rw [List.mem_singleton] at hx; rw [hx]; exact oz
    have dzs : dpUs [U.str z] ≤ 0 := dpUs_of fun x hx => by rw [List.mem_singleton] at hx; rw [hx]; unfold dpU; omega
    have sgn : ∀ x ∈ signs z, okU x ∧ dpU x ≤ 0 := fun x hx => by
      unfold signs at hx
      obtain ⟨c, _, rfl⟩ := List.mem_map.mp hx
      exact ⟨by unfold okU; rw [len_one]; decide, by unfold dpU; omega⟩
    have lsg : (signs z).length = z.length := by unfold signs; rw [List.length_map]; exact (sg_len z).symm
    have osg : okUs (signs z) := okUs_of fun x hx => (sgn x hx).1
    have dsg : dpUs (signs z) ≤ 0 := dpUs_of fun x hx => (sgn x hx).2
    have hp : ∀ y ∈ (ys ++ [U.str z, U.lst [U.str z], U.tup [U.str z], U.dcn [some (Sum.inr z)] [U.str z], U.lst (signs z), U.tup (signs z), U.str (Txt.upper z), U.str (cutS z (some 1) none), U.str (z ++ Str.ofString " ")]), okU y ∧ dpU y ≤ 8 := fun y hy => by
      rcases List.mem_append.mp hy with hy | hy
      · exact hp y hy
      · simp only [List.mem_cons, List.not_mem_nil, or_false] at hy
        rcases hy with rfl | rfl | rfl | rfl | rfl | rfl | rfl | rfl | rfl
        · exact kz _ (by omega)
        · exact ⟨by unfold okU; exact ⟨by simp, ozs⟩, by unfold dpU; omega⟩
        · exact ⟨by unfold okU; exact ⟨by simp, ozs⟩, by unfold dpU; omega⟩
        · refine ⟨?_, by unfold dpU; omega⟩
          unfold okU
          exact ⟨rfl, by simp, fun k hk => by rw [List.mem_singleton] at hk; rw [hk]; exact okK_name (fun c hc => zc c (Array.mem_def.mpr hc)) (by omega), by simp, ozs⟩
        · exact ⟨by unfold okU; exact ⟨by omega, osg⟩, by unfold dpU; omega⟩
        · exact ⟨by unfold okU; exact ⟨by omega, osg⟩, by unfold dpU; omega⟩
        · exact kz _ (by have := len_upper z; omega)
        · exact kz _ (by rw [len_cut_from _ (by decide)]; omega)
        · exact kz _ (by rw [len_app]; omega)
    have hl : (ys ++ [U.str z, U.lst [U.str z], U.tup [U.str z], U.dcn [some (Sum.inr z)] [U.str z], U.lst (signs z), U.tup (signs z), U.str (Txt.upper z), U.str (cutS z (some 1) none), U.str (z ++ Str.ofString " ")]).length ≤ 13 := by rw [List.length_append]; simp; omega
    refine ⟨by omega, by omega, by simp at hl; omega, h1 _ ?_⟩
    clear h1 R
    generalize (ys ++ [U.str z, U.lst [U.str z], U.tup [U.str z], U.dcn [some (Sum.inr z)] [U.str z], U.lst (signs z), U.tup (signs z), U.str (Txt.upper z), U.str (cutS z (some 1) none), U.str (z ++ Str.ofString " ")]) = ys2 at hp hl ⊢
    refine seq_op fun R h1 => ?_
    simp [uSeq, uSet, uSetO, uIf, uRet, uRetF, uRetO, uRetN, uNext, uDrop, uCall, fCall, uCallV, uCons, uNil, uVar, uC, uVal, uOp, uUn, uB, fB, uTup, uLst, fLst, fOp, uOfF, uNot, uAnd, uOr, uOfT, uIfE, uAndV, uOrV, uNotV, uChain, startE, pin, pins, vw, vws, toU, toUs, uSl, fSl, oNone, oSome, uOwnM, uOwnM0, oAppend, oExtend, oClear, oPopAt, oPop, iLst, iTp, iSt, iR1, iR2, uGN, uGT, uGCons, uGNil, gEq, scalU, eqU, gIsN, isNon, gIn_txs, gInS, gIxL, gIxT, gIxS, gSlS, gSlL, gCat, gRep, nLen, nLenS, nInt, nStrI, nMax, nMin, nList, nTuple, gI, gI0, gS, gS0, txs_len, atI_zero, atI_one, atI_lit, max_eq, min_eq, cutU_all, CMul, CPow, CDivW, N__law_values]
    have s2 : (Str.ofString "\n").length = 1 := rfl
    have s3 : (Str.ofString "0").length = 1 := rfl
    have hp : ∀ y ∈ (ys2 ++ [U.str (Str.ofString " " ++ z), U.str (z ++ Str.ofString "\n"), U.str (Str.ofString "\n" ++ z), U.str (Str.ofString "0" ++ z), U.str (cutS zl none (some 7)), U.str (cutS zl none (some 8)), U.str (cutS zl none (some 9))]), okU y ∧ dpU y ≤ 8 := fun y hy => by
      rcases List.mem_append.mp hy with hy | hy
      · exact hp y hy
      · simp only [List.mem_cons, List.not_mem_nil, or_false] at hy
        rcases hy with rfl | rfl | rfl | rfl | rfl | rfl | rfl
        · exact kz _ (by rw [len_app]; omega)
        · exact kz _ (by rw [len_app]; omega)
        · exact kz _ (by rw [len_app]; omega)
        · exact kz _ (by rw [len_app]; omega)
        · exact kz _ (by rw [len_cut_to _ (by decide)]; omega)
        · exact kz _ (by rw [len_cut_to _ (by decide)]; omega)
        · exact kz _ (by rw [len_cut_to _ (by decide)]; omega)
    have hl : (ys2 ++ [U.str (Str.ofString " " ++ z), U.str (z ++ Str.ofString "\n"), U.str (Str.ofString "\n" ++ z), U.str (Str.ofString "0" ++ z), U.str (cutS zl none (some 7)), U.str (cutS zl none (some 8)), U.str (cutS zl none (some 9))]).length ≤ 20 := by rw [List.length_append]; simp; omega
    refine ⟨by omega, by omega, by omega, by omega, by omega, by simp at hl; omega, h1 _ ?_⟩
    clear h1 R
    generalize (ys2 ++ [U.str (Str.ofString " " ++ z), U.str (z ++ Str.ofString "\n"), U.str (Str.ofString "\n" ++ z), U.str (Str.ofString "0" ++ z), U.str (cutS zl none (some 7)), U.str (cutS zl none (some 8)), U.str (cutS zl none (some 9))]) = ys3 at hp hl ⊢
    refine seq_op fun R h1 => ?_
    simp [uSeq, uSet, uSetO, uIf, uRet, uRetF, uRetO, uRetN, uNext, uDrop, uCall, fCall, uCallV, uCons, uNil, uVar, uC, uVal, uOp, uUn, uB, fB, uTup, uLst, fLst, fOp, uOfF, uNot, uAnd, uOr, uOfT, uIfE, uAndV, uOrV, uNotV, uChain, startE, pin, pins, vw, vws, toU, toUs, uSl, fSl, oNone, oSome, uOwnM, uOwnM0, oAppend, oExtend, oClear, oPopAt, oPop, iLst, iTp, iSt, iR1, iR2, uGN, uGT, uGCons, uGNil, gEq, scalU, eqU, gIsN, isNon, gIn_txs, gInS, gIxL, gIxT, gIxS, gSlS, gSlL, gCat, gRep, nLen, nLenS, nInt, nStrI, nMax, nMin, nList, nTuple, gI, gI0, gS, gS0, txs_len, atI_zero, atI_one, atI_lit, max_eq, min_eq, cutU_all, CMul, CPow, CDivW, N__law_values]
    intro u ou du
    have hp : ∀ y ∈ (ys3 ++ [U.non, U.bl true, U.bl false, U.int 0, U.int 1, U.str (Str.ofString ""), U.str (Str.ofString " "), U.lst [], U.tup [], U.dcn [] [], u]), okU y ∧ dpU y ≤ 8 := fun y hy => by
      rcases List.mem_append.mp hy with hy | hy
      · exact hp y hy
      · simp only [List.mem_cons, List.not_mem_nil, or_false] at hy
        rcases hy with rfl | rfl | rfl | rfl | rfl | rfl | rfl | rfl | rfl | rfl | rfl
        · exact ⟨trivial, Nat.zero_le _⟩
        · exact ⟨trivial, Nat.zero_le _⟩
        · exact ⟨trivial, Nat.zero_le _⟩
        · exact ⟨trivial, Nat.zero_le _⟩
        · exact ⟨trivial, Nat.zero_le _⟩
        · exact kz _ (by decide +kernel)
        · exact kz _ (by decide +kernel)
        · exact ⟨by unfold okU; exact ⟨by simp, by unfold okUs; trivial⟩, by unfold dpU; simp [dpUs]⟩
        · exact ⟨by unfold okU; exact ⟨by simp, by unfold okUs; trivial⟩, by unfold dpU; simp [dpUs]⟩
        · exact ⟨by unfold okU; exact ⟨rfl, by simp, (fun k hk => by cases hk), by simp, by unfold okUs; trivial⟩, by unfold dpU; simp [dpUs]⟩
        · exact ⟨ou, du⟩
    have hl : (ys3 ++ [U.non, U.bl true, U.bl false, U.int 0, U.int 1, U.str (Str.ofString ""), U.str (Str.ofString " "), U.lst [], U.tup [], U.dcn [] [], u]).length ≤ 31 := by rw [List.length_append]; simp; omega
    refine ⟨by simp at hl; omega, h1 _ ?_⟩
    clear h1 R
    generalize (ys3 ++ [U.non, U.bl true, U.bl false, U.int 0, U.int 1, U.str (Str.ofString ""), U.str (Str.ofString " "), U.lst [], U.tup [], U.dcn [] [], u]) = ys4 at hp hl ⊢
    refine seq_op fun R h1 => ?_
    simp [uSeq, uSet, uSetO, uIf, uRet, uRetF, uRetO, uRetN, uNext, uDrop, uCall, fCall, uCallV, uCons, uNil, uVar, uC, uVal, uOp, uUn, uB, fB, uTup, uLst, fLst, fOp, uOfF, uNot, uAnd, uOr, uOfT, uIfE, uAndV, uOrV, uNotV, uChain, startE, pin, pins, vw, vws, toU, toUs, uSl, fSl, oNone, oSome, uOwnM, uOwnM0, oAppend, oExtend, oClear, oPopAt, oPop, iLst, iTp, iSt, iR1, iR2, uGN, uGT, uGCons, uGNil, gEq, scalU, eqU, gIsN, isNon, gIn_txs, gInS, gIxL, gIxT, gIxS, gSlS, gSlL, gCat, gRep, nLen, nLenS, nInt, nStrI, nMax, nMin, nList, nTuple, gI, gI0, gS, gS0, txs_len, atI_zero, atI_one, atI_lit, max_eq, min_eq, cutU_all, CMul, CPow, CDivW, N__law_values]
    refine ⟨by omega, by omega, fun r r0 r1 => h1 _ ?_⟩
    clear h1 R
    refine seq_op fun R h1 => ?_
    simp [uSeq, uSet, uSetO, uIf, uRet, uRetF, uRetO, uRetN, uNext, uDrop, uCall, fCall, uCallV, uCons, uNil, uVar, uC, uVal, uOp, uUn, uB, fB, uTup, uLst, fLst, fOp, uOfF, uNot, uAnd, uOr, uOfT, uIfE, uAndV, uOrV, uNotV, uChain, startE, pin, pins, vw, vws, toU, toUs, uSl, fSl, oNone, oSome, uOwnM, uOwnM0, oAppend, oExtend, oClear, oPopAt, oPop, iLst, iTp, iSt, iR1, iR2, uGN, uGT, uGCons, uGNil, gEq, scalU, eqU, gIsN, isNon, gIn_txs, gInS, gIxL, gIxT, gIxS, gSlS, gSlL, gCat, gRep, nLen, nLenS, nInt, nStrI, nMax, nMin, nList, nTuple, gI, gI0, gS, gS0, txs_len, atI_zero, atI_one, atI_lit, max_eq, min_eq, cutU_all, CMul, CPow, CDivW, N__law_values]
    refine h1 _ ?_
    clear h1 R
    have ls : (signs (Str.ofString " !\"#$&'()*+,-./0123456789:;<=>?@ABCDEFGHIJKLMNOPQRSTUVWXYZ[\\]^_`abcdefghijklmnopqrstuvwxyz{|}~\n")).length ≤ 100 := by decide +kernel
    have cs : ∀ x ∈ signs (Str.ofString " !\"#$&'()*+,-./0123456789:;<=>?@ABCDEFGHIJKLMNOPQRSTUVWXYZ[\\]^_`abcdefghijklmnopqrstuvwxyz{|}~\n"), ∃ c, x = U.str ⟨#[c]⟩ := fun x hx => by
      unfold signs at hx
      obtain ⟨c, _, rfl⟩ := List.mem_map.mp hx
      exact ⟨c, rfl⟩
    simp [uSeq, uSet, uSetO, uIf, uRet, uRetF, uRetO, uRetN, uNext, uDrop, uCall, fCall, uCallV, uCons, uNil, uVar, uC, uVal, uOp, uUn, uB, fB, uTup, uLst, fLst, fOp, uOfF, uNot, uAnd, uOr, uOfT, uIfE, uAndV, uOrV, uNotV, uChain, startE, pin, pins, vw, vws, toU, toUs, uSl, fSl, oNone, oSome, uOwnM, uOwnM0, oAppend, oExtend, oClear, oPopAt, oPop, iLst, iTp, iSt, iR1, iR2, uGN, uGT, uGCons, uGNil, gEq, scalU, eqU, gIsN, isNon, gIn_txs, gInS, gIxL, gIxT, gIxS, gSlS, gSlL, gCat, gRep, nLen, nLenS, nInt, nStrI, nMax, nMin, nList, nTuple, gI, gI0, gS, gS0, txs_len, atI_zero, atI_one, atI_lit, max_eq, min_eq, cutU_all, CMul, CPow, CDivW, N__law_values, fLc, wipeE, exF]
    generalize signs (Str.ofString " !\"#$&'()*+,-./0123456789:;<=>?@ABCDEFGHIJKLMNOPQRSTUVWXYZ[\\]^_`abcdefghijklmnopqrstuvwxyz{|}~\n") = SG at ls cs ⊢
    refine ⟨by omega, lc_each (fun y => okU y ∧ dpU y ≤ 8) (fun x hx κ hκ => ?_) fun zs lz' pz => ⟨by omega, hk _ (by rw [List.length_append]; omega) fun x hx => ?_⟩⟩
    · obtain ⟨c, rfl⟩ := cs x hx
      simp [uSeq, uSet, uSetO, uIf, uRet, uRetF, uRetO, uRetN, uNext, uDrop, uCall, fCall, uCallV, uCons, uNil, uVar, uC, uVal, uOp, uUn, uB, fB, uTup, uLst, fLst, fOp, uOfF, uNot, uAnd, uOr, uOfT, uIfE, uAndV, uOrV, uNotV, uChain, startE, pin, pins, vw, vws, toU, toUs, uSl, fSl, oNone, oSome, uOwnM, uOwnM0, oAppend, oExtend, oClear, oPopAt, oPop, iLst, iTp, iSt, iR1, iR2, uGN, uGT, uGCons, uGNil, gEq, scalU, eqU, gIsN, isNon, gIn_txs, gInS, gIxL, gIxT, gIxS, gSlS, gSlL, gCat, gRep, nLen, nLenS, nInt, nStrI, nMax, nMin, nList, nTuple, gI, gI0, gS, gS0, txs_len, atI_zero, atI_one, atI_lit, max_eq, min_eq, cutU_all, CMul, CPow, CDivW, N__law_values, lcTurn, uYes, exF]
      have h1 := len_cut_to z (i := r) (by omega)
      have h2 := len_cut_from z (i := r + 1) (by omega)
      have h3 : ({ cps := #[c] } : Str).length = 1 := rfl
      refine ⟨by omega, by omega, by omega, by rw [len_app]; omega, hκ _ (kz _ (by rw [len_app, len_app]; omega))⟩
    · rcases List.mem_append.mp hx with hx | hx
      · exact hp x hx
      · exact pz x hx
end
end UL

set_option maxHeartbeats 4000000
namespace UL
open PySem PySem.Spec PyProof.Rows L2
section
variable {P : Program} {w : World} {K : PySem.W.Frag} {mg : Str → Option Value} {base : Heap}
abbrev s__law_store : Stmt := topS 7
abbrev N__law_store : List Str := ["script", "state", "cell"]
theorem sc__law_store : FnScope N__law_store ["script"] (defScope s__law_store) := ⟨rfl, rfl, rfl, by decide +kernel, rfl, by decide +kernel, by decide +kernel⟩
abbrev s_law : Stmt := topS 26
abbrev N_law : List Str := ["script", "values", "kept", "k"]
theorem sc_law : FnScope N_law ["script"] (defScope s_law) := ⟨rfl, rfl, rfl, by decide +kernel, rfl, by decide +kernel, by decide +kernel⟩
def sp_law (K : PySem.W.Frag) : Sp := fun vs H Q _ => ∃ (s : Addr) (ns : List Int), vs = [.ref s] ∧ SqL K H s (ns.map V.int) ∧ ns.length ≤ 63 ∧ ∀ H', Q (.bl true) H'
theorem ok_law {f_law : Addr} {fd_law : FuncData} (T : Tb mg) (D_law : Df K mg "law" s_law ["script"] f_law fd_law) {f__law_copy : Addr} {fd__law_copy : FuncData} (D__law_copy : Df K mg "_law_copy" s__law_copy ["value"] f__law_copy fd__law_copy) {f__law_due : Addr} {fd__law_due : FuncData} (D__law_due : Df K mg "_law_due" s__law_due ["value"] f__law_due fd__law_due) {f__law_same : Addr} {fd__law_same : FuncData} (D__law_same : Df K mg "_law_same" s__law_same ["told", "due"] f__law_same fd__law_same) {f_is_name : Addr} {fd_is_name : FuncData} (D_is_name : Df K mg "is_name" s_is_name ["value"] f_is_name fd_is_name) (G__law_copy : FnOk P w K mg base (L2.CX P w) 12 f__law_copy fd__law_copy ["value"] (Pr P w K mg false (spec__law_copy 12))) (G__law_due : FnOk P w K mg base (L2.CX P w) 1 f__law_due fd__law_due ["value"] (Pr P w K mg false spec__law_due)) (G__law_same : FnOk P w K mg base (L2.CX P w) 12 f__law_same fd__law_same ["told", "due"] (Pr P w K mg false (spec__law_same 12))) (G_is_name : FnOk P w K mg base (L2.CX P w) 1 f_is_name fd_is_name ["value"] (Pr P w K mg false spec_is_name)) {f__law_values : Addr} {fd__law_values : FuncData} (D__law_values : Df K mg "_law_values" s__law_values ["store"] f__law_values fd__law_values) {f__law_store : Addr} {fd__law_store : FuncData} (D__law_store : Df K mg "_law_store" s__law_store ["script"] f__law_store fd__law_store)
    (G__law_values : FnOk P w K mg base (L2.CX P w) 20 f__law_values fd__law_values ["store"] (Pr P w K mg false spec__law_values)) (G__law_store : FnOk P w K mg base (L2.CX P w) 2 f__law_store fd__law_store ["script"] (K1.sp__law_store K)) :
    FnOk P w K mg base (L2.CX P w) 22 f_law fd_law ["script"] (sp_law K) := by
  refine D_law.F.okX sc_law (fun vs H Q E h => ?_) (fun cdv A outer s H vs Q E hr h => ?_)
  · obtain ⟨s, ns, rfl, _⟩ := h; rfl
  · obtain ⟨a0, ns, rfl, hS, hl, q⟩ := h
    have tk : Takes (cxU P w K mg base N_law "law" s_law f_law cdv A outer s H E) (fun C d _ H => E C d H) := takes_of rfl rfl rfl rfl
    refine ⟨_, pss_cons (ps_set (i := 1) sc_law.nd rfl (.inl rfl) (pe_callS G__law_values (hr.mono (by decide)) (by rfl) D__law_values.g D__law_values.F.kp D__law_values.b (fun σ => passAt tk σ)
      (pa_cons (pe_callS G__law_store (hr.mono (by decide)) (by rfl) D__law_store.g D__law_store.F.kp D__law_store.b (fun σ => passAt tk σ) (pa_cons (pv 0) pa_nil rfl) (by decide) rfl rfl) pa_nil rfl) (by decide) rfl rfl) rfl (.inr rfl))
      (PSs.ex (p := fun c : Uc => Fit c (cxU P w K mg base N_law "law" s_law f_law cdv A outer s H E) ∧ c.fr = false) fun c ft =>
  (us_cons (us_set (c := c) (i := 2) sc_law.nd rfl (.inl rfl) (ue_call ft.1 G__law_copy (hr.mono (by decide)) (by rfl) D__law_copy.g D__law_copy.F.kp D__law_copy.b (ua_cons (ue_var (pv 1)) ua_nil)))
  (us_cons (us_for (passes_of rfl) ft.1 (ui_range1 (by rfl) T.m_range (ue_callB (k_len' ft.1) snd_len (by rfl) T.m_len (by decide +kernel) (ua_cons (ue_var (pv 1)) ua_nil))) (ug_name (i := 3) sc_law.nd rfl (.inl rfl))
   (us_one (us_if (ut_not (ut_val (ue_call ft.1 G__law_same (hr.mono (by decide)) (by rfl) D__law_same.g D__law_same.F.kp D__law_same.b (ua_cons (ue_call ft.1 G_is_name (hr.mono (by decide)) (by rfl) D_is_name.g D_is_name.F.kp D_is_name.b (ua_cons (ue_ix (k_ixL' ft.1) snd_ixL (ue_var (pv 1)) (ue_var (pv 3)) (fun _ _ => rfl)) ua_nil)) (ua_cons (ue_call ft.1 G__law_due (hr.mono (by decide)) (by rfl) D__law_due.g D__law_due.F.kp D__law_due.b (ua_cons (ue_ix (k_ixL' ft.1) snd_ixL (ue_var (pv 2)) (ue_var (pv 3)) (fun _ _ => rfl)) ua_nil)) ua_nil)))))
   (us_one (us_ret ft.2 ue_bl))
   us_nil)))
  (us_cons (us_for (passes_of rfl) ft.1 (ui_rev1 (by rfl) T.m_range (by rfl) T.m_reversed (ue_callB (k_len' ft.1) snd_len (by rfl) T.m_len (by decide +kernel) (ua_cons (ue_var (pv 1)) ua_nil))) (ug_name (i := 3) sc_law.nd rfl (.inl rfl))
   (us_one (us_if (ut_not (ut_val (ue_call ft.1 G__law_same (hr.mono (by decide)) (by rfl) D__law_same.g D__law_same.F.kp D__law_same.b (ua_cons (ue_call ft.1 G_is_name (hr.mono (by decide)) (by rfl) D_is_name.g D_is_name.F.kp D_is_name.b (ua_cons (ue_ix (k_ixL' ft.1) snd_ixL (ue_var (pv 1)) (ue_var (pv 3)) (fun _ _ => rfl)) ua_nil)) (ua_cons (ue_call ft.1 G__law_due (hr.mono (by decide)) (by rfl) D__law_due.g D__law_due.F.kp D__law_due.b (ua_cons (ue_ix (k_ixL' ft.1) snd_ixL (ue_var (pv 2)) (ue_var (pv 3)) (fun _ _ => rfl)) ua_nil)) ua_nil)))))
   (us_one (us_ret ft.2 ue_bl))
   us_nil)))
  (us_one (us_ret ft.2 (ue_call ft.1 G__law_same (hr.mono (by decide)) (by rfl) D__law_same.g D__law_same.F.kp D__law_same.b (ua_cons (ue_var (pv 1)) (ua_cons (ue_var (pv 2)) ua_nil))))))))), ?_⟩
    show ∃ v, (L2.start N_law [V.ref a0])[0]? = some (some v) ∧ _
    refine ⟨.ref a0, rfl, a0, ns, rfl, hS, hl, fun a cc H1 sm ha hcc st => ?_⟩
    have st0 : K1.Sto a cc H1 := st
    obtain ⟨p, s1, ct, hd, lf, e1, e2, e3, ms, e4⟩ := st
    have P0 : Pool ⟨K, mg, some (a, cc), none, DN P w⟩ (fun b => if b = a then none else H1 b) H1 := by
      refine ⟨fun b o z => ?_, fun a' cc' z => ?_⟩
      · have z : (if b = a then none else H1 b) = some o := z
        split at z
        · cases z
        · exact z
      · cases z
        exact ⟨if_pos rfl, ⟨ms, by rw [if_neg e2]; exact e4⟩, p, s1, ct, hd, lf, e3, e1⟩
    refine ⟨some (a, cc), fun b => if b = a then none else H1 b, [.sto], fun _ _ => False, fun u => ∃ xs, u = .lst xs ∧ xs.length ≤ 300 ∧ ∀ u ∈ xs, okU u ∧ dpU u ≤ 8, P0, .cons (.sto rfl) .nil, ⟨rfl, fun xs h1 h2 => ⟨xs, rfl, h1, h2⟩⟩, fun _ _ _ _ _ _ _ _ _ _ _ h => h.elim, fun F' H' v u x r _ hx => ?_⟩
    obtain ⟨xs, rfl, lx, ox⟩ := hx
    have R0 : Rel (⟨⟨K, mg, some (a, cc), none, DN P w⟩, F', H', fun _ _ _ _ => False, false, (0, 0)⟩ : Uc) F' (L2.start N_law [V.ref a0]) [.no, .no, .no, .no] H' := {
      pool := x.2, base := .refl, len := rfl, one := fun i cn fs e => by rcases i with _ | _ | _ | _ | i <;> simp at e
      slot := fun i s e => by
        rcases i with _ | _ | _ | _ | i <;> simp at e <;> subst e <;> exact ⟨_, rfl, trivial⟩
      dist := fun i j p xs ys _ e => by rcases i with _ | _ | _ | _ | i <;> simp at e
      fp := FtOk.none fun i t e => by rcases i with _ | _ | _ | _ | i <;> simp at e }
    have R1 := R0.set 1 r
    refine ⟨⟨⟨K, mg, some (a, cc), none, DN P w⟩, F', H', fun _ _ _ _ => False, false, (0, 0)⟩, ⟨⟨rfl, rfl, rfl, rfl, takes0⟩, rfl⟩, F', _, { nx := fun _ => False, rt := fun u => u = .bl true, ex := exF }, R1, ?_,
      ⟨fun _ _ _ _ _ _ h' => h'.elim, fun _ _ _ _ _ _ h' => h'.elim, fun _ _ _ _ _ _ h' => h'.elim, fun F2 H2 v u x2 r2 _ h' => by subst h'; cases r2; exact q H2, wantsF⟩⟩
    have okx : okU (.lst xs) := by unfold okU; exact ⟨by omega, okUs_of fun y hy => (ox y hy).1⟩
    have dpx : dpU (.lst xs) ≤ 9 := by unfold dpU; have := dpUs_of fun y hy => (ox y hy).2; omega
    have turn : ∀ i : Int, 0 ≤ i → i < xs.length → ∃ y, atI xs i = some y ∧ okU y := fun i h0 h1 => atI_ex h0 h1 fun y hy => (ox y hy).1
    refine seq_op fun R h1 => ?_
    simp [uSeq, uSet, uSetO, uIf, uRet, uRetF, uRetO, uRetN, uNext, uDrop, uCall, fCall, uCallV, uCons, uNil, uVar, uC, uVal, uOp, uUn, uB, fB, uTup, uLst, fLst, fOp, uOfF, uNot, uAnd, uOr, uOfT, uIfE, uAndV, uOrV, uNotV, uChain, startE, pin, pins, vw, vws, toU, toUs, uSl, fSl, oNone, oSome, uOwnM, uOwnM0, oAppend, oExtend, oClear, oPopAt, oPop, iLst, iTp, iSt, iR1, iR2, uGN, uGT, uGCons, uGNil, gEq, scalU, eqU, gIsN, isNon, gIn_txs, gInS, gIxL, gIxT, gIxS, gSlS, gSlL, gCat, gRep, nLen, nLenS, nInt, nStrI, nMax, nMin, nList, nTuple, gI, gI0, gS, gS0, txs_len, atI_zero, atI_one, atI_lit, max_eq, min_eq, cutU_all, CMul, CPow, CDivW]
    refine ⟨okx, by omega, h1 _ ?_⟩
    clear h1 R
    refine seq_op fun R h1 => ?_
    refine for_rng xs.length (σ := Slot) (fun s => [.no, .val (.lst xs), .val (.lst xs), s]) (fun _ _ => True) .no (fun κ h => ?_) rfl trivial (fun i s hi _ => ?_) (fun s _ => h1 _ ?_)
    · simp [uSeq, uSet, uSetO, uIf, uRet, uRetF, uRetO, uRetN, uNext, uDrop, uCall, fCall, uCallV, uCons, uNil, uVar, uC, uVal, uOp, uUn, uB, fB, uTup, uLst, fLst, fOp, uOfF, uNot, uAnd, uOr, uOfT, uIfE, uAndV, uOrV, uNotV, uChain, startE, pin, pins, vw, vws, toU, toUs, uSl, fSl, oNone, oSome, uOwnM, uOwnM0, oAppend, oExtend, oClear, oPopAt, oPop, iLst, iTp, iSt, iR1, iR2, uGN, uGT, uGCons, uGNil, gEq, scalU, eqU, gIsN, isNon, gIn_txs, gInS, gIxL, gIxT, gIxS, gSlS, gSlL, gCat, gRep, nLen, nLenS, nInt, nStrI, nMax, nMin, nList, nTuple, gI, gI0, gS, gS0, txs_len, atI_zero, atI_one, atI_lit, max_eq, min_eq, cutU_all, CMul, CPow, CDivW, nLen]
      exact ⟨by omega, h⟩
    · obtain ⟨y, e, oy⟩ := turn i (by omega) hi
      simp [uSeq, uSet, uSetO, uIf, uRet, uRetF, uRetO, uRetN, uNext, uDrop, uCall, fCall, uCallV, uCons, uNil, uVar, uC, uVal, uOp, uUn, uB, fB, uTup, uLst, fLst, fOp, uOfF, uNot, uAnd, uOr, uOfT, uIfE, uAndV, uOrV, uNotV, uChain, startE, pin, pins, vw, vws, toU, toUs, uSl, fSl, oNone, oSome, uOwnM, uOwnM0, oAppend, oExtend, oClear, oPopAt, oPop, iLst, iTp, iSt, iR1, iR2, uGN, uGT, uGCons, uGNil, gEq, scalU, eqU, gIsN, isNon, gIn_txs, gInS, gIxL, gIxT, gIxS, gSlS, gSlL, gCat, gRep, nLen, nLenS, nInt, nStrI, nMax, nMin, nList, nTuple, gI, gI0, gS, gS0, txs_len, atI_zero, atI_one, atI_lit, max_eq, min_eq, cutU_all, CMul, CPow, CDivW]
      exact ⟨y, e, oy, y, e, oy, .bl (nameU y), ⟨rfl, rfl⟩, trivial, by unfold dpU; decide⟩
    clear h1 R
    refine seq_op fun R h1 => ?_
    refine for_st (fun i : Nat => U.int ((xs.length : Int) - 1 - (i : Int))) (List.range (xs.length : Int).toNat) (σ := Slot) (fun s => [.no, .val (.lst xs), .val (.lst xs), s]) (fun _ _ => True) s (fun κ h => ?_) rfl trivial (fun i j s hj _ => ?_) (fun s _ => h1 _ ?_)
    · simp [uSeq, uSet, uSetO, uIf, uRet, uRetF, uRetO, uRetN, uNext, uDrop, uCall, fCall, uCallV, uCons, uNil, uVar, uC, uVal, uOp, uUn, uB, fB, uTup, uLst, fLst, fOp, uOfF, uNot, uAnd, uOr, uOfT, uIfE, uAndV, uOrV, uNotV, uChain, startE, pin, pins, vw, vws, toU, toUs, uSl, fSl, oNone, oSome, uOwnM, uOwnM0, oAppend, oExtend, oClear, oPopAt, oPop, iLst, iTp, iSt, iR1, iR2, uGN, uGT, uGCons, uGNil, gEq, scalU, eqU, gIsN, isNon, gIn_txs, gInS, gIxL, gIxT, gIxS, gSlS, gSlL, gCat, gRep, nLen, nLenS, nInt, nStrI, nMax, nMin, nList, nTuple, gI, gI0, gS, gS0, txs_len, atI_zero, atI_one, atI_lit, max_eq, min_eq, cutU_all, CMul, CPow, CDivW, nLen, iRev1]
      exact ⟨by omega, h⟩
    · have hj' : j < (xs.length : Int).toNat := List.mem_range.mp (List.mem_of_getElem? hj)
      obtain ⟨y, e, oy⟩ := turn ((xs.length : Int) - 1 - (j : Int)) (by omega) (by omega)
      simp [uSeq, uSet, uSetO, uIf, uRet, uRetF, uRetO, uRetN, uNext, uDrop, uCall, fCall, uCallV, uCons, uNil, uVar, uC, uVal, uOp, uUn, uB, fB, uTup, uLst, fLst, fOp, uOfF, uNot, uAnd, uOr, uOfT, uIfE, uAndV, uOrV, uNotV, uChain, startE, pin, pins, vw, vws, toU, toUs, uSl, fSl, oNone, oSome, uOwnM, uOwnM0, oAppend, oExtend, oClear, oPopAt, oPop, iLst, iTp, iSt, iR1, iR2, uGN, uGT, uGCons, uGNil, gEq, scalU, eqU, gIsN, isNon, gIn_txs, gInS, gIxL, gIxT, gIxS, gSlS, gSlL, gCat, gRep, nLen, nLenS, nInt, nStrI, nMax, nMin, nList, nTuple, gI, gI0, gS, gS0, txs_len, atI_zero, atI_one, atI_lit, max_eq, min_eq, cutU_all, CMul, CPow, CDivW]
      exact ⟨y, e, oy, y, e, oy, .bl (nameU y), ⟨rfl, rfl⟩, trivial, by unfold dpU; decide⟩
    clear h1 R
    simp [uSeq, uSet, uSetO, uIf, uRet, uRetF, uRetO, uRetN, uNext, uDrop, uCall, fCall, uCallV, uCons, uNil, uVar, uC, uVal, uOp, uUn, uB, fB, uTup, uLst, fLst, fOp, uOfF, uNot, uAnd, uOr, uOfT, uIfE, uAndV, uOrV, uNotV, uChain, startE, pin, pins, vw, vws, toU, toUs, uSl, fSl, oNone, oSome, uOwnM, uOwnM0, oAppend, oExtend, oClear, oPopAt, oPop, iLst, iTp, iSt, iR1, iR2, uGN, uGT, uGCons, uGNil, gEq, scalU, eqU, gIsN, isNon, gIn_txs, gInS, gIxL, gIxT, gIxS, gSlS, gSlL, gCat, gRep, nLen, nLenS, nInt, nStrI, nMax, nMin, nList, nTuple, gI, gI0, gS, gS0, txs_len, atI_zero, atI_one, atI_lit, max_eq, min_eq, cutU_all, CMul, CPow, CDivW]
    exact ⟨okx, by omega⟩
end
end UL

namespace UL
open PySem PySem.Spec PyProof.Rows L2
/-- what the top writes of a def -/
structure Wr (K : PySem.W.Frag) (x : Str) (st : Stmt) (f : Addr) (oc kV dc pm cd ct : Value) (od an : Option Addr) (sl : Array (Option Value)) : Prop where
  a : PySem.W.nsIn K mainGlobals x = some (some (.ref f))
  l : K.lookup f = some ⟨oc, od, .func (PySem.W.fnOf x x (defArgs st) (defBody st) (defScope st) .none kV dc pm an cd ct), sl⟩
  c : PySem.W.codeIn K cd x = true
  k : PySem.W.keepIn K (.ref f) = true
set_option maxHeartbeats 4000000 in
theorem all_mk {l : PySem.W.OpenLaw} {w : World} {K : PySem.W.Frag} {h : Heap} {mg : Str → Option Value} {fa : Addr} (X : K.In h) (G : h.Ns mainGlobals mg) (hfa : mg "law" = some (.ref fa))
    {f0 : Addr} {oc0 kV0 dc0 pm0 cd0 ct0 : Value} {od0 an0 : Option Addr} {sl0 : Array (Option Value)} (w0 : Wr K "_law_mixed" (topS 6) f0 oc0 kV0 dc0 pm0 cd0 ct0 od0 an0 sl0)
    {f1 : Addr} {oc1 kV1 dc1 pm1 cd1 ct1 : Value} {od1 an1 : Option Addr} {sl1 : Array (Option Value)} (w1 : Wr K "_law_store" (topS 7) f1 oc1 kV1 dc1 pm1 cd1 ct1 od1 an1 sl1)
    {f2 : Addr} {oc2 kV2 dc2 pm2 cd2 ct2 : Value} {od2 an2 : Option Addr} {sl2 : Array (Option Value)} (w2 : Wr K "_law_advance" (topS 8) f2 oc2 kV2 dc2 pm2 cd2 ct2 od2 an2 sl2)
    {f3 : Addr} {oc3 kV3 dc3 pm3 cd3 ct3 : Value} {od3 an3 : Option Addr} {sl3 : Array (Option Value)} (w3 : Wr K "_law_take" (topS 9) f3 oc3 kV3 dc3 pm3 cd3 ct3 od3 an3 sl3)
    {f4 : Addr} {oc4 kV4 dc4 pm4 cd4 ct4 : Value} {od4 an4 : Option Addr} {sl4 : Array (Option Value)} (w4 : Wr K "_law_pick" (topS 10) f4 oc4 kV4 dc4 pm4 cd4 ct4 od4 an4 sl4)
    {f5 : Addr} {oc5 kV5 dc5 pm5 cd5 ct5 : Value} {od5 an5 : Option Addr} {sl5 : Array (Option Value)} (w5 : Wr K "_law_odds" (topS 11) f5 oc5 kV5 dc5 pm5 cd5 ct5 od5 an5 sl5)
    {f6 : Addr} {oc6 kV6 dc6 pm6 cd6 ct6 : Value} {od6 an6 : Option Addr} {sl6 : Array (Option Value)} (w6 : Wr K "_law_integer" (topS 12) f6 oc6 kV6 dc6 pm6 cd6 ct6 od6 an6 sl6)
    {f7 : Addr} {oc7 kV7 dc7 pm7 cd7 ct7 : Value} {od7 an7 : Option Addr} {sl7 : Array (Option Value)} (w7 : Wr K "_law_size" (topS 13) f7 oc7 kV7 dc7 pm7 cd7 ct7 od7 an7 sl7)
    {f8 : Addr} {oc8 kV8 dc8 pm8 cd8 ct8 : Value} {od8 an8 : Option Addr} {sl8 : Array (Option Value)} (w8 : Wr K "_law_sign" (topS 14) f8 oc8 kV8 dc8 pm8 cd8 ct8 od8 an8 sl8)
    {f9 : Addr} {oc9 kV9 dc9 pm9 cd9 ct9 : Value} {od9 an9 : Option Addr} {sl9 : Array (Option Value)} (w9 : Wr K "_law_text" (topS 15) f9 oc9 kV9 dc9 pm9 cd9 ct9 od9 an9 sl9)
    {f10 : Addr} {oc10 kV10 dc10 pm10 cd10 ct10 : Value} {od10 an10 : Option Addr} {sl10 : Array (Option Value)} (w10 : Wr K "_law_free_name" (topS 16) f10 oc10 kV10 dc10 pm10 cd10 ct10 od10 an10 sl10)
    {f11 : Addr} {oc11 kV11 dc11 pm11 cd11 ct11 : Value} {od11 an11 : Option Addr} {sl11 : Array (Option Value)} (w11 : Wr K "_law_bad_word" (topS 17) f11 oc11 kV11 dc11 pm11 cd11 ct11 od11 an11 sl11)
    {f12 : Addr} {oc12 kV12 dc12 pm12 cd12 ct12 : Value} {od12 an12 : Option Addr} {sl12 : Array (Option Value)} (w12 : Wr K "_law_bad_name" (topS 18) f12 oc12 kV12 dc12 pm12 cd12 ct12 od12 an12 sl12)
    {f13 : Addr} {oc13 kV13 dc13 pm13 cd13 ct13 : Value} {od13 an13 : Option Addr} {sl13 : Array (Option Value)} (w13 : Wr K "_law_value" (topS 22) f13 oc13 kV13 dc13 pm13 cd13 ct13 od13 an13 sl13)
    {f14 : Addr} {oc14 kV14 dc14 pm14 cd14 ct14 : Value} {od14 an14 : Option Addr} {sl14 : Array (Option Value)} (w14 : Wr K "_law_near_name" (topS 19) f14 oc14 kV14 dc14 pm14 cd14 ct14 od14 an14 sl14)
    {f15 : Addr} {oc15 kV15 dc15 pm15 cd15 ct15 : Value} {od15 an15 : Option Addr} {sl15 : Array (Option Value)} (w15 : Wr K "_law_nest" (topS 23) f15 oc15 kV15 dc15 pm15 cd15 ct15 od15 an15 sl15)
    {f16 : Addr} {oc16 kV16 dc16 pm16 cd16 ct16 : Value} {od16 an16 : Option Addr} {sl16 : Array (Option Value)} (w16 : Wr K "_law_same" (topS 20) f16 oc16 kV16 dc16 pm16 cd16 ct16 od16 an16 sl16)
    {f17 : Addr} {oc17 kV17 dc17 pm17 cd17 ct17 : Value} {od17 an17 : Option Addr} {sl17 : Array (Option Value)} (w17 : Wr K "_law_copy" (topS 21) f17 oc17 kV17 dc17 pm17 cd17 ct17 od17 an17 sl17)
    {f18 : Addr} {oc18 kV18 dc18 pm18 cd18 ct18 : Value} {od18 an18 : Option Addr} {sl18 : Array (Option Value)} (w18 : Wr K "_law_due" (topS 24) f18 oc18 kV18 dc18 pm18 cd18 ct18 od18 an18 sl18)
    {f19 : Addr} {oc19 kV19 dc19 pm19 cd19 ct19 : Value} {od19 an19 : Option Addr} {sl19 : Array (Option Value)} (w19 : Wr K "is_name" (topS 4) f19 oc19 kV19 dc19 pm19 cd19 ct19 od19 an19 sl19)
    {f20 : Addr} {oc20 kV20 dc20 pm20 cd20 ct20 : Value} {od20 an20 : Option Addr} {sl20 : Array (Option Value)} (w20 : Wr K "_law_values" (topS 25) f20 oc20 kV20 dc20 pm20 cd20 ct20 od20 an20 sl20)
    {f21 : Addr} {oc21 kV21 dc21 pm21 cd21 ct21 : Value} {od21 an21 : Option Addr} {sl21 : Array (Option Value)} (w21 : Wr K "law" (topS 26) f21 oc21 kV21 dc21 pm21 cd21 ct21 od21 an21 sl21)
    (z_int : PySem.W.nsIn K mainGlobals "int" = some none)
    (z_max : PySem.W.nsIn K mainGlobals "max" = some none)
    (z_min : PySem.W.nsIn K mainGlobals "min" = some none)
    (z_range : PySem.W.nsIn K mainGlobals "range" = some none)
    (z_reversed : PySem.W.nsIn K mainGlobals "reversed" = some none)
    (z_len : PySem.W.nsIn K mainGlobals "len" = some none)
    (z_list : PySem.W.nsIn K mainGlobals "list" = some none)
    (z_tuple : PySem.W.nsIn K mainGlobals "tuple" = some none)
    (z_str : PySem.W.nsIn K mainGlobals "str" = some none)
    (z_dict : PySem.W.nsIn K mainGlobals "dict" = some none)
    (z_bool : PySem.W.nsIn K mainGlobals "bool" = some none)
    (z_isinstance : PySem.W.nsIn K mainGlobals "isinstance" = some none)
    (z_all : PySem.W.nsIn K mainGlobals "all" = some none)
    (z_any : PySem.W.nsIn K mainGlobals "any" = some none)
    (z_sorted : PySem.W.nsIn K mainGlobals "sorted" = some none)
    (z_set : PySem.W.nsIn K mainGlobals "set" = some none)
    (z_repr : PySem.W.nsIn K mainGlobals "repr" = some none)
    (z_enumerate : PySem.W.nsIn K mainGlobals "enumerate" = some none)
    (z_iter : PySem.W.nsIn K mainGlobals "iter" = some none)
    {t_LETTERS : Tok} (c_LETTERS : PySem.W.nsIn K mainGlobals "LETTERS" = some (some (.str (Str.ofString "abcdefghijklmnopqrstuvwxyz") t_LETTERS)))
    {t_LETTERS_AND_DIGITS : Tok} (c_LETTERS_AND_DIGITS : PySem.W.nsIn K mainGlobals "LETTERS_AND_DIGITS" = some (some (.str (Str.ofString "abcdefghijklmnopqrstuvwxyz0123456789") t_LETTERS_AND_DIGITS)))
    {t_MOST_SIGNS : Tok} (c_MOST_SIGNS : PySem.W.nsIn K mainGlobals "MOST_SIGNS" = some (some (.int 8 t_MOST_SIGNS)))
    : ∃ fd : FuncData, (∀ (s : Shared) (v : Value), BindsTo s fd ⟨[v], []⟩ [("script", v)]) ∧ ∀ base : Heap, K.In base → base.Ns mainGlobals mg → FnOk l.prog w K mg base (L2.CX l.prog w) 22 fa fd ["script"] (sp_law K) := by
  have e := hfa.symm.trans (PySem.W.mg_of X G w21.a)
  cases e
  have T : Tb mg := { m_int := PySem.W.mg_none_of X G z_int, m_max := PySem.W.mg_none_of X G z_max, m_min := PySem.W.mg_none_of X G z_min, m_range := PySem.W.mg_none_of X G z_range, m_reversed := PySem.W.mg_none_of X G z_reversed, m_len := PySem.W.mg_none_of X G z_len, m_list := PySem.W.mg_none_of X G z_list, m_tuple := PySem.W.mg_none_of X G z_tuple, m_str := PySem.W.mg_none_of X G z_str, m_dict := PySem.W.mg_none_of X G z_dict, m_bool := PySem.W.mg_none_of X G z_bool, m_isinstance := PySem.W.mg_none_of X G z_isinstance, m_all := PySem.W.mg_none_of X G z_all, m_any := PySem.W.mg_none_of X G z_any, m_sorted := PySem.W.mg_none_of X G z_sorted, m_set := PySem.W.mg_none_of X G z_set, m_repr := PySem.W.mg_none_of X G z_repr, m_enumerate := PySem.W.mg_none_of X G z_enumerate, m_iter := PySem.W.mg_none_of X G z_iter }
  have T1 : K1.Tb mg := { m_int := PySem.W.mg_none_of X G z_int, m_max := PySem.W.mg_none_of X G z_max, m_min := PySem.W.mg_none_of X G z_min, m_range := PySem.W.mg_none_of X G z_range, m_reversed := PySem.W.mg_none_of X G z_reversed, m_len := PySem.W.mg_none_of X G z_len, m_list := PySem.W.mg_none_of X G z_list, m_tuple := PySem.W.mg_none_of X G z_tuple, m_str := PySem.W.mg_none_of X G z_str, m_dict := PySem.W.mg_none_of X G z_dict, m_bool := PySem.W.mg_none_of X G z_bool, m_isinstance := PySem.W.mg_none_of X G z_isinstance, m_all := PySem.W.mg_none_of X G z_all, m_any := PySem.W.mg_none_of X G z_any, m_sorted := PySem.W.mg_none_of X G z_sorted, m_set := PySem.W.mg_none_of X G z_set, m_repr := PySem.W.mg_none_of X G z_repr }
  have F0 := fun_mk (st := topS 6) w0.l w0.c w0.k
  have B0 : Binds K _ ["state", "turn", "many"] [] := F0.binds fun _ _ _ _ _ _ us hl => match us, hl with | [_, _, _], _ => rfl
  have D__law_mixed : Df K mg "_law_mixed" (topS 6) ["state", "turn", "many"] _ _ := ⟨F0, B0, PySem.W.mg_of X G w0.a⟩
  have H__law_mixed : K1.Df K mg "_law_mixed" K1.s__law_mixed ["state", "turn", "many"] _ _ := ⟨F0, B0, PySem.W.mg_of X G w0.a⟩
  have F1 := fun_mk (st := topS 7) w1.l w1.c w1.k
  have B1 : Binds K _ ["script"] [] := F1.binds fun _ _ _ _ _ _ us hl => match us, hl with | [_], _ => rfl
  have D__law_store : Df K mg "_law_store" (topS 7) ["script"] _ _ := ⟨F1, B1, PySem.W.mg_of X G w1.a⟩
  have H__law_store : K1.Df K mg "_law_store" K1.s__law_store ["script"] _ _ := ⟨F1, B1, PySem.W.mg_of X G w1.a⟩
  have F2 := fun_mk (st := topS 8) w2.l w2.c w2.k
  have B2 : Binds K _ ["store"] [] := F2.binds fun _ _ _ _ _ _ us hl => match us, hl with | [_], _ => rfl
  have D__law_advance : Df K mg "_law_advance" (topS 8) ["store"] _ _ := ⟨F2, B2, PySem.W.mg_of X G w2.a⟩
  have H__law_advance : K1.Df K mg "_law_advance" K1.s__law_advance ["store"] _ _ := ⟨F2, B2, PySem.W.mg_of X G w2.a⟩
  have F3 := fun_mk (st := topS 9) w3.l w3.c w3.k
  have B3 : Binds K _ ["store", "many"] [] := F3.binds fun _ _ _ _ _ _ us hl => match us, hl with | [_, _], _ => rfl
  have D__law_take : Df K mg "_law_take" (topS 9) ["store", "many"] _ _ := ⟨F3, B3, PySem.W.mg_of X G w3.a⟩
  have H__law_take : K1.Df K mg "_law_take" K1.s__law_take ["store", "many"] _ _ := ⟨F3, B3, PySem.W.mg_of X G w3.a⟩
  have F4 := fun_mk (st := topS 10) w4.l w4.c w4.k
  have B4 : Binds K _ ["store", "items"] [] := F4.binds fun _ _ _ _ _ _ us hl => match us, hl with | [_, _], _ => rfl
  have D__law_pick : Df K mg "_law_pick" (topS 10) ["store", "items"] _ _ := ⟨F4, B4, PySem.W.mg_of X G w4.a⟩
  have F5 := fun_mk (st := topS 11) w5.l w5.c w5.k
  have B5 : Binds K _ ["store", "part"] [] := F5.binds fun _ _ _ _ _ _ us hl => match us, hl with | [_, _], _ => rfl
  have D__law_odds : Df K mg "_law_odds" (topS 11) ["store", "part"] _ _ := ⟨F5, B5, PySem.W.mg_of X G w5.a⟩
  have F6 := fun_mk (st := topS 12) w6.l w6.c w6.k
  have B6 : Binds K _ ["store"] [] := F6.binds fun _ _ _ _ _ _ us hl => match us, hl with | [_], _ => rfl
  have D__law_integer : Df K mg "_law_integer" (topS 12) ["store"] _ _ := ⟨F6, B6, PySem.W.mg_of X G w6.a⟩
  have F7 := fun_mk (st := topS 13) w7.l w7.c w7.k
  have B7 : Binds K _ ["store", "usual", "most"] [] := F7.binds fun _ _ _ _ _ _ us hl => match us, hl with | [_, _, _], _ => rfl
  have D__law_size : Df K mg "_law_size" (topS 13) ["store", "usual", "most"] _ _ := ⟨F7, B7, PySem.W.mg_of X G w7.a⟩
  have F8 := fun_mk (st := topS 14) w8.l w8.c w8.k
  have B8 : Binds K _ ["store"] [] := F8.binds fun _ _ _ _ _ _ us hl => match us, hl with | [_], _ => rfl
  have D__law_sign : Df K mg "_law_sign" (topS 14) ["store"] _ _ := ⟨F8, B8, PySem.W.mg_of X G w8.a⟩
  have F9 := fun_mk (st := topS 15) w9.l w9.c w9.k
  have B9 : Binds K _ ["store", "most"] [] := F9.binds fun _ _ _ _ _ _ us hl => match us, hl with | [_, _], _ => rfl
  have D__law_text : Df K mg "_law_text" (topS 15) ["store", "most"] _ _ := ⟨F9, B9, PySem.W.mg_of X G w9.a⟩
  have F10 := fun_mk (st := topS 16) w10.l w10.c w10.k
  have B10 : Binds K _ ["store", "most"] [] := F10.binds fun _ _ _ _ _ _ us hl => match us, hl with | [_, _], _ => rfl
  have D__law_free_name : Df K mg "_law_free_name" (topS 16) ["store", "most"] _ _ := ⟨F10, B10, PySem.W.mg_of X G w10.a⟩
  have F11 := fun_mk (st := topS 17) w11.l w11.c w11.k
  have B11 : Binds K _ ["store"] [] := F11.binds fun _ _ _ _ _ _ us hl => match us, hl with | [_], _ => rfl
  have D__law_bad_word : Df K mg "_law_bad_word" (topS 17) ["store"] _ _ := ⟨F11, B11, PySem.W.mg_of X G w11.a⟩
  have F12 := fun_mk (st := topS 18) w12.l w12.c w12.k
  have B12 : Binds K _ ["store"] [] := F12.binds fun _ _ _ _ _ _ us hl => match us, hl with | [_], _ => rfl
  have D__law_bad_name : Df K mg "_law_bad_name" (topS 18) ["store"] _ _ := ⟨F12, B12, PySem.W.mg_of X G w12.a⟩
  have F13 := fun_mk (st := topS 22) w13.l w13.c w13.k
  have B13 : Binds K _ ["store", "deep"] [] := F13.binds fun _ _ _ _ _ _ us hl => match us, hl with | [_, _], _ => rfl
  have D__law_value : Df K mg "_law_value" (topS 22) ["store", "deep"] _ _ := ⟨F13, B13, PySem.W.mg_of X G w13.a⟩
  have F14 := fun_mk (st := topS 19) w14.l w14.c w14.k
  have B14 : Binds K _ ["store"] [] := F14.binds fun _ _ _ _ _ _ us hl => match us, hl with | [_], _ => rfl
  have D__law_near_name : Df K mg "_law_near_name" (topS 19) ["store"] _ _ := ⟨F14, B14, PySem.W.mg_of X G w14.a⟩
  have F15 := fun_mk (st := topS 23) w15.l w15.c w15.k
  have B15 : Binds K _ ["store", "most"] [] := F15.binds fun _ _ _ _ _ _ us hl => match us, hl with | [_, _], _ => rfl
  have D__law_nest : Df K mg "_law_nest" (topS 23) ["store", "most"] _ _ := ⟨F15, B15, PySem.W.mg_of X G w15.a⟩
  have F16 := fun_mk (st := topS 20) w16.l w16.c w16.k
  have B16 : Binds K _ ["told", "due"] [] := F16.binds fun _ _ _ _ _ _ us hl => match us, hl with | [_, _], _ => rfl
  have D__law_same : Df K mg "_law_same" (topS 20) ["told", "due"] _ _ := ⟨F16, B16, PySem.W.mg_of X G w16.a⟩
  have F17 := fun_mk (st := topS 21) w17.l w17.c w17.k
  have B17 : Binds K _ ["value"] [] := F17.binds fun _ _ _ _ _ _ us hl => match us, hl with | [_], _ => rfl
  have D__law_copy : Df K mg "_law_copy" (topS 21) ["value"] _ _ := ⟨F17, B17, PySem.W.mg_of X G w17.a⟩
  have F18 := fun_mk (st := topS 24) w18.l w18.c w18.k
  have B18 : Binds K _ ["value"] [] := F18.binds fun _ _ _ _ _ _ us hl => match us, hl with | [_], _ => rfl
  have D__law_due : Df K mg "_law_due" (topS 24) ["value"] _ _ := ⟨F18, B18, PySem.W.mg_of X G w18.a⟩
  have F19 := fun_mk (st := topS 4) w19.l w19.c w19.k
  have B19 : Binds K _ ["value"] [] := F19.binds fun _ _ _ _ _ _ us hl => match us, hl with | [_], _ => rfl
  have D_is_name : Df K mg "is_name" (topS 4) ["value"] _ _ := ⟨F19, B19, PySem.W.mg_of X G w19.a⟩
  have F20 := fun_mk (st := topS 25) w20.l w20.c w20.k
  have B20 : Binds K _ ["store"] [] := F20.binds fun _ _ _ _ _ _ us hl => match us, hl with | [_], _ => rfl
  have D__law_values : Df K mg "_law_values" (topS 25) ["store"] _ _ := ⟨F20, B20, PySem.W.mg_of X G w20.a⟩
  have F21 := fun_mk (st := topS 26) w21.l w21.c w21.k
  have B21 : Binds K _ ["script"] [] := F21.binds fun _ _ _ _ _ _ us hl => match us, hl with | [_], _ => rfl
  have D_law : Df K mg "law" (topS 26) ["script"] _ _ := ⟨F21, B21, PySem.W.mg_of X G w21.a⟩
  have C_LETTERS := PySem.W.mg_of X G c_LETTERS
  have C_LETTERS_AND_DIGITS := PySem.W.mg_of X G c_LETTERS_AND_DIGITS
  have C_MOST_SIGNS := PySem.W.mg_of X G c_MOST_SIGNS
  refine ⟨PySem.W.fnOf "law" "law" (defArgs (topS 26)) (defBody (topS 26)) (defScope (topS 26)) .none kV21 dc21 pm21 an21 cd21 ct21, fun s v => .of_eq rfl, fun base _ _ => ?_⟩
  have J__law_mixed := K1.ok__law_mixed (P := l.prog) (w := w) (base := base) T1 H__law_mixed
  have J__law_store := K1.ok__law_store (P := l.prog) (w := w) (base := base) T1 H__law_store H__law_mixed J__law_mixed
  have G__law_store := fn_cx J__law_store
  have J__law_advance := K1.ok__law_advance (P := l.prog) (w := w) (base := base) T1 H__law_advance H__law_mixed J__law_mixed
  have J__law_take := K1.ok__law_take (P := l.prog) (w := w) (base := base) T1 H__law_take H__law_advance H__law_mixed J__law_advance J__law_mixed
  have G__law_take := take_U J__law_take
  have G__law_pick := ok__law_pick (P := l.prog) (w := w) (base := base) T D__law_pick D__law_take G__law_take
  have G__law_odds := ok__law_odds (P := l.prog) (w := w) (base := base) T D__law_odds D__law_take G__law_take
  have G__law_integer := ok__law_integer (P := l.prog) (w := w) (base := base) T D__law_integer D__law_take G__law_take
  have G__law_size := ok__law_size (P := l.prog) (w := w) (base := base) T D__law_size D__law_take G__law_take
  have G__law_sign := ok__law_sign (P := l.prog) (w := w) (base := base) T D__law_sign D__law_pick G__law_pick
  have G__law_text := ok__law_text (P := l.prog) (w := w) (base := base) T D__law_text D__law_sign D__law_size G__law_sign G__law_size
  have G__law_free_name := ok__law_free_name (P := l.prog) (w := w) (base := base) T D__law_free_name D__law_take G__law_take
  have G__law_bad_word := ok__law_bad_word (P := l.prog) (w := w) (base := base) T D__law_bad_word D__law_free_name D__law_pick D__law_take G__law_free_name G__law_pick G__law_take
  have G__law_bad_name := ok__law_bad_name (P := l.prog) (w := w) (base := base) T D__law_bad_name D__law_bad_word D__law_free_name D__law_pick D__law_size D__law_take G__law_bad_word G__law_free_name G__law_pick G__law_size G__law_take
  have G__law_value := rec__law_value (P := l.prog) (w := w) (base := base) T D__law_value D__law_free_name D__law_integer D__law_odds D__law_take D__law_text G__law_free_name G__law_integer G__law_odds G__law_take G__law_text 12
  have G__law_near_name := ok__law_near_name (P := l.prog) (w := w) (base := base) T D__law_near_name D__law_bad_name D__law_free_name D__law_take D__law_value G__law_bad_name G__law_free_name G__law_take G__law_value
  have G__law_nest := ok__law_nest (P := l.prog) (w := w) (base := base) T D__law_nest D__law_odds D__law_take D__law_value G__law_odds G__law_take G__law_value
  have G__law_same := rec__law_same (P := l.prog) (w := w) (base := base) T D__law_same 12
  have G__law_copy := rec__law_copy (P := l.prog) (w := w) (base := base) T D__law_copy 12
  have G__law_due := ok__law_due (P := l.prog) (w := w) (base := base) T D__law_due
  have G_is_name := ok_is_name (P := l.prog) (w := w) (base := base) T D_is_name C_LETTERS C_LETTERS_AND_DIGITS C_MOST_SIGNS
  have G__law_values := ok__law_values (P := l.prog) (w := w) (base := base) T D__law_values D__law_free_name D__law_near_name D__law_nest D__law_take G__law_free_name G__law_near_name G__law_nest G__law_take
  exact ok_law (P := l.prog) (w := w) (base := base) T D_law D__law_copy D__law_due D__law_same D_is_name G__law_copy G__law_due G__law_same G_is_name D__law_values D__law_store G__law_values G__law_store
theorem cx_none {P : Program} {w : World} {H : Hp} {s : Shared} {e : Value} {s' : Shared} (h : L2.CX P w [] H s (fun _ _ _ => False) e s') : False := by
  obtain ⟨_, _, _, _, _, _, _, _, _, _, _, _, h⟩ := h
  exact h
end UL
open PySem PySem.W PyProof.Rows
set_option maxHeartbeats 0 in
theorem PySem.Challenge.cw_markshome_k00_names_are_judged_holds : PySem.Challenge.rw_markshome_k00_names_are_judged.Holds := by
  w_on; o_law; k_head; (case hw => w_witness2)
  k_fill
  refine L2.walk_of (l := PySem.Challenge.rw_markshome_k00_names_are_judged) (n := 63) (k := 22) (x := "script") (CX := fun w => L2.CX (PySem.Challenge.rw_markshome_k00_names_are_judged).prog w) (sp := fun w => UL.sp_law _) rfl (by decide) rfl ⟨rfl, by decide, by decide⟩ (fun w h Y => PySem.W.kIn_of Y) ?F (fun _ _ a ns hl _ hS => ⟨a, ns, rfl, hS, hl, fun _ => rfl⟩) (fun _ _ _ _ _ h => UL.cx_none h)
  case F =>
    intro w mg fa h KX G hmg
    refine' UL.all_mk KX G hmg ⟨?a0, ?l0, ?c0, ?k0⟩ ⟨?a1, ?l1, ?c1, ?k1⟩ ⟨?a2, ?l2, ?c2, ?k2⟩ ⟨?a3, ?l3, ?c3, ?k3⟩ ⟨?a4, ?l4, ?c4, ?k4⟩ ⟨?a5, ?l5, ?c5, ?k5⟩ ⟨?a6, ?l6, ?c6, ?k6⟩ ⟨?a7, ?l7, ?c7, ?k7⟩ ⟨?a8, ?l8, ?c8, ?k8⟩ ⟨?a9, ?l9, ?c9, ?k9⟩ ⟨?a10, ?l10, ?c10, ?k10⟩ ⟨?a11, ?l11, ?c11, ?k11⟩ ⟨?a12, ?l12, ?c12, ?k12⟩ ⟨?a13, ?l13, ?c13, ?k13⟩ ⟨?a14, ?l14, ?c14, ?k14⟩ ⟨?a15, ?l15, ?c15, ?k15⟩ ⟨?a16, ?l16, ?c16, ?k16⟩ ⟨?a17, ?l17, ?c17, ?k17⟩ ⟨?a18, ?l18, ?c18, ?k18⟩ ⟨?a19, ?l19, ?c19, ?k19⟩ ⟨?a20, ?l20, ?c20, ?k20⟩ ⟨?a21, ?l21, ?c21, ?k21⟩ ?z_int ?z_max ?z_min ?z_range ?z_reversed ?z_len ?z_list ?z_tuple ?z_str ?z_dict ?z_bool ?z_isinstance ?z_all ?z_any ?z_sorted ?z_set ?z_repr ?z_enumerate ?z_iter ?c_LETTERS ?c_LETTERS_AND_DIGITS ?c_MOST_SIGNS
    (case a0 => k_is); (case l0 => k_is); (case c0 => k_is); (case k0 => k_is)
    (case a1 => k_is); (case l1 => k_is); (case c1 => k_is); (case k1 => k_is)
    (case a2 => k_is); (case l2 => k_is); (case c2 => k_is); (case k2 => k_is)
    (case a3 => k_is); (case l3 => k_is); (case c3 => k_is); (case k3 => k_is)
    (case a4 => k_is); (case l4 => k_is); (case c4 => k_is); (case k4 => k_is)
    (case a5 => k_is); (case l5 => k_is); (case c5 => k_is); (case k5 => k_is)
    (case a6 => k_is); (case l6 => k_is); (case c6 => k_is); (case k6 => k_is)
    (case a7 => k_is); (case l7 => k_is); (case c7 => k_is); (case k7 => k_is)
    (case a8 => k_is); (case l8 => k_is); (case c8 => k_is); (case k8 => k_is)
    (case a9 => k_is); (case l9 => k_is); (case c9 => k_is); (case k9 => k_is)
    (case a10 => k_is); (case l10 => k_is); (case c10 => k_is); (case k10 => k_is)
    (case a11 => k_is); (case l11 => k_is); (case c11 => k_is); (case k11 => k_is)
    (case a12 => k_is); (case l12 => k_is); (case c12 => k_is); (case k12 => k_is)
    (case a13 => k_is); (case l13 => k_is); (case c13 => k_is); (case k13 => k_is)
    (case a14 => k_is); (case l14 => k_is); (case c14 => k_is); (case k14 => k_is)
    (case a15 => k_is); (case l15 => k_is); (case c15 => k_is); (case k15 => k_is)
    (case a16 => k_is); (case l16 => k_is); (case c16 => k_is); (case k16 => k_is)
    (case a17 => k_is); (case l17 => k_is); (case c17 => k_is); (case k17 => k_is)
    (case a18 => k_is); (case l18 => k_is); (case c18 => k_is); (case k18 => k_is)
    (case a19 => k_is); (case l19 => k_is); (case c19 => k_is); (case k19 => k_is)
    (case a20 => k_is); (case l20 => k_is); (case c20 => k_is); (case k20 => k_is)
    (case a21 => k_is); (case l21 => k_is); (case c21 => k_is); (case k21 => k_is)
    (case z_int => k_is)
    (case z_max => k_is)
    (case z_min => k_is)
    (case z_range => k_is)
    (case z_reversed => k_is)
    (case z_len => k_is)
    (case z_list => k_is)
    (case z_tuple => k_is)
    (case z_str => k_is)
    (case z_dict => k_is)
    (case z_bool => k_is)
    (case z_isinstance => k_is)
    (case z_all => k_is)
    (case z_any => k_is)
    (case z_sorted => k_is)
    (case z_set => k_is)
    (case z_repr => k_is)
    (case z_enumerate => k_is)
    (case z_iter => k_is)
    (case c_LETTERS => k_is)
    (case c_LETTERS_AND_DIGITS => k_is)
    (case c_MOST_SIGNS => k_is)

