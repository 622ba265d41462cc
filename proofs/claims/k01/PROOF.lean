import PyProof.Rows.All
import Wide.All
import OpenK.AllK
import Wide.FinOn
import HandS.ForMost
import HandS.IsInst
import HandS.Wide
import HandS.SetKeys
import HandS.SortInts
import HandS.Set
import HandS.Strs
import HandS.StrMore
import HandS.RevRange
import HandS.Flow
import HandS.Evl
import PyProof.Rows.SetFrom
import PySem.Challenge.RW_markshome_k01_texts_ascending
set_option Elab.async false
set_option linter.all false
set_option maxRecDepth 100000
namespace K1
open PySem PySem.Spec PyProof.Rows L2
def topS (i : Nat) : Stmt := PySem.Challenge.pw_markshome_k01_texts_ascending.main.body.getD i (.Pass ⟨0, 0, 0, 0⟩)

/-- a def of the text: where it stands, how it binds, its name in the module -/
structure Df (K : PySem.W.Frag) (mg : Str → Option Value) (x : Str) (st : Stmt) (ps : List Str) (f : Addr) (fd : FuncData) : Prop where
  F : Fun K x x st f fd
  b : Binds K fd ps []
  g : mg x = some (.ref f)
/-- built-ins that the module does not name -/
structure Tb (mg : Str → Option Value) : Prop where
  m_int : mg "int" = none
  m_max : mg "max" = none
  m_min : mg "min" = none
  m_range : mg "range" = none
  m_reversed : mg "reversed" = none
  m_len : mg "len" = none
  m_list : mg "list" = none
  m_tuple : mg "tuple" = none
  m_str : mg "str" = none
  m_dict : mg "dict" = none
  m_bool : mg "bool" = none
  m_isinstance : mg "isinstance" = none
  m_all : mg "all" = none
  m_any : mg "any" = none
  m_sorted : mg "sorted" = none
  m_set : mg "set" = none
  m_repr : mg "repr" = none

/-! ### heaps: all but what stands at a is as it was -/
def Bt (a : Addr) (H H' : Hp) : Prop := ∀ b o, b ≠ a → H b = some o → H' b = some o
theorem Bt.refl (a : Addr) (H : Hp) : Bt a H H := fun _ _ _ h => h
theorem Bt.trans {a : Addr} {H H1 H2 : Hp} (x : Bt a H H1) (y : Bt a H1 H2) : Bt a H H2 := fun b o n h => y b o n (x b o n h)
theorem Bt.new {a p : Addr} {H : Hp} {o : HO} (h : H p = none) : Bt a H (upd H p o) := fun b u _ e => by
  rw [upd_ne (ne_of_none e h)]
  exact e
theorem Bt.at {a : Addr} {H : Hp} {o : HO} : Bt a H (upd H a o) := fun b u n e => by
  rw [upd_ne n]
  exact e
theorem Bt.ofSame {a : Addr} {H H' : Hp} (h : Same H H') : Bt a H H' := fun b o _ e => h b o e
theorem Bt.seq {a l : Addr} {K : PySem.W.Frag} {H H' : Hp} {xs : List V} (e : Bt a H H') (n : l ≠ a) (h : SqL K H l xs) : SqL K H' l xs := by
  rcases h with (h | ⟨o, h⟩) | h
  · exact .inl (.inl (e _ _ n h))
  · exact .inl (.inr ⟨o, e _ _ n h⟩)
  · exact .inr h

/-! ### the store of the law: [cells, place, state, count, held, left] -/
def stO (c : Addr) (p st ct hd lf : Int) : HO := .lst [.ref c, .int p, .int st, .int ct, .int hd, .int lf]
/-- a store at a, its cells at cc -/
def Sto (a cc : Addr) (H : Hp) : Prop := ∃ p st ct hd lf, H a = some (stO cc p st ct hd lf) ∧ cc ≠ a ∧ 0 ≤ p ∧ ∃ ns : List Int, H cc = some (.lst (ns.map V.int))
theorem Sto.keep {a cc : Addr} {H H' : Hp} (h : Sto a cc H) (k : Bt a H H') (k2 : ∀ o, H a = some o → H' a = some o) : Sto a cc H' := by
  obtain ⟨p, st, ct, hd, lf, h1, h2, h3, ns, h4⟩ := h
  exact ⟨p, st, ct, hd, lf, k2 _ h1, h2, h3, ns, k _ _ h2 h4⟩
theorem Sto.at {a cc : Addr} {H : Hp} (h : Sto a cc H) : ∃ o, H a = some o := by
  obtain ⟨p, st, ct, hd, lf, hA, _⟩ := h
  exact ⟨_, hA⟩
theorem Sto.ne {a cc p : Addr} {H : Hp} (h : Sto a cc H) (hp : H p = none) : p ≠ a := fun e => by
  obtain ⟨o, ho⟩ := h.at
  rw [← e, hp] at ho; cases ho
theorem Sto.nc {a cc p : Addr} {H : Hp} (h : Sto a cc H) (hp : H p = none) : p ≠ cc := fun e => by
  obtain ⟨q, st, ct, hd, lf, hA, _, _, ns, hc⟩ := h
  rw [← e, hp] at hc; cases hc
theorem Sto.new {a cc p : Addr} {H : Hp} {o : HO} (h : Sto a cc H) (hp : H p = none) : Sto a cc (upd H p o) :=
  h.keep (Bt.new hp) fun u e => by rw [upd_ne (h.ne hp).symm]; exact e
/-- a thing changed that was not there at first -/
theorem Sto.put {a cc p : Addr} {H H' : Hp} {o : HO} (h : Sto a cc H') (h0 : Sto a cc H) (hp : H p = none) : Sto a cc (upd H' p o) := by
  have n1 := h0.ne hp
  have n2 := h0.nc hp
  obtain ⟨q, st, ct, hd, lf, h1, h2, h3, ns, h4⟩ := h
  exact ⟨q, st, ct, hd, lf, by rw [upd_ne n1.symm]; exact h1, h2, h3, ns, by rw [upd_ne n2.symm]; exact h4⟩
theorem Bt.put {a p : Addr} {H H' : Hp} {o : HO} (h : Bt a H H') (hp : H p = none) : Bt a H (upd H' p o) := fun b u n e => by
  rw [upd_ne (ne_of_none e hp)]
  exact h b u n e
/-- what is not there behind was not there -/
theorem Bt.free {a p : Addr} {H H' : Hp} (h : Bt a H H') (n : p ≠ a) (e : H' p = none) : H p = none := by
  cases q : H p with
  | none => rfl
  | some o => rw [h p o n q] at e; cases e
section
theorem szl {n : Nat} (h : n ≤ 1000000) : n ≤ sizeLine := Nat.le_trans h (by decide)
theorem szt {n : Nat} (h : n ≤ 1000000) : n < sizeLine := Nat.lt_of_le_of_lt h (by decide)
theorem log_small {i : Int} (h0 : 0 ≤ i) (h1 : i < 1000000000000) : i.natAbs.log2 < 1920 := PySem.Flt.log2_lt_of (by decide) (Nat.lt_of_lt_of_le (by omega : i.natAbs < 2 ^ 60) (Nat.pow_le_pow_right (by decide) (by decide)))
theorem flat_str (ys : List Str) : (ys.map V.str).all flatV = true := by
  induction ys with
  | nil => rfl
  | cons y ys ih => rw [List.map_cons, List.all_cons, ih]; rfl
theorem num_len {i : Int} (h0 : 0 ≤ i) (h1 : i < 10 ^ 10) : (Str.ofString (toString i)).length ≤ 10 := toString_length_le h0 (by decide) h1
theorem str_len (z : Str) : z.cps.toList.length = z.length := Array.length_toList
theorem one_len (c : Nat) : (⟨#[c]⟩ : Str).length = 1 := rfl
theorem app_len (x y : Str) : (x ++ y).length = x.length + y.length := by
  rw [← str_len, ← str_len, ← str_len, Str.cps_append, Array.toList_append, List.length_append]
theorem atI_in {α : Type} {xs : List α} {r : Int} (h0 : 0 ≤ r) (h1 : r < xs.length) : ∃ x, atI xs r = some x ∧ x ∈ xs := by
  have e : r = ((r.toNat : Nat) : Int) := by omega
  have hl : r.toNat < xs.length := by omega
  generalize r.toNat = n at e hl
  subst e
  exact ⟨xs[n], atI_nat (List.getElem?_eq_getElem hl), List.getElem_mem _⟩
theorem atI_z {α : Type} {xs : List α} {j : Nat} {v : α} (h : xs[j]? = some v) : atI xs (0 + (j : Int)) = some v := by
  rw [Int.zero_add]; exact atI_nat h
theorem atI_s {α : Type} {xs : List α} {j : Nat} {v : α} (h : xs[j + 1]? = some v) : atI xs (0 + (j : Int) + 1) = some v := by
  rw [Int.zero_add]; exact atI_nat (j := j + 1) h
theorem get_map {α β : Type} (f : α → β) {l : List α} {i : Nat} {x : α} (h : l[i]? = some x) : (l.map f)[i]? = some (f x) := by
  rw [List.getElem?_map, h]; rfl
/-! ### rules that speak of the written part, with it named (for the inside of a comprehension) -/
section
variable {X : Cx} {K : PySem.W.Frag}
theorem k_slT (h : X.K = K) : SlR X (rSlT K) := h ▸ sl_tup
theorem k_slL (h : X.K = K) : SlR X (rSlL K) := h ▸ sl_list
theorem k_ixT (h : X.K = K) : IxR X (rIxT K) := h ▸ ix_tup
theorem k_ixL (h : X.K = K) : IxR X (rIxL K) := h ▸ ix_list
theorem k_ix (h : X.K = K) : IxR X (rIx K) := h ▸ ix_seq
theorem k_len (h : X.K = K) : CallR X (.builtin "len") (fun xs H Q => ∃ p ys, xs = [.ref p] ∧ (SqL K H p ys ∨ SqT K H p ys) ∧ Q (.int ys.length) H) := h ▸ call_len_seq
theorem k_list (h : X.K = K) : CallR X (.type "list") (fun xs H Q => ∃ p ys, xs = [.ref p] ∧ (SqL K H p ys ∨ SqT K H p ys) ∧ ∀ l, H l = none → Q (.ref l) (upd H l (.lst ys))) := h ▸ call_list_of
theorem k_tuple (h : X.K = K) : CallR X (.type "tuple") (fun xs H Q => ∃ p ys, xs = [.ref p] ∧ ((SqL K H p ys ∧ ∀ l, H l = none → Q (.ref l) (upd H l (.tup ys))) ∨ (SqT K H p ys ∧ Q (.ref p) H))) := h ▸ call_tuple_of
theorem k_isi (h : X.K = K) : CallR X (.builtin "isinstance") (rIsi K) := h ▸ call_isi
theorem k_isiT (h : X.K = K) : CallR X (.builtin "isinstance") (rIsiT K) := h ▸ call_isiT
theorem k_all (h : X.K = K) (hc : X.calm = true) : CallR X (.builtin "all") (rAll K) := h ▸ cr_all hc
theorem k_any (h : X.K = K) (hc : X.calm = true) : CallR X (.builtin "any") (rAny K) := h ▸ cr_any hc
theorem k_in (h : X.K = K) : OpR X (compareOp .In) (rIn K false) := h ▸ op_in_seq
theorem k_notIn (h : X.K = K) : OpR X (compareOp .NotIn) (rIn K true) := h ▸ op_notIn_seq
theorem k_eqD (h : X.K = K) (hu : X.A.units + 64 < cLine) : OpR X (compareOp .Eq) (rEqD K) := h ▸ op_eqD hu
theorem k_neD (h : X.K = K) (hu : X.A.units + 64 < cLine) : OpR X (compareOp .NotEq) (rNeD K) := h ▸ op_neD hu
end
theorem isi_ok {K : PySem.W.Frag} {H : Hp} {x : V} {t n : String} {r : Bool} {Q : VK} (ty : TyX K H x (.type t)) (h : kitB t n = some r) (q : Q (.bl r) H) : rIsi K [x, .ty n] H Q := ⟨_, _, _, _, _, rfl, .ty _, ty, kit_ty h, q⟩
theorem isiT_ok2 {K : PySem.W.Frag} {H : Hp} {x : V} {p : Addr} {t m n : String} {r1 r2 : Bool} {Q : VK} (hp : H p = some (.tup [.ty m, .ty n])) (ty : TyX K H x (.type t)) (h1 : kitB t m = some r1) (h2 : kitB t n = some r2) (q : Q (.bl (r1 || r2)) H) : rIsiT K [x, .ref p] H Q :=
  ⟨_, _, _, _, _, _, rfl, hp, .cons (.ty _) (.cons (.ty _) .nil), ty, kitAny_cons (kit_ty h1) (fun e => kitAny_cons (r := r1 || r2) (kit_ty h2) (fun e2 => by rw [e, e2]; exact kitAny_nil) (fun e2 => by rw [e2, Bool.or_true])) (fun e => by rw [e, Bool.true_or]), q⟩
theorem if_true {A B : Prop} (h : A) : if true = true then A else B := iteT h
/-! ### tests -/
theorem if_d {p A B : Prop} [Decidable p] (h1 : p → A) (h2 : ¬ p → B) : if decide p = true then A else B := by
  by_cases c : p
  · rw [decide_eq_true c]; exact iteT (h1 c)
  · rw [decide_eq_false c]; exact iteF (h2 c)
theorem if_I {a b : Int} {A B : Prop} (h1 : a = b → A) (h2 : a ≠ b → B) : if decide (V.int a = V.int b) = true then A else B :=
  if_d (fun c => h1 (V.int.inj c)) fun c => h2 fun e => c (congrArg V.int e)
theorem if_S {a b : Str} {A B : Prop} (h1 : a = b → A) (h2 : a ≠ b → B) : if decide (V.str a = V.str b) = true then A else B :=
  if_d (fun c => h1 (V.str.inj c)) fun c => h2 fun e => c (congrArg V.str e)
theorem if_n {b : Bool} {A B : Prop} (h : if b = true then B else A) : if (!b) = true then A else B := by
  cases b with
  | true => exact iteF (by rw [if_pos rfl] at h; exact h)
  | false => exact iteT (by rw [if_neg Bool.false_ne_true] at h; exact h)
theorem if_b {b : Bool} {A B : Prop} (h1 : b = true → A) (h2 : b = false → B) : if b = true then A else B := by
  cases b with
  | true => exact iteT (h1 rfl)
  | false => exact iteF (h2 rfl)
end
end K1

namespace K1
open PySem PySem.Spec PyProof.Rows L2
/-! the steps of a reading -/
local macro_rules | `(tactic| walk_at "side") => `(tactic| first | rfl | decide | omega | assumption | exact flat_str _ | exact log_small (by omega) (by omega) | exact szl (by first | omega | assumption | (simp only [app_len, one_len]; omega)) | exact ⟨by decide, by decide, by decide⟩ | exact .inl ⟨Int.lt_of_lt_of_le (by decide : (-(2 ^ 64) : Int) < 0) (Int.fmod_nonneg_of_pos _ (by decide)), Int.lt_trans (Int.fmod_lt_of_pos _ (by decide)) (by decide)⟩ | exact .inr ⟨by decide, by decide⟩ | exact .inl ⟨by decide, by decide⟩ | (refine .inl ⟨?_, ?_⟩ <;> omega) | (refine .inr ⟨?_, ?_⟩ <;> omega))
local macro_rules | `(tactic| walk_at "at1") => `(tactic| first | assumption | exact upd_same | exact .inl (.inl upd_same) | exact .inl (.inl (by assumption)))
local macro_rules | `(tactic| walk_at "rd1") => `(tactic| first
  | refine ⟨_, rfl, ?_⟩
  | refine .inl ⟨_, rfl, ?_⟩
  | refine .inr ⟨_, rfl, ?_⟩
  | refine ⟨_, _, rfl, rfl, ?_⟩
  | refine ⟨_, _, rfl, ?_⟩
  | refine And.intro (by walk_at "side") ?_
  | refine ⟨_, _, _, _, rfl, rfl, .inl (.inl upd_same), rfl, ?_⟩
  | refine ⟨_, _, _, _, rfl, rfl, upd_same, rfl, ?_⟩
  | refine ⟨_, _, rfl, .inl (.inl (.inl upd_same)), ?_⟩
  | (refine' ⟨_, _, _, _, rfl, rfl, ?h, ?ca, ?k⟩; (case h => walk_at "at1"); (case ca => rfl))
  | (refine' ⟨_, _, rfl, .inl ?h, ?k⟩; (case h => walk_at "at1"))
  | refine ⟨_, _, _, rfl, ?_⟩
  | refine ⟨_, (by assumption : Sto _ _ _), ?_⟩
  | refine ⟨_, Sto.new (by assumption) (by assumption), ?_⟩
  | refine isi_ok (r := true) (.base (.str _)) (by decide +kernel) ?_
  | refine isi_ok (r := false) (.base (.str _)) (by decide +kernel) ?_
  | refine isi_ok (r := true) (.base (.int _)) (by decide +kernel) ?_
  | refine isi_ok (r := false) (.base (.int _)) (by decide +kernel) ?_
  | refine isi_ok (r := true) (.base (.lst (by assumption))) (by decide +kernel) ?_
  | refine isi_ok (r := false) (.base (.lst (by assumption))) (by decide +kernel) ?_
  | fail)
local macro_rules | `(tactic| walk_at "rd") => `(tactic| repeat walk_at "rd1")

section
variable {P : Program} {w : World} {K : PySem.W.Frag} {mg : Str → Option Value} {base : Heap}
/-! ### _law_mixed -/
abbrev s__law_mixed : Stmt := topS 9
abbrev N__law_mixed : List Str := ["state", "turn", "many", "number", "k", "first", "second", "third"]
theorem sc__law_mixed : FnScope N__law_mixed ["state", "turn", "many"] (defScope s__law_mixed) := ⟨rfl, rfl, rfl, by decide +kernel, rfl, by decide +kernel, by decide +kernel⟩
def sp__law_mixed (_ : PySem.W.Frag) : Sp := fun vs H Q _ => ∃ st tn many : Int, vs = [.int st, .int tn, .int many] ∧ ∀ r : Int, 0 ≤ r → r < max 1 many → Q (.int r) H
theorem fm_lo {a b : Int} (h : 0 < b) : 0 ≤ a.fmod b := Int.fmod_nonneg_of_pos a h
theorem fm_hi {a b : Int} (h : 0 < b) : a.fmod b < b := Int.fmod_lt_of_pos a h
theorem ok__law_mixed {f__law_mixed : Addr} {fd__law_mixed : FuncData} (T : Tb mg) (D__law_mixed : Df K mg "_law_mixed" s__law_mixed ["state", "turn", "many"] f__law_mixed fd__law_mixed)  : FnOk P w K mg base CX0 1 f__law_mixed fd__law_mixed ["state", "turn", "many"] (sp__law_mixed K) := by
  refine D__law_mixed.F.ok sc__law_mixed (fun vs H Q E h => ?_) (fun cdv A outer s H vs Q E hr h => ?_)
  · obtain ⟨st, tn, many, rfl, _⟩ := h
    rfl
  · obtain ⟨st, tn, many, rfl, q⟩ := h
    refine ⟨_, (pss_cons (ps_set (i := 3) sc__law_mixed.nd rfl (.inl rfl) pe_int)
  (pss_cons (ps_for PassesOwn.never rfl (pi_range1 (by rfl) T.m_range (pa_cons (pe_op op_add pe_int (pe_op op_mul pe_int (pe_callTy call_int1 (by rfl) T.m_int (by decide +kernel) (pa_cons (pe_cmpR op_gt (pv 2) (pe_op op_pow pe_int pe_int) (nomark _)) pa_nil)))) pa_nil)) (pg_name (i := 4) sc__law_mixed.nd rfl (.inl rfl))
   (pss_cons (ps_set (i := 5) sc__law_mixed.nd rfl (.inl rfl) (pe_op op_modN (pe_callTy call_int1 (by rfl) T.m_int (by decide +kernel) (pa_cons (pe_op op_add (pe_op op_add (pe_op op_add (pe_op op_mul (pv 0) pe_int) (pe_op op_mul (pv 1) pe_int)) (pe_op op_mul (pv 4) pe_int)) pe_int) pa_nil)) pe_int))
  (pss_cons (ps_set (i := 6) sc__law_mixed.nd rfl (.inl rfl) (pe_op op_modN (pe_callTy call_int1 (by rfl) T.m_int (by decide +kernel) (pa_cons (pe_op op_add (pe_op op_add (pe_op op_mul (pv 5) (pv 5)) (pe_op op_mul (pv 1) pe_int)) pe_int) pa_nil)) pe_int))
  (pss_cons (ps_set (i := 7) sc__law_mixed.nd rfl (.inl rfl) (pe_op op_modN (pe_callTy call_int1 (by rfl) T.m_int (by decide +kernel) (pa_cons (pe_op op_add (pe_op op_mul (pv 6) (pe_op op_add (pv 6) pe_int)) (pv 5)) pa_nil)) pe_int))
  (pss_one (ps_set (i := 3) sc__law_mixed.nd rfl (.inl rfl) (pe_op op_add (pe_op op_mul (pv 3) pe_int) (pv 7))))))))
  (pss_one (ps_ret (pe_op op_modN (pe_callTy call_int1 (by rfl) T.m_int (by decide +kernel) (pa_cons (pv 3) pa_nil)) (pe_callB (call_max2 rfl) (by rfl) T.m_max (by decide +kernel) (pa_cons pe_int (pa_cons (pv 2) pa_nil)))))))), ?_⟩
    refine ⟨_, rfl, _, _, rfl, rfl, ⟨by decide, by decide, by decide⟩, _, _, rfl, rfl, .inr ⟨_, rfl, ?_⟩⟩
    refine ⟨_, _, rfl, rfl, .inl ⟨by decide, by decide⟩, _, _, rfl, rfl, _, rfl, ?_, ?_, ?_⟩
    · split <;> decide
    · split <;> decide
    refine for_range (lo := 0) (fun i σ H' => H' = H ∧ ∃ (n : Int) (x4 x5 x6 x7 : Option V), σ = [some (.int st), some (.int tn), some (.int many), some (.int n), x4, x5, x6, x7]) ⟨rfl, 0, none, none, none, none, rfl⟩ ?_ ?_
    · rintro i σ H' hi ⟨rfl, n, x4, x5, x6, x7, rfl⟩
      walk_at "rd"
      exact ⟨_, _, _, _, _, rfl⟩
    · rintro σ H' ⟨rfl, n, x4, x5, x6, x7, rfl⟩
      walk_at "rd"
      have e : (if many > 1 then many else 1) = max 1 many := by split <;> omega
      rw [e]
      exact q _ (fm_lo (by omega)) (fm_hi (by omega))
end
end K1

namespace K1
open PySem PySem.Spec PyProof.Rows L2
/-! the steps of a reading -/
local macro_rules | `(tactic| walk_at "side") => `(tactic| first | rfl | decide | omega | assumption | exact flat_str _ | exact log_small (by omega) (by omega) | exact szl (by first | omega | assumption | (simp only [app_len, one_len]; omega)) | exact ⟨by decide, by decide, by decide⟩ | exact .inl ⟨Int.lt_of_lt_of_le (by decide : (-(2 ^ 64) : Int) < 0) (Int.fmod_nonneg_of_pos _ (by decide)), Int.lt_trans (Int.fmod_lt_of_pos _ (by decide)) (by decide)⟩ | exact .inr ⟨by decide, by decide⟩ | exact .inl ⟨by decide, by decide⟩ | (refine .inl ⟨?_, ?_⟩ <;> omega) | (refine .inr ⟨?_, ?_⟩ <;> omega))
local macro_rules | `(tactic| walk_at "at1") => `(tactic| first | assumption | exact upd_same | exact .inl (.inl upd_same) | exact .inl (.inl (by assumption)))
local macro_rules | `(tactic| walk_at "rd1") => `(tactic| first
  | refine ⟨_, rfl, ?_⟩
  | refine .inl ⟨_, rfl, ?_⟩
  | refine .inr ⟨_, rfl, ?_⟩
  | refine ⟨_, _, rfl, rfl, ?_⟩
  | refine ⟨_, _, rfl, ?_⟩
  | refine And.intro (by walk_at "side") ?_
  | refine ⟨_, _, _, _, rfl, rfl, .inl (.inl upd_same), rfl, ?_⟩
  | refine ⟨_, _, _, _, rfl, rfl, upd_same, rfl, ?_⟩
  | refine ⟨_, _, rfl, .inl (.inl (.inl upd_same)), ?_⟩
  | (refine' ⟨_, _, _, _, rfl, rfl, ?h, ?ca, ?k⟩; (case h => walk_at "at1"); (case ca => rfl))
  | (refine' ⟨_, _, rfl, .inl ?h, ?k⟩; (case h => walk_at "at1"))
  | refine ⟨_, _, _, rfl, ?_⟩
  | refine ⟨_, (by assumption : Sto _ _ _), ?_⟩
  | refine ⟨_, Sto.new (by assumption) (by assumption), ?_⟩
  | refine isi_ok (r := true) (.base (.str _)) (by decide +kernel) ?_
  | refine isi_ok (r := false) (.base (.str _)) (by decide +kernel) ?_
  | refine isi_ok (r := true) (.base (.int _)) (by decide +kernel) ?_
  | refine isi_ok (r := false) (.base (.int _)) (by decide +kernel) ?_
  | refine isi_ok (r := true) (.base (.lst (by assumption))) (by decide +kernel) ?_
  | refine isi_ok (r := false) (.base (.lst (by assumption))) (by decide +kernel) ?_
  | fail)
local macro_rules | `(tactic| walk_at "rd") => `(tactic| repeat walk_at "rd1")

section
variable {P : Program} {w : World} {K : PySem.W.Frag} {mg : Str → Option Value} {base : Heap}
/-! ### _law_store -/
abbrev s__law_store : Stmt := topS 10
abbrev N__law_store : List Str := ["script", "state", "cell"]
theorem sc__law_store : FnScope N__law_store ["script"] (defScope s__law_store) := ⟨rfl, rfl, rfl, by decide +kernel, rfl, by decide +kernel, by decide +kernel⟩
def sp__law_store (K : PySem.W.Frag) : Sp := fun vs H Q _ => ∃ (s : Addr) (ns : List Int), vs = [.ref s] ∧ SqL K H s (ns.map V.int) ∧ ns.length ≤ 63 ∧ ∀ a cc H', Same H H' → H a = none → H cc = none → Sto a cc H' → Q (.ref a) H'
theorem map_at {α β : Type} (f : α → β) {l : List α} {i : Nat} {y : β} (h : (l.map f)[i]? = some y) : ∃ x, l[i]? = some x ∧ y = f x := by
  rw [List.getElem?_map] at h
  cases e : l[i]? with
  | none => rw [e] at h; cases h
  | some x => rw [e] at h; exact ⟨x, rfl, (Option.some.inj h).symm⟩
theorem same_upd {H : Hp} {p : Addr} {o : HO} (h : H p = none) : Same H (upd H p o) := fun b x e => by
  rw [upd_ne (ne_of_none e h)]
  exact e
theorem same_app {H H' : Hp} {D : Addr} {o : HO} (e : Same H H') (h : H D = none) : Same H (upd H' D o) := fun b x q => by
  rw [upd_ne (ne_of_none q h)]
  exact e b x q
theorem take_map {α β : Type} (f : α → β) {l : List α} {i : Nat} {x : α} (h : l[i]? = some x) : (l.take (i + 1)).map f = (l.take i).map f ++ [f x] := by
  rw [List.take_add_one, h, List.map_append]
  rfl
theorem ok__law_store {f__law_store : Addr} {fd__law_store : FuncData} {f__law_mixed : Addr} {fd__law_mixed : FuncData} (T : Tb mg) (D__law_store : Df K mg "_law_store" s__law_store ["script"] f__law_store fd__law_store) (D__law_mixed : Df K mg "_law_mixed" s__law_mixed ["state", "turn", "many"] f__law_mixed fd__law_mixed) (G__law_mixed : FnOk P w K mg base CX0 1 f__law_mixed fd__law_mixed ["state", "turn", "many"] (sp__law_mixed K)) : FnOk P w K mg base CX0 2 f__law_store fd__law_store ["script"] (sp__law_store K) := by
  refine D__law_store.F.ok sc__law_store (fun vs H Q E h => ?_) (fun cdv A outer s H vs Q E hr h => ?_)
  · obtain ⟨s, ns, rfl, _⟩ := h
    rfl
  · obtain ⟨s, ns, rfl, hS, hl, q⟩ := h
    refine ⟨_, (pss_cons (ps_set (i := 1) sc__law_store.nd rfl (.inl rfl) pe_int)
  (pss_cons (ps_for PassesOwn.never rfl (pi_list (pv 0)) (pg_name (i := 2) sc__law_store.nd rfl (.inl rfl))
   (pss_one (ps_set (i := 1) sc__law_store.nd rfl (.inl rfl) (pe_call G__law_mixed (hr.mono (by decide)) (by rfl) D__law_mixed.g D__law_mixed.F.kp D__law_mixed.b .nil pass0 (pa_cons (pe_op op_add (pv 1) (pe_op op_modN (pe_callTy call_int1 (by rfl) T.m_int (by decide +kernel) (pa_cons (pv 2) pa_nil)) pe_int)) (pa_cons pe_int (pa_cons pe_int pa_nil)))))))
  (pss_one (ps_ret (pe_lst (pa_cons (pe_lc (own := [("cell", 2)]) (g := gName 2) (tt := tYes) rfl sc__law_store.nd (pi_list (pv 0)) (blkOk_by (N := N__law_store) (sc := defScope s__law_store) (by decide +kernel))
    (fun _ _ _ _ _ => (pg_name (i := 2) sc__law_store.nd rfl (Or.inl rfl))) (fun _ _ _ _ _ => pts_nil) (fun _ _ _ _ _ => (pe_callTy call_int1 (by rfl) T.m_int (by decide +kernel) (pa_cons (pv 2) pa_nil)))) (pa_cons pe_int (pa_cons (pv 1) (pa_cons pe_int (pa_cons pe_int (pa_cons pe_int pa_nil))))))))))), ?_⟩
    refine ⟨.ref s, rfl, s, rfl, ⟨_, hS⟩, ?_⟩
    refine for_list (K := K) (xs := ns.map V.int) (fun i σ H' => H' = H ∧ ∃ (n : Int) (x : Option V), σ = [some (.ref s), some (.int n), x]) ⟨rfl, _, _, rfl⟩ (fun i σ H' _ h => by rw [h.1]; exact hS) ?_ ?_
    · rintro i x σ H' hx ⟨rfl, n, x2, rfl⟩
      obtain ⟨v, hv, rfl⟩ := map_at _ hx
      walk_at "rd"
      intro r h0 h1
      exact ⟨rfl, _, _, rfl⟩
    · rintro σ H' ⟨rfl, n, x2, rfl⟩
      refine ⟨.ref s, rfl, s, rfl, ⟨_, hS⟩, fun D hD => lc_list (K := K) (a := s) (xs := ns.map V.int) (fun i H2 => Same H' H2 ∧ H2 D = some (.lst ((ns.take i).map V.int)))
        ⟨same_upd hD, upd_same⟩ (fun i H2 _ h => h.1.seq hS) ?_ ?_⟩
      · rintro i x H2 hx ⟨sm, hd⟩
        obtain ⟨v, hv, rfl⟩ := map_at _ hx
        refine ⟨rfl, ?_⟩
        walk_at "rd"
        have h63 : ((ns.take i).map V.int).length < sizeLine := by
          rw [List.length_map, List.length_take]
          exact Nat.lt_of_le_of_lt (Nat.min_le_right _ _) (small1000 (by omega))
        refine ⟨_, hd, h63, same_app sm hD, ?_⟩
        rw [upd_same, take_map _ hv]
      · rintro H2 ⟨sm, hd⟩
        rw [List.length_map, List.take_length] at hd
        walk_at "rd"
        refine ⟨by show 6 ≤ sizeLine; decide, fun p hp => ?_⟩
        exact q p D _ (fun b o e => same_upd hp b o (sm b o e)) (sm.free hp) hD ⟨0, n, 0, 0, 0, upd_same, ne_of_none hd hp, Int.le_refl _, ns, by rw [upd_ne (ne_of_none hd hp)]; exact hd⟩
/-! ### _law_advance -/
abbrev s__law_advance : Stmt := topS 11
abbrev N__law_advance : List Str := ["store", "cells", "place", "cell"]
theorem sc__law_advance : FnScope N__law_advance ["store"] (defScope s__law_advance) := ⟨rfl, rfl, rfl, by decide +kernel, rfl, by decide +kernel, by decide +kernel⟩
def sp__law_advance (_ : PySem.W.Frag) : Sp := fun vs H Q _ => ∃ a : Addr, vs = [.ref a] ∧ ∃ cc, Sto a cc H ∧ ∀ H', Bt a H H' → Sto a cc H' → Q .non H'
theorem bt_at {a : Addr} {H H1 : Hp} {o : HO} (h : Bt a H H1) : Bt a H (upd H1 a o) := h.trans Bt.at
theorem sto_end {a cc : Addr} {H H' : Hp} {p st ct hd lf : Int} {ns : List Int} (hne : cc ≠ a) (hp : 0 ≤ p) (hc : H cc = some (.lst (ns.map V.int))) (b : Bt a H H') (e : H' a = some (stO cc p st ct hd lf)) : Sto a cc H' :=
  ⟨p, st, ct, hd, lf, e, hne, hp, ns, b _ _ hne hc⟩
theorem ok__law_advance {f__law_advance : Addr} {fd__law_advance : FuncData} {f__law_mixed : Addr} {fd__law_mixed : FuncData} (T : Tb mg) (D__law_advance : Df K mg "_law_advance" s__law_advance ["store"] f__law_advance fd__law_advance) (D__law_mixed : Df K mg "_law_mixed" s__law_mixed ["state", "turn", "many"] f__law_mixed fd__law_mixed) (G__law_mixed : FnOk P w K mg base CX0 1 f__law_mixed fd__law_mixed ["state", "turn", "many"] (sp__law_mixed K)) : FnOk P w K mg base CX0 2 f__law_advance fd__law_advance ["store"] (sp__law_advance K) := by
  refine D__law_advance.F.ok sc__law_advance (fun vs H Q E h => ?_) (fun cdv A outer s H vs Q E hr h => ?_)
  · obtain ⟨a, rfl, _⟩ := h
    rfl
  · obtain ⟨a, rfl, cc, ⟨p, st, ct, hd, lf, hA, hne, hp, ns, hc⟩, q⟩ := h
    refine ⟨_, (pss_cons (ps_set (i := 1) sc__law_advance.nd rfl (.inl rfl) (pe_ix ix_list (pv 0) pe_int (fun _ _ => rfl)))
  (pss_cons (ps_set (i := 2) sc__law_advance.nd rfl (.inl rfl) (pe_ix ix_list (pv 0) pe_int (fun _ _ => rfl)))
  (pss_one (ps_if (pt_cmpR op_lt (pv 2) (pe_callB call_len_seq (by rfl) T.m_len (by decide +kernel) (pa_cons (pv 1) pa_nil)) (nomark _))
   (pss_cons (ps_set (i := 3) sc__law_advance.nd rfl (.inl rfl) (pe_ix ix_list (pv 1) (pv 2) (fun _ _ => rfl)))
  (pss_cons (ps_asg (pe_op op_add (pv 2) pe_int) (pg_sub (pv 0) pe_int set_list))
  (pss_cons (ps_asg (pe_call G__law_mixed (hr.mono (by decide)) (by rfl) D__law_mixed.g D__law_mixed.F.kp D__law_mixed.b .nil pass0 (pa_cons (pe_op op_add (pe_ix ix_list (pv 0) pe_int (fun _ _ => rfl)) (pe_op op_modN (pe_callTy call_int1 (by rfl) T.m_int (by decide +kernel) (pa_cons (pv 3) pa_nil)) pe_int)) (pa_cons (pe_op op_add (pv 2) pe_int) (pa_cons pe_int pa_nil)))) (pg_sub (pv 0) pe_int set_list))
  (pss_cons (ps_asg pe_int (pg_sub (pv 0) pe_int set_list))
  (pss_cons (ps_asg pe_int (pg_sub (pv 0) pe_int set_list))
  (pss_one (ps_if (pt_cmpR op_ge (pv 3) (pe_op op_pow pe_int pe_int) (nomark _))
   (pss_cons (ps_asg (pv 3) (pg_sub (pv 0) pe_int set_list))
  (pss_one (ps_asg pe_int (pg_sub (pv 0) pe_int set_list))))
   pss_nil)))))))
   pss_nil)))), ?_⟩
    unfold stO at hA
    walk_at "rd"
    refine if_d (fun lt => ?_) (fun _ => ?_)
    · rw [List.length_map] at lt
      obtain ⟨x, hx⟩ : ∃ x, ns[p.toNat]? = some x := ⟨ns[p.toNat]'(by omega), List.getElem?_eq_getElem _⟩
      have hat : atI (ns.map V.int) p = some (.int x) := by
        have e : p = ((p.toNat : Nat) : Int) := by omega
        rw [e]
        exact atI_nat (by rw [List.getElem?_map, hx]; rfl)
      refine ⟨_, rfl, _, rfl, cc, _, p, _, rfl, rfl, .inl (.inl hc), hat, ?_⟩
      walk_at "rd"
      intro r h0 h1
      walk_at "rd"
      refine if_d (fun _ => ?_) (fun _ => ?_)
      · walk_at "rd"
        exact q _ (bt_at (bt_at (bt_at (bt_at (bt_at Bt.at))))) (sto_end hne (by omega) hc (bt_at (bt_at (bt_at (bt_at (bt_at Bt.at))))) upd_same)
      · walk_at "rd"
        exact q _ (bt_at (bt_at (bt_at Bt.at))) (sto_end hne (by omega) hc (bt_at (bt_at (bt_at Bt.at))) upd_same)
    · walk_at "rd"
      exact q H (Bt.refl a H) ⟨p, st, ct, hd, lf, hA, hne, hp, ns, hc⟩
/-! ### _law_take -/
abbrev s__law_take : Stmt := topS 12
abbrev N__law_take : List Str := ["store", "many", "size", "number"]
theorem sc__law_take : FnScope N__law_take ["store", "many"] (defScope s__law_take) := ⟨rfl, rfl, rfl, by decide +kernel, rfl, by decide +kernel, by decide +kernel⟩
def sp__law_take (_ : PySem.W.Frag) : Sp := fun vs H Q _ => ∃ (a : Addr) (many : Int), vs = [.ref a, .int many] ∧ many < 2 ^ 250 ∧ ∃ cc, Sto a cc H ∧ ∀ H' (r : Int), Bt a H H' → Sto a cc H' → 0 ≤ r → r < max 1 many → Q (.int r) H'
theorem ok__law_take {f__law_take : Addr} {fd__law_take : FuncData} {f__law_advance : Addr} {fd__law_advance : FuncData} {f__law_mixed : Addr} {fd__law_mixed : FuncData} (T : Tb mg) (D__law_take : Df K mg "_law_take" s__law_take ["store", "many"] f__law_take fd__law_take) (D__law_advance : Df K mg "_law_advance" s__law_advance ["store"] f__law_advance fd__law_advance) (D__law_mixed : Df K mg "_law_mixed" s__law_mixed ["state", "turn", "many"] f__law_mixed fd__law_mixed) (G__law_advance : FnOk P w K mg base CX0 2 f__law_advance fd__law_advance ["store"] (sp__law_advance K)) (G__law_mixed : FnOk P w K mg base CX0 1 f__law_mixed fd__law_mixed ["state", "turn", "many"] (sp__law_mixed K)) : FnOk P w K mg base CX0 3 f__law_take fd__law_take ["store", "many"] (sp__law_take K) := by
  refine D__law_take.F.ok sc__law_take (fun vs H Q E h => ?_) (fun cdv A outer s H vs Q E hr h => ?_)
  · obtain ⟨a, many, rfl, _⟩ := h
    rfl
  · obtain ⟨a, many, rfl, hm, cc, hs, q⟩ := h
    refine ⟨_, (pss_cons (ps_set (i := 2) sc__law_take.nd rfl (.inl rfl) (pe_callB (call_max2 rfl) (by rfl) T.m_max (by decide +kernel) (pa_cons pe_int (pa_cons (pv 1) pa_nil))))
  (Evl.pss_cut (ps_if (PW.pt (pw_or (pt_cmpR op_le (pe_ix ix_list (pv 0) pe_int (fun _ _ => rfl)) pe_int (nomark _)) (pw_or1 (pt_cmpR op_le (pe_ix ix_list (pv 0) pe_int (fun _ _ => rfl)) pe_int (nomark _)))))
   (pss_one (ps_expr (pe_call G__law_advance (hr.mono (by decide)) (by rfl) D__law_advance.g D__law_advance.F.kp D__law_advance.b .nil pass0 (pa_cons (pv 0) pa_nil))))
   pss_nil)
  (pss_cons (ps_if (PW.pt (pw_and (pt_cmpR op_gt (pe_ix ix_list (pv 0) pe_int (fun _ _ => rfl)) pe_int (nomark _)) (pw_and1 (pt_cmpR op_gt (pe_ix ix_list (pv 0) pe_int (fun _ _ => rfl)) pe_int (nomark _)))))
   (pss_cons (ps_set (i := 3) sc__law_take.nd rfl (.inl rfl) (pe_ix ix_list (pv 0) pe_int (fun _ _ => rfl)))
  (pss_cons (ps_asg (pe_op op_fdivW (pv 3) (pv 2)) (pg_sub (pv 0) pe_int set_list))
  (pss_cons (ps_asg (pe_op op_sub (pe_ix ix_list (pv 0) pe_int (fun _ _ => rfl)) pe_int) (pg_sub (pv 0) pe_int set_list))
  (pss_one (ps_ret (pe_op op_modN (pe_callTy call_int1 (by rfl) T.m_int (by decide +kernel) (pa_cons (pv 3) pa_nil)) (pv 2)))))))
   pss_nil)
  (pss_cons (ps_asg (pe_op op_add (pe_ix ix_list (pv 0) pe_int (fun _ _ => rfl)) pe_int) (pg_sub (pv 0) pe_int set_list))
  (pss_one (ps_ret (pe_call G__law_mixed (hr.mono (by decide)) (by rfl) D__law_mixed.g D__law_mixed.F.kp D__law_mixed.b .nil pass0 (pa_cons (pe_ix ix_list (pv 0) pe_int (fun _ _ => rfl)) (pa_cons (pe_ix ix_list (pv 0) pe_int (fun _ _ => rfl)) (pa_cons (pv 2) pa_nil)))))))))), ?_⟩
    have e1 : (if many > 1 then many else 1) = max 1 many := by split <;> omega
    walk_at "rd"
    rw [e1]
    have h1 : 1 ≤ max 1 many := by omega
    have h2 : max 1 many < 2 ^ 250 := by omega
    clear e1 hm
    generalize max 1 many = size at h1 h2 q ⊢
    obtain ⟨p, st, ct, hd, lf, hA, hne, hp, ns, hc⟩ := hs
    unfold stO at hA
    refine ⟨fun σ' H' => σ' = [some (.ref a), some (.int many), some (.int size), none] ∧ Bt a H H' ∧ Sto a cc H', ?_, ?_⟩
    · have hs : Sto a cc H := ⟨p, st, ct, hd, lf, hA, hne, hp, ns, hc⟩
      walk_at "rd"
      refine if_d (fun _ => ?_) (fun _ => ?_)
      · walk_at "rd"
        exact fun H' b s' => ⟨rfl, b, s'⟩
      · walk_at "rd"
        refine if_d (fun _ => ?_) (fun _ => ?_)
        · walk_at "rd"
          exact fun H' b s' => ⟨rfl, b, s'⟩
        · exact ⟨rfl, Bt.refl a H, hs⟩
    · rintro σ' H1 ⟨rfl, b, p, st, ct, hd, lf, hA, hne, hp, ns, hc⟩
      unfold stO at hA
      have out : ∀ (H' : Hp) (st' ct' hd' lf' : Int) (r : Int), Bt a H1 H' → H' a = some (stO cc p st' ct' hd' lf') → 0 ≤ r → r < size → Q (.int r) H' := fun H' st' ct' hd' lf' r b' e r0 r1 =>
        q H' r (b.trans b') (sto_end hne hp hc b' e) r0 r1
      walk_at "rd"
      refine if_d (fun c4 => ?_) (fun _ => ?_)
      · walk_at "rd"
        refine if_d (fun _ => ?_) (fun _ => ?_)
        · walk_at "rd"
          refine ⟨wide_div (by omega) (b := 250) (by omega) (by decide) (by decide), ?_⟩
          walk_at "rd"
          exact out _ _ _ _ _ _ (bt_at Bt.at) upd_same (fm_lo (by omega)) (fm_hi (by omega))
        · walk_at "rd"
          intro r r0 r1
          exact out _ _ _ _ _ r Bt.at upd_same r0 (by omega)
      · walk_at "rd"
        intro r r0 r1
        exact out _ _ _ _ _ r Bt.at upd_same r0 (by omega)
end
end K1

namespace K1
open PySem PySem.Spec PyProof.Rows L2
/-! the steps of a reading -/
local macro_rules | `(tactic| walk_at "side") => `(tactic| first | rfl | decide | omega | assumption | exact flat_str _ | exact log_small (by omega) (by omega) | exact szl (by first | omega | assumption | (simp only [app_len, one_len]; omega)) | exact ⟨by decide, by decide, by decide⟩ | exact .inl ⟨Int.lt_of_lt_of_le (by decide : (-(2 ^ 64) : Int) < 0) (Int.fmod_nonneg_of_pos _ (by decide)), Int.lt_trans (Int.fmod_lt_of_pos _ (by decide)) (by decide)⟩ | exact .inr ⟨by decide, by decide⟩ | exact .inl ⟨by decide, by decide⟩ | (refine .inl ⟨?_, ?_⟩ <;> omega) | (refine .inr ⟨?_, ?_⟩ <;> omega))
local macro_rules | `(tactic| walk_at "at1") => `(tactic| first | assumption | exact upd_same | exact .inl (.inl upd_same) | exact .inl (.inl (by assumption)))
local macro_rules | `(tactic| walk_at "rd1") => `(tactic| first
  | refine ⟨_, rfl, ?_⟩
  | refine .inl ⟨_, rfl, ?_⟩
  | refine .inr ⟨_, rfl, ?_⟩
  | refine ⟨_, _, rfl, rfl, ?_⟩
  | refine ⟨_, _, rfl, ?_⟩
  | refine And.intro (by walk_at "side") ?_
  | refine ⟨_, _, _, _, rfl, rfl, .inl (.inl upd_same), rfl, ?_⟩
  | refine ⟨_, _, _, _, rfl, rfl, upd_same, rfl, ?_⟩
  | refine ⟨_, _, rfl, .inl (.inl (.inl upd_same)), ?_⟩
  | (refine' ⟨_, _, _, _, rfl, rfl, ?h, ?ca, ?k⟩; (case h => walk_at "at1"); (case ca => rfl))
  | (refine' ⟨_, _, rfl, .inl ?h, ?k⟩; (case h => walk_at "at1"))
  | refine ⟨_, _, _, rfl, ?_⟩
  | refine ⟨_, (by assumption : Sto _ _ _), ?_⟩
  | refine ⟨_, Sto.new (by assumption) (by assumption), ?_⟩
  | refine isi_ok (r := true) (.base (.str _)) (by decide +kernel) ?_
  | refine isi_ok (r := false) (.base (.str _)) (by decide +kernel) ?_
  | refine isi_ok (r := true) (.base (.int _)) (by decide +kernel) ?_
  | refine isi_ok (r := false) (.base (.int _)) (by decide +kernel) ?_
  | refine isi_ok (r := true) (.base (.lst (by assumption))) (by decide +kernel) ?_
  | refine isi_ok (r := false) (.base (.lst (by assumption))) (by decide +kernel) ?_
  | fail)
local macro_rules | `(tactic| walk_at "rd") => `(tactic| repeat walk_at "rd1")

section
variable {P : Program} {w : World} {K : PySem.W.Frag} {mg : Str → Option Value} {base : Heap}
/-! ### _law_pick -/
abbrev s__law_pick : Stmt := topS 13
abbrev N__law_pick : List Str := ["store", "items"]
theorem sc__law_pick : FnScope N__law_pick ["store", "items"] (defScope s__law_pick) := ⟨rfl, rfl, rfl, by decide +kernel, rfl, by decide +kernel, by decide +kernel⟩
def sp__law_pickS (_ : PySem.W.Frag) : Sp := fun vs H Q _ => ∃ (a : Addr) (z : Str), vs = [.ref a, .str z] ∧ 1 ≤ z.length ∧ z.length ≤ 1000000 ∧ ∃ cc, Sto a cc H ∧ ∀ H' (c : Nat), Bt a H H' → Sto a cc H' → c ∈ z.cps.toList → Q (.str ⟨#[c]⟩) H'
theorem ok__law_pickS {f__law_pick : Addr} {fd__law_pick : FuncData} {f__law_take : Addr} {fd__law_take : FuncData} (T : Tb mg) (D__law_pick : Df K mg "_law_pick" s__law_pick ["store", "items"] f__law_pick fd__law_pick) (D__law_take : Df K mg "_law_take" s__law_take ["store", "many"] f__law_take fd__law_take) (G__law_take : FnOk P w K mg base CX0 3 f__law_take fd__law_take ["store", "many"] (sp__law_take K)) : FnOk P w K mg base CX0 4 f__law_pick fd__law_pick ["store", "items"] (sp__law_pickS K) := by
  refine D__law_pick.F.ok sc__law_pick (fun vs H Q E h => ?_) (fun cdv A outer s H vs Q E hr h => ?_)
  · obtain ⟨a, z, rfl, _⟩ := h
    rfl
  · obtain ⟨a, z, rfl, l1, l2, cc, hs, q⟩ := h
    refine ⟨_, (pss_one (ps_ret (pe_ix ix_str (pv 1) (pe_call G__law_take (hr.mono (by decide)) (by rfl) D__law_take.g D__law_take.F.kp D__law_take.b .nil pass0 (pa_cons (pv 0) (pa_cons (pe_callB call_len_str (by rfl) T.m_len (by decide +kernel) (pa_cons (pv 1) pa_nil)) pa_nil))) (fun _ _ => rfl)))), ?_⟩
    walk_at "rd"
    intro H' r b s' r0 r1
    obtain ⟨c, hc, hm⟩ := atI_in (xs := z.cps.toList) r0 (by rw [str_len]; omega)
    exact ⟨_, _, _, rfl, rfl, szl l2, hc, q H' c b s' hm⟩
def sp__law_pickL (K : PySem.W.Frag) : Sp := fun vs H Q _ => ∃ (a l : Addr) (xs : List V), vs = [.ref a, .ref l] ∧ l ≠ a ∧ SqL K H l xs ∧ 1 ≤ xs.length ∧ xs.length ≤ 1000000 ∧ ∃ cc, Sto a cc H ∧ ∀ H' (x : V), Bt a H H' → Sto a cc H' → x ∈ xs → Q x H'
theorem ok__law_pickL {f__law_pick : Addr} {fd__law_pick : FuncData} {f__law_take : Addr} {fd__law_take : FuncData} (T : Tb mg) (D__law_pick : Df K mg "_law_pick" s__law_pick ["store", "items"] f__law_pick fd__law_pick) (D__law_take : Df K mg "_law_take" s__law_take ["store", "many"] f__law_take fd__law_take) (G__law_take : FnOk P w K mg base CX0 3 f__law_take fd__law_take ["store", "many"] (sp__law_take K)) : FnOk P w K mg base CX0 4 f__law_pick fd__law_pick ["store", "items"] (sp__law_pickL K) := by
  refine D__law_pick.F.ok sc__law_pick (fun vs H Q E h => ?_) (fun cdv A outer s H vs Q E hr h => ?_)
  · obtain ⟨a, l, xs, rfl, _⟩ := h
    rfl
  · obtain ⟨a, l, xs, rfl, hne, hl, l1, l2, cc, hs, q⟩ := h
    refine ⟨_, (pss_one (ps_ret (pe_ix ix_list (pv 1) (pe_call G__law_take (hr.mono (by decide)) (by rfl) D__law_take.g D__law_take.F.kp D__law_take.b .nil pass0 (pa_cons (pv 0) (pa_cons (pe_callB call_len_seq (by rfl) T.m_len (by decide +kernel) (pa_cons (pv 1) pa_nil)) pa_nil))) (fun _ _ => rfl)))), ?_⟩
    walk_at "rd"
    intro H' r b s' r0 r1
    obtain ⟨x, hc, hm⟩ := atI_in (xs := xs) r0 (by omega)
    exact ⟨_, _, _, _, rfl, rfl, b.seq hne hl, hc, q H' x b s' hm⟩
/-! ### _law_size -/
abbrev s__law_size : Stmt := topS 14
abbrev N__law_size : List Str := ["store", "usual", "most", "kind", "top"]
theorem sc__law_size : FnScope N__law_size ["store", "usual", "most"] (defScope s__law_size) := ⟨rfl, rfl, rfl, by decide +kernel, rfl, by decide +kernel, by decide +kernel⟩
def sp__law_size (_ : PySem.W.Frag) : Sp := fun vs H Q _ => ∃ (a : Addr) (us most : Int), vs = [.ref a, .int us, .int most] ∧ most < 1000000 ∧ ∃ cc, Sto a cc H ∧ ∀ H' (r : Int), Bt a H H' → Sto a cc H' → 0 ≤ r → r ≤ max 0 most → Q (.int r) H'
theorem ok__law_size {f__law_size : Addr} {fd__law_size : FuncData} {f__law_take : Addr} {fd__law_take : FuncData} (T : Tb mg) (D__law_size : Df K mg "_law_size" s__law_size ["store", "usual", "most"] f__law_size fd__law_size) (D__law_take : Df K mg "_law_take" s__law_take ["store", "many"] f__law_take fd__law_take) (G__law_take : FnOk P w K mg base CX0 3 f__law_take fd__law_take ["store", "many"] (sp__law_take K)) : FnOk P w K mg base CX0 4 f__law_size fd__law_size ["store", "usual", "most"] (sp__law_size K) := by
  refine D__law_size.F.ok sc__law_size (fun vs H Q E h => ?_) (fun cdv A outer s H vs Q E hr h => ?_)
  · obtain ⟨a, us, most, rfl, _⟩ := h
    rfl
  · obtain ⟨a, us, most, rfl, hm, cc, hs, q⟩ := h
    refine ⟨_, (pss_cons (ps_set (i := 3) sc__law_size.nd rfl (.inl rfl) (pe_call G__law_take (hr.mono (by decide)) (by rfl) D__law_take.g D__law_take.F.kp D__law_take.b .nil pass0 (pa_cons (pv 0) (pa_cons pe_int pa_nil))))
  (pss_cons (ps_set (i := 4) sc__law_size.nd rfl (.inl rfl) (pe_callB (call_max2 rfl) (by rfl) T.m_max (by decide +kernel) (pa_cons pe_int (pa_cons (pv 2) pa_nil))))
  (pss_cons (ps_if (pt_cmpR op_eq (pv 3) pe_int (nomark _))
   (pss_one (ps_ret pe_int))
   pss_nil)
  (pss_cons (ps_if (pt_cmpR op_eq (pv 3) pe_int (nomark _))
   (pss_one (ps_ret (pe_callB (call_min2 rfl) (by rfl) T.m_min (by decide +kernel) (pa_cons pe_int (pa_cons (pv 4) pa_nil)))))
   pss_nil)
  (pss_cons (ps_if (pt_cmpR op_eq (pv 3) pe_int (nomark _))
   (pss_one (ps_ret (pv 4)))
   pss_nil)
  (pss_cons (ps_if (pt_cmpR op_eq (pv 3) pe_int (nomark _))
   (pss_one (ps_ret (pe_call G__law_take (hr.mono (by decide)) (by rfl) D__law_take.g D__law_take.F.kp D__law_take.b .nil pass0 (pa_cons (pv 0) (pa_cons (pe_op op_add (pv 4) pe_int) pa_nil)))))
   pss_nil)
  (pss_one (ps_ret (pe_call G__law_take (hr.mono (by decide)) (by rfl) D__law_take.g D__law_take.F.kp D__law_take.b .nil pass0 (pa_cons (pv 0) (pa_cons (pe_op op_add (pe_callB (call_min2 rfl) (by rfl) T.m_min (by decide +kernel) (pa_cons (pe_callB (call_max2 rfl) (by rfl) T.m_max (by decide +kernel) (pa_cons pe_int (pa_cons (pv 1) pa_nil))) (pa_cons (pv 4) pa_nil))) pe_int) pa_nil))))))))))), ?_⟩
    walk_at "rd"
    intro H1 kind b1 s1 k0 k1
    walk_at "rd"
    have e1 : (if most > 0 then most else 0) = max 0 most := by split <;> omega
    rw [e1]
    have h0 : 0 ≤ max 0 most := by omega
    have h1 : max 0 most < 1000000 := by omega
    clear e1
    generalize max 0 most = top at h0 h1 q ⊢
    walk_at "rd"
    refine if_I (fun _ => ?_) (fun _ => ?_)
    · exact q H1 0 b1 s1 (by omega) h0
    walk_at "rd"
    refine if_I (fun _ => ?_) (fun _ => ?_)
    · walk_at "rd"
      exact q H1 _ b1 s1 (by split <;> omega) (by split <;> omega)
    walk_at "rd"
    refine if_I (fun _ => ?_) (fun _ => ?_)
    · walk_at "rd"
      exact q H1 _ b1 s1 h0 (by omega)
    walk_at "rd"
    refine if_I (fun _ => ?_) (fun _ => ?_)
    · walk_at "rd"
      exact fun H' r b s' r0 r1 => q H' r (b1.trans b) s' r0 (by omega)
    · walk_at "rd"
      exact fun H' r b s' r0 r1 => q H' r (b1.trans b) s' r0 (by
        have e : (if top < (if us > 0 then us else 0) then top else (if us > 0 then us else 0)) ≤ top := by split <;> omega
        generalize (if top < (if us > 0 then us else 0) then top else (if us > 0 then us else 0)) = z at e r1
        omega)
end
end K1

namespace K1
open PySem PySem.Spec PyProof.Rows L2
/-! the steps of a reading -/
local macro_rules | `(tactic| walk_at "side") => `(tactic| first | rfl | decide | omega | assumption | exact flat_str _ | exact log_small (by omega) (by omega) | exact szl (by first | omega | assumption | (simp only [app_len, one_len]; omega)) | exact ⟨by decide, by decide, by decide⟩ | exact .inl ⟨Int.lt_of_lt_of_le (by decide : (-(2 ^ 64) : Int) < 0) (Int.fmod_nonneg_of_pos _ (by decide)), Int.lt_trans (Int.fmod_lt_of_pos _ (by decide)) (by decide)⟩ | exact .inr ⟨by decide, by decide⟩ | exact .inl ⟨by decide, by decide⟩ | (refine .inl ⟨?_, ?_⟩ <;> omega) | (refine .inr ⟨?_, ?_⟩ <;> omega))
local macro_rules | `(tactic| walk_at "at1") => `(tactic| first | assumption | exact upd_same | exact .inl (.inl upd_same) | exact .inl (.inl (by assumption)))
local macro_rules | `(tactic| walk_at "rd1") => `(tactic| first
  | refine ⟨_, rfl, ?_⟩
  | refine .inl ⟨_, rfl, ?_⟩
  | refine .inr ⟨_, rfl, ?_⟩
  | refine ⟨_, _, rfl, rfl, ?_⟩
  | refine ⟨_, _, rfl, ?_⟩
  | refine And.intro (by walk_at "side") ?_
  | refine ⟨_, _, _, _, rfl, rfl, .inl (.inl upd_same), rfl, ?_⟩
  | refine ⟨_, _, _, _, rfl, rfl, upd_same, rfl, ?_⟩
  | refine ⟨_, _, rfl, .inl (.inl (.inl upd_same)), ?_⟩
  | (refine' ⟨_, _, _, _, rfl, rfl, ?h, ?ca, ?k⟩; (case h => walk_at "at1"); (case ca => rfl))
  | (refine' ⟨_, _, rfl, .inl ?h, ?k⟩; (case h => walk_at "at1"))
  | refine ⟨_, _, _, rfl, ?_⟩
  | refine ⟨_, (by assumption : Sto _ _ _), ?_⟩
  | refine ⟨_, Sto.new (by assumption) (by assumption), ?_⟩
  | refine isi_ok (r := true) (.base (.str _)) (by decide +kernel) ?_
  | refine isi_ok (r := false) (.base (.str _)) (by decide +kernel) ?_
  | refine isi_ok (r := true) (.base (.int _)) (by decide +kernel) ?_
  | refine isi_ok (r := false) (.base (.int _)) (by decide +kernel) ?_
  | refine isi_ok (r := true) (.base (.lst (by assumption))) (by decide +kernel) ?_
  | refine isi_ok (r := false) (.base (.lst (by assumption))) (by decide +kernel) ?_
  | fail)
local macro_rules | `(tactic| walk_at "rd") => `(tactic| repeat walk_at "rd1")

section
variable {P : Program} {w : World} {K : PySem.W.Frag} {mg : Str → Option Value} {base : Heap}
/-! ### _law_shuffled -/
abbrev s__law_shuffled : Stmt := topS 15
abbrev N__law_shuffled : List Str := ["store", "items", "rest", "found", "k"]
theorem sc__law_shuffled : FnScope N__law_shuffled ["store", "items"] (defScope s__law_shuffled) := ⟨rfl, rfl, rfl, by decide +kernel, rfl, by decide +kernel, by decide +kernel⟩
def sp__law_shuffled (K : PySem.W.Frag) : Sp := fun vs H Q _ => ∃ (a l : Addr) (xs : List V), vs = [.ref a, .ref l] ∧ l ≠ a ∧ SqL K H l xs ∧ xs.length ≤ 1000 ∧ ∃ cc, Sto a cc H ∧ ∀ H' p (ys : List V), Bt a H H' → Sto a cc H' → H p = none → H' p = some (.lst ys) → ys.Perm xs → Q (.ref p) H'
theorem perm_erase {xs : List V} {k : Nat} (h : k < xs.length) : ([xs[k]] ++ xs.eraseIdx k).Perm xs := by
  rw [List.eraseIdx_eq_take_drop_succ]
  have e : xs = xs.take k ++ xs[k] :: xs.drop (k + 1) := by
    rw [List.getElem_cons_drop, List.take_append_drop]
  conv => rhs; rw [e]
  exact (List.perm_middle (l₁ := xs.take k) (l₂ := xs.drop (k + 1)) (a := xs[k])).symm
theorem ok__law_shuffled {f__law_shuffled : Addr} {fd__law_shuffled : FuncData} {f__law_take : Addr} {fd__law_take : FuncData} (T : Tb mg) (D__law_shuffled : Df K mg "_law_shuffled" s__law_shuffled ["store", "items"] f__law_shuffled fd__law_shuffled) (D__law_take : Df K mg "_law_take" s__law_take ["store", "many"] f__law_take fd__law_take) (G__law_take : FnOk P w K mg base CX0 3 f__law_take fd__law_take ["store", "many"] (sp__law_take K)) : FnOk P w K mg base CX0 4 f__law_shuffled fd__law_shuffled ["store", "items"] (sp__law_shuffled K) := by
  refine D__law_shuffled.F.ok sc__law_shuffled (fun vs H Q E h => ?_) (fun cdv A outer s H vs Q E hr h => ?_)
  · obtain ⟨a, l, xs, rfl, _⟩ := h
    rfl
  · obtain ⟨a, l, xs, rfl, hne, hl, len, cc, hs, q⟩ := h
    refine ⟨_, (pss_cons (ps_set (i := 2) sc__law_shuffled.nd rfl (.inl rfl) (pe_callTy call_list_of (by rfl) T.m_list (by decide +kernel) (pa_cons (pv 1) pa_nil)))
  (pss_cons (ps_set (i := 3) sc__law_shuffled.nd rfl (.inl rfl) (pe_lst pa_nil))
  (pss_cons (ps_for PassesOwn.never rfl (pi_range1 (by rfl) T.m_range (pa_cons (pe_callB call_len_seq (by rfl) T.m_len (by decide +kernel) (pa_cons (pv 1) pa_nil)) pa_nil)) (pg_name (i := 4) sc__law_shuffled.nd rfl (.inl rfl))
   (pss_one (ps_expr (pe_bm PySem.F.plainAttrs_list PySem.F.slot_list_append PySem.F.type_list_append mt_append (pv 3) (pa_cons (pe_bm PySem.F.plainAttrs_list PySem.F.slot_list_pop PySem.F.type_list_pop mt_popAt (pv 2) (pa_cons (pe_call G__law_take (hr.mono (by decide)) (by rfl) D__law_take.g D__law_take.F.kp D__law_take.b .nil pass0 (pa_cons (pv 0) (pa_cons (pe_callB call_len_seq (by rfl) T.m_len (by decide +kernel) (pa_cons (pv 2) pa_nil)) pa_nil))) pa_nil)) pa_nil)))))
  (pss_one (ps_ret (pv 3)))))), ?_⟩
    refine ⟨.ref l, rfl, l, xs, rfl, .inl hl, fun r hr0 => ?_⟩
    refine ⟨Nat.zero_le _, fun f hf => ?_⟩
    have hfr : f ≠ r := fun e => by
      rw [e, upd_same] at hf; cases hf
    have hf0 : H f = none := by rw [upd_ne hfr] at hf; exact hf
    have ra : r ≠ a := hs.ne hr0
    have fa : f ≠ a := hs.ne hf0
    have b0 : Bt a H (upd (upd H r (.lst xs)) f (.lst [])) := (Bt.new hr0).trans (Bt.new hf)
    have s0 : Sto a cc (upd (upd H r (.lst xs)) f (.lst [])) := hs.keep b0 fun o e => by rw [upd_ne fa.symm, upd_ne ra.symm]; exact e
    refine ⟨.ref l, rfl, l, xs, rfl, .inl (b0.seq hne hl), _, rfl, by omega, by omega, ?_⟩
    refine for_range (lo := 0) (fun i σ H' => Bt a H H' ∧ Sto a cc H' ∧ ∃ (rs fs : List V) (x : Option V), σ = [some (.ref a), some (.ref l), some (.ref r), some (.ref f), x] ∧ H' r = some (.lst rs) ∧ H' f = some (.lst fs) ∧ (fs ++ rs).Perm xs ∧ fs.length = i)
      ⟨b0, s0, xs, [], none, rfl, by rw [upd_ne hfr.symm, upd_same], upd_same, List.Perm.refl _, rfl⟩ ?_ ?_
    · rintro i σ H' hi ⟨b, s', rs, fs, x, rfl, er, ef, pm, fl⟩
      have hlen := pm.length_eq
      rw [List.length_append] at hlen
      refine ⟨.ref f, rfl, .inl ⟨rfl, _, .inl (.inl ef)⟩, .ref r, rfl, .inl ⟨rfl, _, .inl (.inl er)⟩, ?_⟩
      walk_at "rd"
      intro H2 k b2 s2 k0 k1
      have er2 := b2 _ _ ra er
      have ef2 := b2 _ _ fa ef
      have hk : k.toNat < rs.length := by omega
      have ei : seqIndex? k rs.length = some k.toNat := seqIndex_at k0 (by omega)
      refine ⟨r, rs, k, k.toNat, rs[k.toNat], rfl, rfl, er2, by omega, by omega, ei, List.getElem?_eq_getElem hk, ?_⟩
      refine ⟨f, fs, _, rfl, rfl, by rw [upd_ne hfr]; exact ef2, szt (by omega), ?_⟩
      refine ⟨?_, ?_, rs.eraseIdx k.toNat, fs ++ [rs[k.toNat]], _, rfl, by rw [upd_ne hfr.symm, upd_same], upd_same, ?_, ?_⟩
      · exact (b.trans b2).put hr0 |>.put hf0
      · exact (s2.put hs hr0).put hs hf0
      · refine List.Perm.trans ?_ pm
        rw [List.append_assoc]
        refine List.Perm.append_left _ ?_
        exact perm_erase hk
      · rw [List.length_append, fl]; rfl
    · rintro σ H' ⟨b, s', rs, fs, x, rfl, er, ef, pm, fl⟩
      have hlen := pm.length_eq
      rw [List.length_append] at hlen
      have e0 : rs = [] := List.eq_nil_of_length_eq_zero (by omega)
      rw [e0, List.append_nil] at pm
      walk_at "rd"
      exact q H' f fs b s' hf0 ef pm
/-! ### _law_sign -/
abbrev s__law_sign : Stmt := topS 16
abbrev N__law_sign : List Str := ["store", "signs"]
theorem sc__law_sign : FnScope N__law_sign ["store"] (defScope s__law_sign) := ⟨rfl, rfl, rfl, by decide +kernel, rfl, by decide +kernel, by decide +kernel⟩
def sp__law_sign (_ : PySem.W.Frag) : Sp := fun vs H Q _ => ∃ (a : Addr), vs = [.ref a] ∧ ∃ cc, Sto a cc H ∧ ∀ H' (c : Nat), Bt a H H' → Sto a cc H' → c < 128 → Q (.str ⟨#[c]⟩) H'
theorem ok__law_sign {f__law_sign : Addr} {fd__law_sign : FuncData} {f__law_pick : Addr} {fd__law_pick : FuncData} (T : Tb mg) (D__law_sign : Df K mg "_law_sign" s__law_sign ["store"] f__law_sign fd__law_sign) (D__law_pick : Df K mg "_law_pick" s__law_pick ["store", "items"] f__law_pick fd__law_pick) (G__law_pickS : FnOk P w K mg base CX0 4 f__law_pick fd__law_pick ["store", "items"] (sp__law_pickS K)) : FnOk P w K mg base CX0 5 f__law_sign fd__law_sign ["store"] (sp__law_sign K) := by
  refine D__law_sign.F.ok sc__law_sign (fun vs H Q E h => ?_) (fun cdv A outer s H vs Q E hr h => ?_)
  · obtain ⟨a, rfl, _⟩ := h
    rfl
  · obtain ⟨a, rfl, cc, hs, q⟩ := h
    refine ⟨_, (pss_cons (ps_set (i := 1) sc__law_sign.nd rfl (.inl rfl) pe_str)
  (pss_one (ps_ret (pe_call G__law_pickS (hr.mono (by decide)) (by rfl) D__law_pick.g D__law_pick.F.kp D__law_pick.b .nil pass0 (pa_cons (pv 0) (pa_cons (pe_op op_add_str (pv 1) pe_str) pa_nil)))))), ?_⟩
    walk_at "rd"
    intro H' c b s' hc
    refine q H' c b s' ?_
    have al : ∀ c ∈ (Str.ofString " !\"#$&'()*+,-./0123456789:;<=>?@ABCDEFGHIJKLMNOPQRSTUVWXYZ[\\]^_`" ++ Str.ofString "abcdefghijklmnopqrstuvwxyz{|}~\n").cps.toList, c < 128 := by decide +kernel
    exact al c hc
/-! ### _law_text -/
abbrev s__law_text : Stmt := topS 17
abbrev N__law_text : List Str := ["store", "most", "k"]
theorem sc__law_text : FnScope N__law_text ["store", "most"] (defScope s__law_text) := ⟨rfl, rfl, rfl, by decide +kernel, rfl, by decide +kernel, by decide +kernel⟩
def sp__law_text (_ : PySem.W.Frag) : Sp := fun vs H Q _ => ∃ (a : Addr) (most : Int), vs = [.ref a, .int most] ∧ most < 100000 ∧ ∃ cc, Sto a cc H ∧ ∀ H' (z : Str), Bt a H H' → Sto a cc H' → (z.length : Int) ≤ max 0 most → Q (.str z) H'
theorem sum_ones : ∀ {ys : List Str}, (∀ y ∈ ys, y.length = 1) → (ys.map (·.length)).sum = ys.length
  | [], _ => rfl
  | y :: ys, h => by
    rw [List.map_cons, List.sum_cons, h y List.mem_cons_self, sum_ones fun z hz => h z (List.mem_cons_of_mem _ hz), List.length_cons]
    omega
theorem joinL_nil : ∀ ps : List (List Nat), (TL.joinL [] ps).length = (ps.map (·.length)).sum
  | [] => rfl
  | [p] => by show p.length = p.length + 0; rfl
  | p :: q :: r => by
    show (p ++ ([] ++ TL.joinL [] (q :: r))).length = p.length + _
    rw [List.nil_append, List.length_append, joinL_nil (q :: r)]
    rfl
theorem join_len (ys : List Str) : (Txt.join (Str.ofString "") ys).length = (ys.map (·.length)).sum := by
  rw [TL.join_eq, ← str_len]
  have h := TL.tl_join (Str.ofString "") ys
  have e : (TL.tl (Str.join (Str.ofString "") ys)).length = ((ys.map TL.tl).map (·.length)).sum := by
    rw [h]
    exact joinL_nil _
  rw [List.map_map] at e
  refine e.trans ?_
  congr 1
theorem ok__law_text {f__law_text : Addr} {fd__law_text : FuncData} {f__law_sign : Addr} {fd__law_sign : FuncData} {f__law_size : Addr} {fd__law_size : FuncData} (T : Tb mg) (D__law_text : Df K mg "_law_text" s__law_text ["store", "most"] f__law_text fd__law_text) (D__law_sign : Df K mg "_law_sign" s__law_sign ["store"] f__law_sign fd__law_sign) (D__law_size : Df K mg "_law_size" s__law_size ["store", "usual", "most"] f__law_size fd__law_size) (G__law_sign : FnOk P w K mg base CX0 5 f__law_sign fd__law_sign ["store"] (sp__law_sign K)) (G__law_size : FnOk P w K mg base CX0 4 f__law_size fd__law_size ["store", "usual", "most"] (sp__law_size K)) : FnOk P w K mg base CX0 6 f__law_text fd__law_text ["store", "most"] (sp__law_text K) := by
  refine D__law_text.F.ok sc__law_text (fun vs H Q E h => ?_) (fun cdv A outer s H vs Q E hr h => ?_)
  · obtain ⟨a, most, rfl, _⟩ := h
    rfl
  · obtain ⟨a, most, rfl, hm, cc, hs, q⟩ := h
    refine ⟨_, (pss_one (ps_ret (pe_join pe_str (pe_lc (own := [("k", 2)]) (g := gName 2) (tt := tYes) rfl sc__law_text.nd (pi_range1 (by rfl) T.m_range (pa_cons (pe_call G__law_size (hr.mono (by decide)) (by rfl) D__law_size.g D__law_size.F.kp D__law_size.b .nil pass0 (pa_cons (pv 0) (pa_cons pe_int (pa_cons (pv 1) pa_nil)))) pa_nil)) (blkOk_by (N := N__law_text) (sc := defScope s__law_text) (by decide +kernel))
    (fun _ _ _ _ _ => (pg_name (i := 2) sc__law_text.nd rfl (Or.inl rfl))) (fun _ _ _ _ _ => pts_nil) (fun _ _ _ _ _ => (pe_call G__law_sign (hr.mono (by decide)) (by rfl) D__law_sign.g D__law_sign.F.kp D__law_sign.b .nil pass0 (pa_cons (pv 0) pa_nil))))))), ?_⟩
    walk_at "rd"
    refine ⟨⟨_, rfl⟩, ?_⟩
    walk_at "rd"
    intro H1 n b1 s1 n0 n1
    refine ⟨n, rfl, by omega, by omega, fun D hD => lc_range (lo := 0) (n := n.toNat) (fun i H2 => Bt a H H2 ∧ Sto a cc H2 ∧ ∃ ys : List Str, H2 D = some (.lst (ys.map V.str)) ∧ ys.length = i ∧ ∀ y ∈ ys, y.length = 1)
      ⟨b1.trans (Bt.new hD), s1.new hD, [], upd_same, rfl, fun y hy => nomatch hy⟩ ?_ ?_⟩
    · rintro i H2 hi ⟨b2, s2, ys, e, l, al⟩
      refine ⟨rfl, ?_⟩
      walk_at "rd"
      intro H3 c b3 s3 _
      have nD : D ≠ a := s1.ne hD
      have hD0 : H D = none := b1.free nD hD
      have e3 := b3 _ _ nD e
      refine ⟨_, e3, szt (by rw [List.length_map]; omega), (b2.trans b3).put hD0, s3.put hs hD0, ys ++ [⟨#[c]⟩], ?_, by rw [List.length_append, l]; rfl, fun y hy => ?_⟩
      · rw [upd_same, List.map_append]; rfl
      · rcases List.mem_append.mp hy with h | h
        · exact al y h
        · rw [List.mem_singleton.mp h]; rfl
    · rintro H2 ⟨b2, s2, ys, e, l, al⟩
      have sm := sum_ones al
      refine ⟨_, D, ys, rfl, rfl, .inl (.inl (.inl e)), ?_, ?_⟩
      · rw [sm]
        have z : (Str.ofString "").length = 0 := rfl
        rw [z]
        omega
      · exact q H2 _ b2 s2 (by rw [join_len, sm]; omega)
/-! ### _law_free_name -/
abbrev s__law_free_name : Stmt := topS 18
abbrev N__law_free_name : List Str := ["store", "most", "size", "number", "name", "k"]
theorem sc__law_free_name : FnScope N__law_free_name ["store", "most"] (defScope s__law_free_name) := ⟨rfl, rfl, rfl, by decide +kernel, rfl, by decide +kernel, by decide +kernel⟩
def A26 : List Nat := (Str.ofString "abcdefghijklmnopqrstuvwxyz").cps.toList
def A36 : List Nat := (Str.ofString "abcdefghijklmnopqrstuvwxyz0123456789").cps.toList
/-- a text like a name -/
def Nm (z : Str) : Prop := ∃ c r, z.cps.toList = c :: r ∧ c ∈ A26 ∧ ∀ x ∈ r, x ∈ A36
theorem Nm.pos {z : Str} (h : Nm z) : 1 ≤ z.length := by
  obtain ⟨c, r, e, _⟩ := h
  rw [← str_len, e, List.length_cons]; omega
theorem Nm.app {x y : Str} (h : Nm x) (k : ∀ c ∈ y.cps.toList, c ∈ A36) : Nm (x ++ y) := by
  obtain ⟨c, r, e, h1, h2⟩ := h
  refine ⟨c, r ++ y.cps.toList, by rw [Str.cps_append, Array.toList_append, e]; rfl, h1, fun z hz => ?_⟩
  rcases List.mem_append.mp hz with h | h
  · exact h2 z h
  · exact k z h
def sp__law_free_name (_ : PySem.W.Frag) : Sp := fun vs H Q _ => ∃ (a : Addr) (most : Int), vs = [.ref a, .int most] ∧ 1 ≤ most ∧ most ≤ 20 ∧ ∃ cc, Sto a cc H ∧ ∀ H' (z : Str), Bt a H H' → Sto a cc H' → Nm z → (z.length : Int) ≤ most → Q (.str z) H'
theorem ok__law_free_name {f__law_free_name : Addr} {fd__law_free_name : FuncData} {f__law_take : Addr} {fd__law_take : FuncData} (T : Tb mg) (D__law_free_name : Df K mg "_law_free_name" s__law_free_name ["store", "most"] f__law_free_name fd__law_free_name) (D__law_take : Df K mg "_law_take" s__law_take ["store", "many"] f__law_take fd__law_take) (G__law_take : FnOk P w K mg base CX0 3 f__law_take fd__law_take ["store", "many"] (sp__law_take K)) : FnOk P w K mg base CX0 4 f__law_free_name fd__law_free_name ["store", "most"] (sp__law_free_name K) := by
  refine D__law_free_name.F.ok sc__law_free_name (fun vs H Q E h => ?_) (fun cdv A outer s H vs Q E hr h => ?_)
  · obtain ⟨a, most, rfl, _⟩ := h
    rfl
  · obtain ⟨a, most, rfl, m1, m2, cc, hs, q⟩ := h
    refine ⟨_, (pss_cons (ps_set (i := 2) sc__law_free_name.nd rfl (.inl rfl) (pe_ix ix_list (pe_lst (pa_cons pe_int (pa_cons (pv 1) (pa_cons (pe_op op_add pe_int (pe_call G__law_take (hr.mono (by decide)) (by rfl) D__law_take.g D__law_take.F.kp D__law_take.b .nil pass0 (pa_cons (pv 0) (pa_cons (pv 1) pa_nil)))) pa_nil)))) (pe_op op_fdivW (pe_call G__law_take (hr.mono (by decide)) (by rfl) D__law_take.g D__law_take.F.kp D__law_take.b .nil pass0 (pa_cons (pv 0) (pa_cons pe_int pa_nil))) pe_int) (fun _ _ => rfl)))
  (pss_cons (ps_set (i := 3) sc__law_free_name.nd rfl (.inl rfl) (pe_call G__law_take (hr.mono (by decide)) (by rfl) D__law_take.g D__law_take.F.kp D__law_take.b .nil pass0 (pa_cons (pv 0) (pa_cons (pe_op op_pow pe_int pe_int) pa_nil))))
  (pss_cons (ps_set (i := 4) sc__law_free_name.nd rfl (.inl rfl) (pe_ix ix_str pe_str (pe_op op_modN (pe_callTy call_int1 (by rfl) T.m_int (by decide +kernel) (pa_cons (pv 3) pa_nil)) pe_int) (fun _ _ => rfl)))
  (pss_cons (ps_set (i := 3) sc__law_free_name.nd rfl (.inl rfl) (pe_op op_fdivW (pv 3) pe_int))
  (pss_cons (ps_for PassesOwn.never rfl (pi_range1 (by rfl) T.m_range (pa_cons (pe_op op_sub (pv 2) pe_int) pa_nil)) (pg_name (i := 5) sc__law_free_name.nd rfl (.inl rfl))
   (pss_cons (ps_set (i := 4) sc__law_free_name.nd rfl (.inl rfl) (pe_op op_add_str (pv 4) (pe_ix ix_str pe_str (pe_op op_modN (pe_callTy call_int1 (by rfl) T.m_int (by decide +kernel) (pa_cons (pv 3) pa_nil)) pe_int) (fun _ _ => rfl))))
  (pss_one (ps_set (i := 3) sc__law_free_name.nd rfl (.inl rfl) (pe_op op_fdivW (pv 3) pe_int)))))
  (pss_one (ps_ret (pv 4)))))))), ?_⟩
    walk_at "rd"
    intro H1 r1 b1 s1 r10 r11
    walk_at "rd"
    refine ⟨by show 3 ≤ sizeLine; decide, fun p hp => ?_⟩
    walk_at "rd"
    intro H2 r2 b2 s2 r20 r21
    walk_at "rd"
    refine ⟨⟨by decide, by decide⟩, ?_⟩
    have np : p ≠ a := s1.ne hp
    have e2 : H2 p = some (.lst [.int 1, .int most, .int (1 + r1)]) := b2 _ _ np upd_same
    obtain ⟨x, hx, hm⟩ := atI_in (xs := [V.int 1, .int most, .int (1 + r1)]) (r := r2 / 2) (by omega) (by show r2 / 2 < 3; omega)
    obtain ⟨n, rfl, n1, n2⟩ : ∃ n : Int, x = .int n ∧ 1 ≤ n ∧ n ≤ most := by
      rcases List.mem_cons.mp hm with h | hm
      · exact ⟨1, h, by omega, by omega⟩
      rcases List.mem_cons.mp hm with h | hm
      · exact ⟨most, h, by omega, by omega⟩
      rcases List.mem_cons.mp hm with h | hm
      · exact ⟨1 + r1, h, by omega, by omega⟩
      · cases hm
    have bb : Bt a H H2 := (b1.trans (Bt.new hp)).trans b2
    refine ⟨p, _, _, _, rfl, rfl, .inl (.inl e2), hx, ?_⟩
    clear e2 hx hm
    walk_at "rd"
    intro H3 num b3 s3 num0 num1
    walk_at "rd"
    have f26 : ∀ m : Int, ∃ c, atI A26 (m.fmod 26) = some c ∧ c ∈ A26 := fun m => atI_in (fm_lo (by decide)) (by rw [show A26.length = 26 by decide +kernel]; exact fm_hi (by decide))
    have f36 : ∀ m : Int, ∃ c, atI A36 (m.fmod 36) = some c ∧ c ∈ A36 := fun m => atI_in (fm_lo (by decide)) (by rw [show A36.length = 36 by decide +kernel]; exact fm_hi (by decide))
    obtain ⟨c, hc, cm⟩ := f26 num
    refine ⟨_, _, c, rfl, rfl, by decide +kernel, hc, ?_⟩
    walk_at "rd"
    refine ⟨⟨by decide, by decide⟩, ?_⟩
    refine ⟨_, rfl, n, 1, rfl, rfl, _, rfl, by omega, by omega, ?_⟩
    refine for_range (lo := 0) (fun i σ H' => H' = H3 ∧ ∃ (m : Int) (z : Str) (x : Option V), σ = [some (.ref a), some (.int most), some (.int n), some (.int m), some (.str z), x] ∧ Nm z ∧ z.length = i + 1) ⟨rfl, _, _, none, rfl, ⟨c, [], rfl, cm, fun _ h => nomatch h⟩, rfl⟩ ?_ ?_
    · rintro i σ H' hi ⟨rfl, m, z, x, rfl, nm, zl⟩
      obtain ⟨d, hd, dm⟩ := f36 m
      refine ⟨_, rfl, _, rfl, .inl ⟨_, rfl, _, _, rfl, rfl, (by show (36 : Int) ≠ 0; decide), _, _, d, rfl, rfl, by decide +kernel, hd, ?_⟩⟩
      refine ⟨_, _, rfl, rfl, szl (by rw [zl]; show i + 1 + 1 ≤ 1000000; omega), ?_⟩
      refine ⟨_, rfl, _, _, rfl, rfl, ⟨by decide, by decide⟩, ?_⟩
      refine ⟨rfl, _, _, _, rfl, nm.app fun y hy => ?_, ?_⟩
      · rw [List.mem_singleton.mp hy]; exact dm
      · rw [app_len, zl]; rfl
    · rintro σ H' ⟨rfl, m, z, x, rfl, nm, zl⟩
      walk_at "rd"
      exact q H' z (bb.trans b3) s3 nm (by omega)
end
end K1

namespace K1
open PySem PySem.Spec PyProof.Rows L2
/-! the steps of a reading -/
local macro_rules | `(tactic| walk_at "side") => `(tactic| first | rfl | decide | omega | assumption | exact flat_str _ | exact log_small (by omega) (by omega) | exact szl (by first | omega | assumption | (simp only [app_len, one_len]; omega)) | exact ⟨by decide, by decide, by decide⟩ | exact .inl ⟨Int.lt_of_lt_of_le (by decide : (-(2 ^ 64) : Int) < 0) (Int.fmod_nonneg_of_pos _ (by decide)), Int.lt_trans (Int.fmod_lt_of_pos _ (by decide)) (by decide)⟩ | exact .inr ⟨by decide, by decide⟩ | exact .inl ⟨by decide, by decide⟩ | (refine .inl ⟨?_, ?_⟩ <;> omega) | (refine .inr ⟨?_, ?_⟩ <;> omega))
local macro_rules | `(tactic| walk_at "at1") => `(tactic| first | assumption | exact upd_same | exact .inl (.inl upd_same) | exact .inl (.inl (by assumption)))
local macro_rules | `(tactic| walk_at "rd1") => `(tactic| first
  | refine ⟨_, rfl, ?_⟩
  | refine .inl ⟨_, rfl, ?_⟩
  | refine .inr ⟨_, rfl, ?_⟩
  | refine ⟨_, _, rfl, rfl, ?_⟩
  | refine ⟨_, _, rfl, ?_⟩
  | refine And.intro (by walk_at "side") ?_
  | refine ⟨_, _, _, _, rfl, rfl, .inl (.inl upd_same), rfl, ?_⟩
  | refine ⟨_, _, _, _, rfl, rfl, upd_same, rfl, ?_⟩
  | refine ⟨_, _, rfl, .inl (.inl (.inl upd_same)), ?_⟩
  | (refine' ⟨_, _, _, _, rfl, rfl, ?h, ?ca, ?k⟩; (case h => walk_at "at1"); (case ca => rfl))
  | (refine' ⟨_, _, rfl, .inl ?h, ?k⟩; (case h => walk_at "at1"))
  | refine ⟨_, _, _, rfl, ?_⟩
  | refine ⟨_, (by assumption : Sto _ _ _), ?_⟩
  | refine ⟨_, Sto.new (by assumption) (by assumption), ?_⟩
  | refine isi_ok (r := true) (.base (.str _)) (by decide +kernel) ?_
  | refine isi_ok (r := false) (.base (.str _)) (by decide +kernel) ?_
  | refine isi_ok (r := true) (.base (.int _)) (by decide +kernel) ?_
  | refine isi_ok (r := false) (.base (.int _)) (by decide +kernel) ?_
  | refine isi_ok (r := true) (.base (.lst (by assumption))) (by decide +kernel) ?_
  | refine isi_ok (r := false) (.base (.lst (by assumption))) (by decide +kernel) ?_
  | fail)
local macro_rules | `(tactic| walk_at "rd") => `(tactic| repeat walk_at "rd1")

section
variable {P : Program} {w : World} {K : PySem.W.Frag} {mg : Str → Option Value} {base : Heap}
/-! ### _law_fresh -/
abbrev s__law_fresh : Stmt := topS 19
abbrev N__law_fresh : List Str := ["name", "used", "k"]
theorem sc__law_fresh : FnScope N__law_fresh ["name", "used"] (defScope s__law_fresh) := ⟨rfl, rfl, rfl, by decide +kernel, rfl, by decide +kernel, by decide +kernel⟩
def sp__law_fresh (K : PySem.W.Frag) : Sp := fun vs H Q _ => ∃ (nm : Str) (l : Addr) (us : List Str), vs = [.str nm, .ref l] ∧ SqL K H l (us.map V.str) ∧ us.length ≤ 1000 ∧ 1 ≤ nm.length ∧ nm.length ≤ 20 ∧ ∀ z : Str, 1 ≤ z.length → z.length ≤ 30 → Q (.str z) H
theorem num_pos {i : Int} (h0 : 0 ≤ i) : 1 ≤ (Str.ofString (toString i)).length := PySem.W.KLn.one_le h0
theorem ok__law_fresh {f__law_fresh : Addr} {fd__law_fresh : FuncData} (T : Tb mg) (D__law_fresh : Df K mg "_law_fresh" s__law_fresh ["name", "used"] f__law_fresh fd__law_fresh)  : FnOk P w K mg base CX0 1 f__law_fresh fd__law_fresh ["name", "used"] (sp__law_fresh K) := by
  refine D__law_fresh.F.ok sc__law_fresh (fun vs H Q E h => ?_) (fun cdv A outer s H vs Q E hr h => ?_)
  · obtain ⟨nm, l, us, rfl, _⟩ := h
    rfl
  · obtain ⟨nm, l, us, rfl, hl, ul, hn, nl, q⟩ := h
    refine ⟨_, (pss_cons (ps_if (pt_cmpR op_notIn_seq (pv 0) (pv 1) rfl)
   (pss_one (ps_ret (pv 0)))
   pss_nil)
  (pss_cons (ps_for PassesOwn.never rfl (pi_range1 (by rfl) T.m_range (pa_cons (pe_op op_add (pe_callB call_len_seq (by rfl) T.m_len (by decide +kernel) (pa_cons (pv 1) pa_nil)) pe_int) pa_nil)) (pg_name (i := 2) sc__law_fresh.nd rfl (.inl rfl))
   (pss_one (ps_if (pt_cmpR op_notIn_seq (pe_op op_add_str (pe_slice sl_str (pv 0) po_none (po_some pe_int)) (pe_callTy call_str_int (by rfl) T.m_str (by decide +kernel) (pa_cons (pv 2) pa_nil))) (pv 1) rfl)
   (pss_one (ps_ret (pe_op op_add_str (pe_slice sl_str (pv 0) po_none (po_some pe_int)) (pe_callTy call_str_int (by rfl) T.m_str (by decide +kernel) (pa_cons (pv 2) pa_nil)))))
   pss_nil)))
  (pss_one (ps_ret (pv 0))))), ?_⟩
    have np := hn
    refine ⟨.str nm, rfl, .ref l, rfl, l, _, rfl, .inl hl, rfl, flat_str us, _, rfl, if_b (fun _ => ?_) (fun _ => ?_)⟩
    · walk_at "rd"
      exact q nm hn (by omega)
    · refine ⟨.ref l, rfl, l, _, rfl, .inl hl, _, _, rfl, rfl, _, rfl, by rw [List.length_map]; omega, by rw [List.length_map]; omega, ?_⟩
      refine for_range (lo := 0) (fun i σ H' => H' = H ∧ ∃ (x : Option V), σ = [some (.str nm), some (.ref l), x]) ⟨rfl, none, rfl⟩ ?_ ?_
      · rintro i σ H' hi ⟨rfl, x, rfl⟩
        have c5 := cutS_length nm none (some 5)
        have hi' : i ≤ 1000 := by rw [List.length_map] at hi; omega
        have dl := num_len (i := 0 + (i : Int)) (by omega) (by omega)
        walk_at "rd"
        refine if_b (fun _ => ?_) (fun _ => ?_)
        · walk_at "rd"
          exact q _ (by rw [app_len]; have := num_pos (i := 0 + (i : Int)) (by omega); omega) (by rw [app_len]; omega)
        · exact ⟨rfl, _, rfl⟩
      · rintro σ H' ⟨rfl, x, rfl⟩
        walk_at "rd"
        exact q nm np (by omega)
/-! ### _law_bad_word -/
abbrev s__law_bad_word : Stmt := topS 21
abbrev N__law_bad_word : List Str := ["store", "name", "kind", "place"]
theorem sc__law_bad_word : FnScope N__law_bad_word ["store"] (defScope s__law_bad_word) := ⟨rfl, rfl, rfl, by decide +kernel, rfl, by decide +kernel, by decide +kernel⟩
def sp__law_bad_word (K : PySem.W.Frag) : Sp := fun vs H Q _ => ∃ (a : Addr), vs = [.ref a] ∧ ∃ cc, Sto a cc H ∧ ∀ H' (z : Str), Bt a H H' → Sto a cc H' → z.length ≤ 30 → Q (.str z) H'
theorem ok__law_bad_word {f__law_bad_word : Addr} {fd__law_bad_word : FuncData} {f__law_free_name : Addr} {fd__law_free_name : FuncData} {f__law_pick : Addr} {fd__law_pick : FuncData} {f__law_take : Addr} {fd__law_take : FuncData} (T : Tb mg) (D__law_bad_word : Df K mg "_law_bad_word" s__law_bad_word ["store"] f__law_bad_word fd__law_bad_word) (D__law_free_name : Df K mg "_law_free_name" s__law_free_name ["store", "most"] f__law_free_name fd__law_free_name) (D__law_pick : Df K mg "_law_pick" s__law_pick ["store", "items"] f__law_pick fd__law_pick) (D__law_take : Df K mg "_law_take" s__law_take ["store", "many"] f__law_take fd__law_take) (G__law_free_name : FnOk P w K mg base CX0 4 f__law_free_name fd__law_free_name ["store", "most"] (sp__law_free_name K)) (G__law_pickS : FnOk P w K mg base CX0 4 f__law_pick fd__law_pick ["store", "items"] (sp__law_pickS K)) (G__law_take : FnOk P w K mg base CX0 3 f__law_take fd__law_take ["store", "many"] (sp__law_take K)) : FnOk P w K mg base CX0 5 f__law_bad_word fd__law_bad_word ["store"] (sp__law_bad_word K) := by
  refine D__law_bad_word.F.ok sc__law_bad_word (fun vs H Q E h => ?_) (fun cdv A outer s H vs Q E hr h => ?_)
  · obtain ⟨a, rfl, _⟩ := h
    rfl
  · obtain ⟨a, rfl, cc, hs, q⟩ := h
    refine ⟨_, (pss_cons (ps_set (i := 1) sc__law_bad_word.nd rfl (.inl rfl) (pe_call G__law_free_name (hr.mono (by decide)) (by rfl) D__law_free_name.g D__law_free_name.F.kp D__law_free_name.b .nil pass0 (pa_cons (pv 0) (pa_cons pe_int pa_nil))))
  (pss_cons (ps_set (i := 2) sc__law_bad_word.nd rfl (.inl rfl) (pe_call G__law_take (hr.mono (by decide)) (by rfl) D__law_take.g D__law_take.F.kp D__law_take.b .nil pass0 (pa_cons (pv 0) (pa_cons pe_int pa_nil))))
  (pss_cons (ps_set (i := 3) sc__law_bad_word.nd rfl (.inl rfl) (pe_call G__law_take (hr.mono (by decide)) (by rfl) D__law_take.g D__law_take.F.kp D__law_take.b .nil pass0 (pa_cons (pv 0) (pa_cons (pe_op op_add (pe_callB call_len_str (by rfl) T.m_len (by decide +kernel) (pa_cons (pv 1) pa_nil)) pe_int) pa_nil))))
  (pss_cons (ps_if (pt_cmpR op_eq (pv 2) pe_int (nomark _))
   (pss_one (ps_ret (pe_op op_add_str (pe_callTy call_str_int (by rfl) T.m_str (by decide +kernel) (pa_cons (pe_call G__law_take (hr.mono (by decide)) (by rfl) D__law_take.g D__law_take.F.kp D__law_take.b .nil pass0 (pa_cons (pv 0) (pa_cons pe_int pa_nil))) pa_nil)) (pv 1))))
   pss_nil)
  (pss_cons (ps_if (pt_cmpR op_eq (pv 2) pe_int (nomark _))
   (pss_one (ps_ret (pe_slice sl_str (pe_op op_add_str (pv 1) pe_str) po_none (po_some (pe_op op_add pe_int (pe_call G__law_take (hr.mono (by decide)) (by rfl) D__law_take.g D__law_take.F.kp D__law_take.b .nil pass0 (pa_cons (pv 0) (pa_cons pe_int pa_nil))))))))
   pss_nil)
  (pss_cons (ps_if (pt_cmpR op_eq (pv 2) pe_int (nomark _))
   (pss_one (ps_ret (pe_op op_add_str (pe_op op_add_str (pe_slice sl_str (pv 1) po_none (po_some (pv 3))) (pe_call G__law_pickS (hr.mono (by decide)) (by rfl) D__law_pick.g D__law_pick.F.kp D__law_pick.b .nil pass0 (pa_cons (pv 0) (pa_cons pe_str pa_nil)))) (pe_slice sl_str (pv 1) (po_some (pv 3)) po_none))))
   pss_nil)
  (pss_one (ps_ret (pe_op op_add_str (pe_op op_add_str (pe_slice sl_str (pv 1) po_none (po_some (pv 3))) (pe_call G__law_pickS (hr.mono (by decide)) (by rfl) D__law_pick.g D__law_pick.F.kp D__law_pick.b .nil pass0 (pa_cons (pv 0) (pa_cons pe_str pa_nil)))) (pe_slice sl_str (pv 1) (po_some (pv 3)) po_none)))))))))), ?_⟩
    walk_at "rd"
    intro H1 nm b1 s1 n1 nl
    have np := n1.pos
    walk_at "rd"
    intro H2 kind b2 s2 k0 k1
    walk_at "rd"
    intro H3 place b3 s3 p0 p1
    have bb : Bt a H H3 := (b1.trans b2).trans b3
    walk_at "rd"
    have c0 := cutS_length nm none (some place)
    have c1 := cutS_length nm (some place) none
    have e10 : (Str.ofString "a0b1c2d3e4").length = 10 := by decide +kernel
    refine if_I (fun _ => ?_) (fun _ => ?_)
    · walk_at "rd"
      intro H4 r b4 s4 r0 r1
      have dl := num_len (i := r) (by omega) (by omega)
      walk_at "rd"
      exact q H4 _ (bb.trans b4) s4 (by rw [app_len]; omega)
    walk_at "rd"
    refine if_I (fun _ => ?_) (fun _ => ?_)
    · walk_at "rd"
      intro H4 r b4 s4 r0 r1
      have c2 := cutS_length (nm ++ Str.ofString "a0b1c2d3e4") none (some (9 + r))
      rw [app_len] at c2
      walk_at "rd"
      exact q H4 _ (bb.trans b4) s4 (by omega)
    walk_at "rd"
    refine if_I (fun _ => ?_) (fun _ => ?_)
    · walk_at "rd"
      intro H4 c b4 s4 _
      walk_at "rd"
      exact q H4 _ (bb.trans b4) s4 (by simp only [app_len, one_len]; omega)
    · walk_at "rd"
      intro H4 c b4 s4 _
      walk_at "rd"
      exact q H4 _ (bb.trans b4) s4 (by simp only [app_len, one_len]; omega)
end
end K1

namespace K1
open PySem PySem.Spec PyProof.Rows L2
/-! the steps of a reading -/
local macro_rules | `(tactic| walk_at "side") => `(tactic| first | rfl | decide | omega | assumption | exact flat_str _ | exact log_small (by omega) (by omega) | exact szl (by first | omega | assumption | (simp only [app_len, one_len]; omega)) | exact ⟨by decide, by decide, by decide⟩ | exact .inl ⟨Int.lt_of_lt_of_le (by decide : (-(2 ^ 64) : Int) < 0) (Int.fmod_nonneg_of_pos _ (by decide)), Int.lt_trans (Int.fmod_lt_of_pos _ (by decide)) (by decide)⟩ | exact .inr ⟨by decide, by decide⟩ | exact .inl ⟨by decide, by decide⟩ | (refine .inl ⟨?_, ?_⟩ <;> omega) | (refine .inr ⟨?_, ?_⟩ <;> omega))
local macro_rules | `(tactic| walk_at "at1") => `(tactic| first | assumption | exact upd_same | exact .inl (.inl upd_same) | exact .inl (.inl (by assumption)))
local macro_rules | `(tactic| walk_at "rd1") => `(tactic| first
  | refine ⟨_, rfl, ?_⟩
  | refine .inl ⟨_, rfl, ?_⟩
  | refine .inr ⟨_, rfl, ?_⟩
  | refine ⟨_, _, rfl, rfl, ?_⟩
  | refine ⟨_, _, rfl, ?_⟩
  | refine And.intro (by walk_at "side") ?_
  | refine ⟨_, _, _, _, rfl, rfl, .inl (.inl upd_same), rfl, ?_⟩
  | refine ⟨_, _, _, _, rfl, rfl, upd_same, rfl, ?_⟩
  | refine ⟨_, _, rfl, .inl (.inl (.inl upd_same)), ?_⟩
  | (refine' ⟨_, _, _, _, rfl, rfl, ?h, ?ca, ?k⟩; (case h => walk_at "at1"); (case ca => rfl))
  | (refine' ⟨_, _, rfl, .inl ?h, ?k⟩; (case h => walk_at "at1"))
  | refine ⟨_, _, _, rfl, ?_⟩
  | refine ⟨_, (by assumption : Sto _ _ _), ?_⟩
  | refine ⟨_, Sto.new (by assumption) (by assumption), ?_⟩
  | refine isi_ok (r := true) (.base (.str _)) (by decide +kernel) ?_
  | refine isi_ok (r := false) (.base (.str _)) (by decide +kernel) ?_
  | refine isi_ok (r := true) (.base (.int _)) (by decide +kernel) ?_
  | refine isi_ok (r := false) (.base (.int _)) (by decide +kernel) ?_
  | refine isi_ok (r := true) (.base (.lst (by assumption))) (by decide +kernel) ?_
  | refine isi_ok (r := false) (.base (.lst (by assumption))) (by decide +kernel) ?_
  | fail)
local macro_rules | `(tactic| walk_at "rd") => `(tactic| repeat walk_at "rd1")

/-! ### a text times a number -/
def mulS (z : Str) (n : Int) : Str := ⟨(List.replicate n.toNat z.cps).foldl (· ++ ·) #[]⟩
theorem fold_size (c : Array Nat) : ∀ (k : Nat) (acc : Array Nat), ((List.replicate k c).foldl (· ++ ·) acc).size = acc.size + k * c.size
  | 0, acc => by simp
  | k + 1, acc => by
    rw [List.replicate_succ, List.foldl_cons, fold_size c k, Array.size_append, Nat.add_mul]
    omega
theorem mulS_len (z : Str) (n : Int) : (mulS z n).length = n.toNat * z.length := by
  show ((List.replicate n.toNat z.cps).foldl (· ++ ·) #[]).size = n.toNat * z.cps.size
  rw [fold_size]
  simp
def rMulS : R2 := fun x y H Q => ∃ (z : Str) (n : Int), x = .str z ∧ y = .int n ∧ 2 ≤ n ∧ n ≤ 1000 ∧ 1 ≤ z.length ∧ z.length ≤ 1000 ∧ Q (.str (mulS z n)) H
section
variable {X : Cx}
theorem op_mulS : OpR X (binaryOp .Mult) rMulS := by
  intro pins s σ H x y v u Q I rx ry h
  obtain ⟨z, n, rfl, rfl, n1, n2, z1, z2, q⟩ := h
  obtain ⟨t, rfl⟩ := rx
  obtain ⟨t', rfl⟩ := ry
  have hlen : z.length * n.toNat ≤ 1000000 := by
    have : n.toNat ≤ 1000 := by omega
    exact Nat.le_trans (Nat.mul_le_mul z2 this) (by decide)
  refine PySem.P.mul_str ?_ (fun _ _ => ?_) (fun _ _ => ?_) ?_
  · have h1 : ¬ n < -(2 ^ 63 : Int) := by omega
    have h2 : ¬ n ≥ 2 ^ 63 := by omega
    rw [decide_eq_false h1, decide_eq_false h2]; rfl
  · intro hgt
    have hh : (2 ^ 63 - 1) / n ≥ 1000 := by
      apply (Int.le_ediv_iff_mul_le (by omega)).mpr
      omega
    omega
  · unfold Builtin.Str.tooLong
    exact decide_eq_false (by have : (1000000 : Nat) < 2 ^ 63 := by decide
                              have := szl hlen
                              simp only [sizeLine] at *
                              omega)
  · rw [if_neg (by omega), if_neg (by
      have h1 : (n == 1) = false := by simpa using (by omega : ¬ n = 1)
      have h2 : (z.length == 0) = false := by simpa using (by omega : ¬ z.length = 0)
      rw [h1, h2]; decide)]
    refine ⟨?_, .str (mulS z n), H, I.tok _, ⟨_, rfl⟩, q⟩
    exact szl (by have := mulS_len z n; rw [Nat.mul_comm] at this; unfold mulS at this; rw [this]; exact hlen)
end
section
variable {P : Program} {w : World} {K : PySem.W.Frag} {mg : Str → Option Value} {base : Heap}
theorem cutS_pre (z : Str) {h : Int} (h0 : 0 ≤ h) : ((cutS z none (some h)).length : Int) = min h z.length := by
  have e : h = ((h.toNat : Nat) : Int) := by omega
  generalize h.toNat = n at e
  subst e
  show ((((z.cps.toList.drop (HT.sIx z.length 0 none)).take (HT.sIx z.length z.length (some (n : Int)) - HT.sIx z.length 0 none)).toArray.size : Nat) : Int) = _
  rw [HT.sIx_nat, HT.sIx_none, List.size_toArray, List.length_take, List.drop_zero, str_len]
  omega
theorem cutS_post (z : Str) {h : Int} (h0 : 0 ≤ h) : ((cutS z (some h) none).length : Int) = z.length - min h z.length := by
  have e : h = ((h.toNat : Nat) : Int) := by omega
  generalize h.toNat = n at e
  subst e
  show ((((z.cps.toList.drop (HT.sIx z.length 0 (some (n : Int)))).take (HT.sIx z.length z.length none - HT.sIx z.length 0 (some (n : Int)))).toArray.size : Nat) : Int) = _
  rw [HT.sIx_nat, HT.sIx_none, List.size_toArray, List.length_take, List.length_drop, str_len]
  omega
theorem cutS_hi (z : Str) {h : Int} (h0 : 0 ≤ h) : ((cutS z none (some h)).length : Int) ≤ h := by
  rw [cutS_pre z h0]; omega
/-! ### _law_bad_name -/
abbrev s__law_bad_name : Stmt := topS 22
abbrev N__law_bad_name : List Str := ["store", "kind", "name", "place"]
theorem sc__law_bad_name : FnScope N__law_bad_name ["store"] (defScope s__law_bad_name) := ⟨rfl, rfl, rfl, by decide +kernel, rfl, by decide +kernel, by decide +kernel⟩
def sp__law_bad_name (K : PySem.W.Frag) : Sp := fun vs H Q _ => ∃ (a : Addr), vs = [.ref a] ∧ ∃ cc, Sto a cc H ∧ ∀ H' (z : Str), Bt a H H' → Sto a cc H' → z.length ≤ 4000 → Q (.str z) H'
theorem ok__law_bad_name {f__law_bad_name : Addr} {fd__law_bad_name : FuncData} {f__law_bad_word : Addr} {fd__law_bad_word : FuncData} {f__law_free_name : Addr} {fd__law_free_name : FuncData} {f__law_pick : Addr} {fd__law_pick : FuncData} {f__law_size : Addr} {fd__law_size : FuncData} {f__law_take : Addr} {fd__law_take : FuncData} (T : Tb mg) (D__law_bad_name : Df K mg "_law_bad_name" s__law_bad_name ["store"] f__law_bad_name fd__law_bad_name) (D__law_bad_word : Df K mg "_law_bad_word" s__law_bad_word ["store"] f__law_bad_word fd__law_bad_word) (D__law_free_name : Df K mg "_law_free_name" s__law_free_name ["store", "most"] f__law_free_name fd__law_free_name) (D__law_pick : Df K mg "_law_pick" s__law_pick ["store", "items"] f__law_pick fd__law_pick) (D__law_size : Df K mg "_law_size" s__law_size ["store", "usual", "most"] f__law_size fd__law_size) (D__law_take : Df K mg "_law_take" s__law_take ["store", "many"] f__law_take fd__law_take) (G__law_bad_word : FnOk P w K mg base CX0 5 f__law_bad_word fd__law_bad_word ["store"] (sp__law_bad_word K)) (G__law_free_name : FnOk P w K mg base CX0 4 f__law_free_name fd__law_free_name ["store", "most"] (sp__law_free_name K)) (G__law_pickS : FnOk P w K mg base CX0 4 f__law_pick fd__law_pick ["store", "items"] (sp__law_pickS K)) (G__law_size : FnOk P w K mg base CX0 4 f__law_size fd__law_size ["store", "usual", "most"] (sp__law_size K)) (G__law_take : FnOk P w K mg base CX0 3 f__law_take fd__law_take ["store", "many"] (sp__law_take K)) : FnOk P w K mg base CX0 6 f__law_bad_name fd__law_bad_name ["store"] (sp__law_bad_name K) := by
  refine D__law_bad_name.F.ok sc__law_bad_name (fun vs H Q E h => ?_) (fun cdv A outer s H vs Q E hr h => ?_)
  · obtain ⟨a, rfl, _⟩ := h
    rfl
  · obtain ⟨a, rfl, cc, hs, q⟩ := h
    refine ⟨_, (pss_cons (ps_set (i := 1) sc__law_bad_name.nd rfl (.inl rfl) (pe_call G__law_take (hr.mono (by decide)) (by rfl) D__law_take.g D__law_take.F.kp D__law_take.b .nil pass0 (pa_cons (pv 0) (pa_cons pe_int pa_nil))))
  (pss_cons (ps_set (i := 2) sc__law_bad_name.nd rfl (.inl rfl) (pe_call G__law_free_name (hr.mono (by decide)) (by rfl) D__law_free_name.g D__law_free_name.F.kp D__law_free_name.b .nil pass0 (pa_cons (pv 0) (pa_cons pe_int pa_nil))))
  (pss_cons (ps_set (i := 3) sc__law_bad_name.nd rfl (.inl rfl) (pe_call G__law_take (hr.mono (by decide)) (by rfl) D__law_take.g D__law_take.F.kp D__law_take.b .nil pass0 (pa_cons (pv 0) (pa_cons (pe_op op_add (pe_callB call_len_str (by rfl) T.m_len (by decide +kernel) (pa_cons (pv 2) pa_nil)) pe_int) pa_nil))))
  (pss_cons (ps_if (pt_cmpR op_eq (pv 1) pe_int (nomark _))
   (pss_one (ps_ret pe_str))
   pss_nil)
  (pss_cons (ps_if (pt_cmpR op_eq (pv 1) pe_int (nomark _))
   (pss_one (ps_ret (pe_op op_add_str (pe_op op_add_str (pe_slice sl_str (pv 2) po_none (po_some (pv 3))) (pe_call G__law_pickS (hr.mono (by decide)) (by rfl) D__law_pick.g D__law_pick.F.kp D__law_pick.b .nil pass0 (pa_cons (pv 0) (pa_cons pe_str pa_nil)))) (pe_slice sl_str (pv 2) (po_some (pv 3)) po_none))))
   pss_nil)
  (pss_cons (ps_if (pt_cmpR op_eq (pv 1) pe_int (nomark _))
   (pss_one (ps_ret (pe_slice sl_str (pe_op op_mulS (pv 2) pe_int) po_none (po_some (pe_op op_add pe_int (pe_call G__law_size (hr.mono (by decide)) (by rfl) D__law_size.g D__law_size.F.kp D__law_size.b .nil pass0 (pa_cons (pv 0) (pa_cons pe_int (pa_cons pe_int pa_nil)))))))))
   pss_nil)
  (pss_one (ps_ret (pe_call G__law_bad_word (hr.mono (by decide)) (by rfl) D__law_bad_word.g D__law_bad_word.F.kp D__law_bad_word.b .nil pass0 (pa_cons (pv 0) pa_nil)))))))))), ?_⟩
    walk_at "rd"
    intro H2 kind b2 s2 k0 k1
    walk_at "rd"
    intro H1 nm b1 s1 n1 nl
    have np := n1.pos
    walk_at "rd"
    intro H3 place b3 s3 p0 p1
    have bb : Bt a H H3 := (b2.trans b1).trans b3
    have c0 := cutS_length nm none (some place)
    have c1 := cutS_length nm (some place) none
    walk_at "rd"
    refine if_I (fun _ => ?_) (fun _ => ?_)
    · walk_at "rd"
      exact q H3 _ bb s3 (by decide)
    walk_at "rd"
    refine if_I (fun _ => ?_) (fun _ => ?_)
    · walk_at "rd"
      intro H4 c b4 s4 _
      walk_at "rd"
      exact q H4 _ (bb.trans b4) s4 (by simp only [app_len, one_len]; omega)
    walk_at "rd"
    refine if_I (fun _ => ?_) (fun _ => ?_)
    · walk_at "rd"
      intro H4 r b4 s4 r0 r1
      have ml := mulS_len nm 500
      have m5 : (500 : Int).toNat = 500 := rfl
      rw [m5] at ml
      have c2 := cutS_hi (mulS nm 500) (h := 9 + r) (by omega)
      walk_at "rd"
      exact q H4 _ (bb.trans b4) s4 (by omega)
    · walk_at "rd"
      intro H4 z b4 s4 zl
      exact q H4 _ (bb.trans b4) s4 (by omega)
end
end K1

namespace K1
open PySem PySem.Spec PyProof.Rows L2
/-! the steps of a reading -/
local macro_rules | `(tactic| walk_at "side") => `(tactic| first | rfl | decide | omega | assumption | exact flat_str _ | exact log_small (by omega) (by omega) | exact szl (by first | omega | assumption | (simp only [app_len, one_len]; omega)) | exact ⟨by decide, by decide, by decide⟩ | exact .inl ⟨Int.lt_of_lt_of_le (by decide : (-(2 ^ 64) : Int) < 0) (Int.fmod_nonneg_of_pos _ (by decide)), Int.lt_trans (Int.fmod_lt_of_pos _ (by decide)) (by decide)⟩ | exact .inr ⟨by decide, by decide⟩ | exact .inl ⟨by decide, by decide⟩ | (refine .inl ⟨?_, ?_⟩ <;> omega) | (refine .inr ⟨?_, ?_⟩ <;> omega))
local macro_rules | `(tactic| walk_at "at1") => `(tactic| first | assumption | exact upd_same | exact .inl (.inl upd_same) | exact .inl (.inl (by assumption)))
local macro_rules | `(tactic| walk_at "rd1") => `(tactic| first
  | refine ⟨_, rfl, ?_⟩
  | refine .inl ⟨_, rfl, ?_⟩
  | refine .inr ⟨_, rfl, ?_⟩
  | refine ⟨_, _, rfl, rfl, ?_⟩
  | refine ⟨_, _, rfl, ?_⟩
  | refine And.intro (by walk_at "side") ?_
  | refine ⟨_, _, _, _, rfl, rfl, .inl (.inl upd_same), rfl, ?_⟩
  | refine ⟨_, _, _, _, rfl, rfl, upd_same, rfl, ?_⟩
  | refine ⟨_, _, rfl, .inl (.inl (.inl upd_same)), ?_⟩
  | (refine' ⟨_, _, _, _, rfl, rfl, ?h, ?ca, ?k⟩; (case h => walk_at "at1"); (case ca => rfl))
  | (refine' ⟨_, _, rfl, .inl ?h, ?k⟩; (case h => walk_at "at1"))
  | refine ⟨_, _, _, rfl, ?_⟩
  | refine ⟨_, (by assumption : Sto _ _ _), ?_⟩
  | refine ⟨_, Sto.new (by assumption) (by assumption), ?_⟩
  | refine isi_ok (r := true) (.base (.str _)) (by decide +kernel) ?_
  | refine isi_ok (r := false) (.base (.str _)) (by decide +kernel) ?_
  | refine isi_ok (r := true) (.base (.int _)) (by decide +kernel) ?_
  | refine isi_ok (r := false) (.base (.int _)) (by decide +kernel) ?_
  | refine isi_ok (r := true) (.base (.lst (by assumption))) (by decide +kernel) ?_
  | refine isi_ok (r := false) (.base (.lst (by assumption))) (by decide +kernel) ?_
  | fail)
local macro_rules | `(tactic| walk_at "rd") => `(tactic| repeat walk_at "rd1")

section
variable {P : Program} {w : World} {K : PySem.W.Frag} {mg : Str → Option Value} {base : Heap}
/-! ### _law_names -/
abbrev s__law_names : Stmt := topS 20
abbrev N__law_names : List Str := ["store", "many", "used", "most", "style", "stem", "place", "taken", "found", "k", "name"]
theorem sc__law_names : FnScope N__law_names ["store", "many", "used", "most"] (defScope s__law_names) := ⟨rfl, rfl, rfl, by decide +kernel, rfl, by decide +kernel, by decide +kernel⟩
def sp__law_names (K : PySem.W.Frag) : Sp := fun vs H Q _ => ∃ (a : Addr) (many : Int) (l : Addr) (most : Int), vs = [.ref a, .int many, .ref l, .int most] ∧ 0 ≤ many ∧ many ≤ 400 ∧ 2 ≤ most ∧ most ≤ 8 ∧ l ≠ a ∧ (∃ us : List Str, SqL K H l (us.map V.str) ∧ us.length ≤ 400) ∧ ∃ cc, Sto a cc H ∧
  ∀ H' p (zs : List Str), Bt a H H' → Sto a cc H' → H p = none → H' p = some (.lst (zs.map V.str)) → (zs.length : Int) = many → (∀ z ∈ zs, z.length ≤ 30) → Q (.ref p) H'
/-- within a turn: the name so far -/
structure JN (a cc l tk fd : Addr) (many most style place k : Int) (stem : Str) (H : Hp) (ts fs : List Str) (σ' : L2.St) (H' : Hp) : Prop where
  ex : ∃ nm : Str, σ' = [some (.ref a), some (.int many), some (.ref l), some (.int most), some (.int style), some (.str stem), some (.int place), some (.ref tk), some (.ref fd), some (.int k), some (.str nm)] ∧ 1 ≤ nm.length ∧ nm.length ≤ 20
  bt : Bt a H H'
  st : Sto a cc H'
  tk : H' tk = some (.lst (ts.map V.str))
  fd : H' fd = some (.lst (fs.map V.str))
set_option maxHeartbeats 4000000 in
theorem ok__law_names {f__law_names : Addr} {fd__law_names : FuncData} {f__law_free_name : Addr} {fd__law_free_name : FuncData} {f__law_fresh : Addr} {fd__law_fresh : FuncData} {f__law_pick : Addr} {fd__law_pick : FuncData} {f__law_take : Addr} {fd__law_take : FuncData} (T : Tb mg) (D__law_names : Df K mg "_law_names" s__law_names ["store", "many", "used", "most"] f__law_names fd__law_names) (D__law_free_name : Df K mg "_law_free_name" s__law_free_name ["store", "most"] f__law_free_name fd__law_free_name) (D__law_fresh : Df K mg "_law_fresh" s__law_fresh ["name", "used"] f__law_fresh fd__law_fresh) (D__law_pick : Df K mg "_law_pick" s__law_pick ["store", "items"] f__law_pick fd__law_pick) (D__law_take : Df K mg "_law_take" s__law_take ["store", "many"] f__law_take fd__law_take) (G__law_free_name : FnOk P w K mg base CX0 4 f__law_free_name fd__law_free_name ["store", "most"] (sp__law_free_name K)) (G__law_fresh : FnOk P w K mg base CX0 1 f__law_fresh fd__law_fresh ["name", "used"] (sp__law_fresh K)) (G__law_pickS : FnOk P w K mg base CX0 4 f__law_pick fd__law_pick ["store", "items"] (sp__law_pickS K)) (G__law_take : FnOk P w K mg base CX0 3 f__law_take fd__law_take ["store", "many"] (sp__law_take K)) : FnOk P w K mg base CX0 5 f__law_names fd__law_names ["store", "many", "used", "most"] (sp__law_names K) := by
  refine D__law_names.F.ok sc__law_names (fun vs H Q E h => ?_) (fun cdv A outer s H vs Q E hr h => ?_)
  · obtain ⟨a, many, l, most, rfl, _⟩ := h
    rfl
  · obtain ⟨a, many, l, most, rfl, y0, y1, m1, m2, nla, ⟨us, hl, ul⟩, cc, hs, q⟩ := h
    refine ⟨_, (pss_cons (ps_set (i := 4) sc__law_names.nd rfl (.inl rfl) (pe_call G__law_take (hr.mono (by decide)) (by rfl) D__law_take.g D__law_take.F.kp D__law_take.b .nil pass0 (pa_cons (pv 0) (pa_cons pe_int pa_nil))))
  (pss_cons (ps_set (i := 5) sc__law_names.nd rfl (.inl rfl) (pe_slice sl_str (pe_op op_add_str (pe_call G__law_free_name (hr.mono (by decide)) (by rfl) D__law_free_name.g D__law_free_name.F.kp D__law_free_name.b .nil pass0 (pa_cons (pv 0) (pa_cons (pv 3) pa_nil))) pe_str) po_none (po_some (pe_op op_add pe_int (pe_call G__law_take (hr.mono (by decide)) (by rfl) D__law_take.g D__law_take.F.kp D__law_take.b .nil pass0 (pa_cons (pv 0) (pa_cons (pe_op op_sub (pv 3) pe_int) pa_nil)))))))
  (pss_cons (ps_set (i := 6) sc__law_names.nd rfl (.inl rfl) (pe_call G__law_take (hr.mono (by decide)) (by rfl) D__law_take.g D__law_take.F.kp D__law_take.b .nil pass0 (pa_cons (pv 0) (pa_cons (pe_callB call_len_str (by rfl) T.m_len (by decide +kernel) (pa_cons (pv 5) pa_nil)) pa_nil))))
  (pss_cons (ps_set (i := 7) sc__law_names.nd rfl (.inl rfl) (pe_callTy call_list_of (by rfl) T.m_list (by decide +kernel) (pa_cons (pv 2) pa_nil)))
  (pss_cons (ps_set (i := 8) sc__law_names.nd rfl (.inl rfl) (pe_lst pa_nil))
  (pss_cons (ps_for PassesOwn.never rfl (pi_range1 (by rfl) T.m_range (pa_cons (pv 1) pa_nil)) (pg_name (i := 9) sc__law_names.nd rfl (.inl rfl))
   (pss_cons (ps_set (i := 10) sc__law_names.nd rfl (.inl rfl) (pe_call G__law_free_name (hr.mono (by decide)) (by rfl) D__law_free_name.g D__law_free_name.F.kp D__law_free_name.b .nil pass0 (pa_cons (pv 0) (pa_cons (pe_ix ix_list (pe_lst (pa_cons pe_int (pa_cons (pv 3) pa_nil))) (pe_callTy call_int1 (by rfl) T.m_int (by decide +kernel) (pa_cons (pe_cmpR op_gt (pv 4) pe_int (nomark _)) pa_nil)) (fun _ _ => rfl)) pa_nil))))
  (Evl.pss_cut (ps_if (PW.pt (pw_and (pt_cmpR op_eq (pv 4) pe_int (nomark _)) (pw_and1 (pt_cmpR op_eq (pv 6) pe_int (nomark _)))))
   (pss_one (ps_set (i := 10) sc__law_names.nd rfl (.inl rfl) (pe_op op_add_str (pe_ix ix_str (pv 10) pe_int (fun _ _ => rfl)) (pe_slice sl_str (pv 5) (po_some pe_int) po_none))))
   pss_nil)
  (Evl.pss_cut (ps_if (PW.pt (pw_and (pt_cmpR op_eq (pv 4) pe_int (nomark _)) (pw_and1 (pt_cmpR op_gt (pv 6) pe_int (nomark _)))))
   (pss_one (ps_set (i := 10) sc__law_names.nd rfl (.inl rfl) (pe_op op_add_str (pe_op op_add_str (pe_slice sl_str (pv 5) po_none (po_some (pv 6))) (pe_call G__law_pickS (hr.mono (by decide)) (by rfl) D__law_pick.g D__law_pick.F.kp D__law_pick.b .nil pass0 (pa_cons (pv 0) (pa_cons pe_str pa_nil)))) (pe_slice sl_str (pv 5) (po_some (pe_op op_add (pv 6) pe_int)) po_none))))
   pss_nil)
  (Evl.pss_cut (ps_if (pt_cmpR op_eq (pv 4) pe_int (nomark _))
   (pss_one (ps_set (i := 10) sc__law_names.nd rfl (.inl rfl) (pe_slice sl_str (pv 5) po_none (po_some (pe_op op_add pe_int (pe_call G__law_take (hr.mono (by decide)) (by rfl) D__law_take.g D__law_take.F.kp D__law_take.b .nil pass0 (pa_cons (pv 0) (pa_cons (pe_callB call_len_str (by rfl) T.m_len (by decide +kernel) (pa_cons (pv 5) pa_nil)) pa_nil))))))))
   pss_nil)
  (Evl.pss_cut (ps_if (pt_cmpR op_eq (pv 4) pe_int (nomark _))
   (pss_one (ps_set (i := 10) sc__law_names.nd rfl (.inl rfl) (pe_slice sl_str (pe_op op_add_str (pv 10) pe_str) po_none (po_some (pv 3)))))
   pss_nil)
  (Evl.pss_cut (ps_if (pt_cmpR op_eq (pv 4) pe_int (nomark _))
   (pss_one (ps_set (i := 10) sc__law_names.nd rfl (.inl rfl) (pe_op op_add_str (pe_ix ix_str (pv 10) pe_int (fun _ _ => rfl)) (pe_callTy call_str_int (by rfl) T.m_str (by decide +kernel) (pa_cons (pe_call G__law_take (hr.mono (by decide)) (by rfl) D__law_take.g D__law_take.F.kp D__law_take.b .nil pass0 (pa_cons (pv 0) (pa_cons pe_int pa_nil))) pa_nil)))))
   pss_nil)
  (pss_cons (ps_set (i := 10) sc__law_names.nd rfl (.inl rfl) (pe_call G__law_fresh (hr.mono (by decide)) (by rfl) D__law_fresh.g D__law_fresh.F.kp D__law_fresh.b .nil pass0 (pa_cons (pv 10) (pa_cons (pv 7) pa_nil))))
  (pss_cons (ps_expr (pe_bm PySem.F.plainAttrs_list PySem.F.slot_list_append PySem.F.type_list_append mt_append (pv 7) (pa_cons (pv 10) pa_nil)))
  (pss_one (ps_expr (pe_bm PySem.F.plainAttrs_list PySem.F.slot_list_append PySem.F.type_list_append mt_append (pv 8) (pa_cons (pv 10) pa_nil)))))))))))))
  (pss_one (ps_ret (pv 8))))))))), ?_⟩
    walk_at "rd"
    intro H1 style b1 s1 k0 k1
    walk_at "rd"
    intro H2 nm0 b2 s2 n2 nl2
    have np2 := n2.pos
    have e8 : (Str.ofString "a1b2c3d4").length = 8 := by decide +kernel
    walk_at "rd"
    intro H3 t3 b3 s3 t0 t1
    have st1 := cutS_pre (nm0 ++ Str.ofString "a1b2c3d4") (h := 2 + t3) (by omega)
    rw [app_len, e8] at st1
    walk_at "rd"
    generalize hst : cutS (nm0 ++ Str.ofString "a1b2c3d4") none (some (2 + t3)) = stem at st1 ⊢
    have sl1 : 1 ≤ stem.length := by omega
    have sl2 : stem.length ≤ 16 := by omega
    clear st1 hst
    walk_at "rd"
    intro H4 place b4 s4 p0 p1
    have bb : Bt a H H4 := ((b1.trans b2).trans b3).trans b4
    refine ⟨_, rfl, l, _, rfl, .inl (bb.seq nla hl), fun tk htk => ?_⟩
    have tka : tk ≠ a := s4.ne htk
    have htk0 : H tk = none := bb.free tka htk
    refine ⟨Nat.zero_le _, fun fd hfd => ?_⟩
    have fda : fd ≠ a := (s4.new htk).ne hfd
    have bb2 := (bb.trans (Bt.new (o := .lst (us.map V.str)) htk)).trans (Bt.new (o := .lst []) hfd)
    have hfd0 : H fd = none := (bb.trans (Bt.new (o := .lst (us.map V.str)) htk)).free fda hfd
    have nft : fd ≠ tk := fun e => by rw [e, upd_same] at hfd; cases hfd
    clear b1 b2 b3 b4
    walk_at "rd"
    refine for_range (lo := 0) (fun i σ H' => Bt a H H' ∧ Sto a cc H' ∧ ∃ (ts fs : List Str) (x y : Option V), σ = [some (.ref a), some (.int many), some (.ref l), some (.int most), some (.int style), some (.str stem), some (.int place), some (.ref tk), some (.ref fd), x, y] ∧
      H' tk = some (.lst (ts.map V.str)) ∧ H' fd = some (.lst (fs.map V.str)) ∧ ts.length ≤ 400 + i ∧ fs.length = i ∧ ∀ z ∈ fs, z.length ≤ 30)
      ⟨bb2, (s4.new htk).new hfd, us, [], none, none, rfl, by rw [upd_ne nft.symm, upd_same], upd_same, by omega, rfl, fun z h => nomatch h⟩ ?_ ?_
    · rintro i σ H5 hi ⟨b5, s5, ts, fs, x, y, rfl, et, ef, tl, fl, al⟩
      walk_at "rd"
      refine ⟨by show 2 ≤ sizeLine; decide, fun p hp => ?_⟩
      walk_at "rd"
      obtain ⟨v, hv, hm⟩ := atI_in (xs := [V.int 1, .int most]) (r := if decide (style > 0) = true then 1 else 0) (by split <;> omega) (by show _ < (2 : Int); split <;> omega)
      obtain ⟨n, rfl, z1, z2⟩ : ∃ n : Int, v = .int n ∧ 1 ≤ n ∧ n ≤ 20 := by
        rcases List.mem_cons.mp hm with h | hm
        · exact ⟨1, h, by omega, by omega⟩
        rcases List.mem_cons.mp hm with h | hm
        · exact ⟨most, h, by omega, by omega⟩
        · cases hm
      refine ⟨p, _, _, _, rfl, rfl, .inl (.inl upd_same), hv, ?_⟩
      clear hv hm
      walk_at "rd"
      intro H6 nm b6 s6 nn nl
      have b56 : Bt a H5 H6 := (Bt.new hp).trans b6
      have nnp := nn.pos
      -- style 2, at the front
      refine ⟨JN a cc l tk fd many most style place (0 + i) stem H ts fs, ?_, ?_⟩
      · have j0 : JN a cc l tk fd many most style place (0 + i) stem H ts fs [some (.ref a), some (.int many), some (.ref l), some (.int most), some (.int style), some (.str stem), some (.int place), some (.ref tk), some (.ref fd), some (.int (0 + i)), some (.str nm)] H6 :=
          ⟨⟨nm, rfl, nnp, by omega⟩, b5.trans b56, s6, b56 _ _ tka et, b56 _ _ fda ef⟩
        walk_at "rd"
        refine if_I (fun _ => ?_) (fun _ => ?_)
        · walk_at "rd"
          refine if_I (fun _ => ?_) (fun _ => ?_)
          · obtain ⟨c, hc, _⟩ := atI_in (xs := nm.cps.toList) (r := 0) (by omega) (by rw [str_len]; omega)
            have c1 := cutS_length stem (some 1) none
            refine ⟨_, rfl, nm, 0, c, rfl, rfl, szl (by omega), hc, ?_⟩
            walk_at "rd"
            exact ⟨⟨_, rfl, by first | omega | (simp only [app_len, one_len]; omega), by first | omega | (simp only [app_len, one_len]; omega)⟩, b5.trans b56, s6, b56 _ _ tka et, b56 _ _ fda ef⟩
          · exact j0
        · exact j0
      clear nn nl nnp b56
      rintro σ' H7 ⟨⟨nm, rfl, l1, l2⟩, b7, s7, et7, ef7⟩
      -- style 2, inside
      refine ⟨JN a cc l tk fd many most style place (0 + i) stem H ts fs, ?_, ?_⟩
      · have j0 : JN a cc l tk fd many most style place (0 + i) stem H ts fs [some (.ref a), some (.int many), some (.ref l), some (.int most), some (.int style), some (.str stem), some (.int place), some (.ref tk), some (.ref fd), some (.int (0 + i)), some (.str nm)] H7 :=
          ⟨⟨nm, rfl, l1, l2⟩, b7, s7, et7, ef7⟩
        walk_at "rd"
        refine if_I (fun _ => ?_) (fun _ => ?_)
        · walk_at "rd"
          refine if_d (fun _ => ?_) (fun _ => ?_)
          · have c1 := cutS_length stem none (some place)
            have c2 := cutS_post stem (h := place + 1) (by omega)
            have c3 := cutS_pre stem (h := place) (by omega)
            walk_at "rd"
            intro H8 c b8 s8 _
            walk_at "rd"
            exact ⟨⟨_, rfl, by first | omega | (simp only [app_len, one_len]; omega), by first | omega | (simp only [app_len, one_len]; omega)⟩, b7.trans b8, s8, b8 _ _ tka et7, b8 _ _ fda ef7⟩
          · exact j0
        · exact j0
      rintro σ' H8 ⟨⟨nm, rfl, l1, l2⟩, b8, s8, et8, ef8⟩
      -- style 3
      refine ⟨JN a cc l tk fd many most style place (0 + i) stem H ts fs, ?_, ?_⟩
      · have j0 : JN a cc l tk fd many most style place (0 + i) stem H ts fs [some (.ref a), some (.int many), some (.ref l), some (.int most), some (.int style), some (.str stem), some (.int place), some (.ref tk), some (.ref fd), some (.int (0 + i)), some (.str nm)] H8 :=
          ⟨⟨nm, rfl, l1, l2⟩, b8, s8, et8, ef8⟩
        walk_at "rd"
        refine if_I (fun _ => ?_) (fun _ => ?_)
        · walk_at "rd"
          intro H9 r b9 s9 r0 r1
          have c1 := cutS_pre stem (h := 1 + r) (by omega)
          walk_at "rd"
          exact ⟨⟨_, rfl, by first | omega | (simp only [app_len, one_len]; omega), by first | omega | (simp only [app_len, one_len]; omega)⟩, b8.trans b9, s9, b9 _ _ tka et8, b9 _ _ fda ef8⟩
        · exact j0
      rintro σ' H9 ⟨⟨nm, rfl, l1, l2⟩, b9, s9, et9, ef9⟩
      -- style 4
      refine ⟨JN a cc l tk fd many most style place (0 + i) stem H ts fs, ?_, ?_⟩
      · have j0 : JN a cc l tk fd many most style place (0 + i) stem H ts fs [some (.ref a), some (.int many), some (.ref l), some (.int most), some (.int style), some (.str stem), some (.int place), some (.ref tk), some (.ref fd), some (.int (0 + i)), some (.str nm)] H9 :=
          ⟨⟨nm, rfl, l1, l2⟩, b9, s9, et9, ef9⟩
        walk_at "rd"
        refine if_I (fun _ => ?_) (fun _ => ?_)
        · have z8 : (Str.ofString "zyx9876z").length = 8 := by decide +kernel
          have c1 := cutS_pre (nm ++ Str.ofString "zyx9876z") (h := most) (by omega)
          rw [app_len] at c1
          walk_at "rd"
          exact ⟨⟨_, rfl, by first | omega | (simp only [app_len, one_len]; omega), by first | omega | (simp only [app_len, one_len]; omega)⟩, b9, s9, et9, ef9⟩
        · exact j0
      rintro σ' H10 ⟨⟨nm, rfl, l1, l2⟩, b10, s10, et10, ef10⟩
      -- style 5
      refine ⟨JN a cc l tk fd many most style place (0 + i) stem H ts fs, ?_, ?_⟩
      · have j0 : JN a cc l tk fd many most style place (0 + i) stem H ts fs [some (.ref a), some (.int many), some (.ref l), some (.int most), some (.int style), some (.str stem), some (.int place), some (.ref tk), some (.ref fd), some (.int (0 + i)), some (.str nm)] H10 :=
          ⟨⟨nm, rfl, l1, l2⟩, b10, s10, et10, ef10⟩
        walk_at "rd"
        refine if_I (fun _ => ?_) (fun _ => ?_)
        · obtain ⟨c, hc, _⟩ := atI_in (xs := nm.cps.toList) (r := 0) (by omega) (by rw [str_len]; omega)
          refine ⟨_, rfl, nm, 0, c, rfl, rfl, szl (by omega), hc, ?_⟩
          walk_at "rd"
          intro H11 r b11 s11 r0 r1
          have dl := num_len (i := r) (by omega) (by omega)
          walk_at "rd"
          exact ⟨⟨_, rfl, by first | omega | (simp only [app_len, one_len]; omega), by first | omega | (simp only [app_len, one_len]; omega)⟩, b10.trans b11, s11, b11 _ _ tka et10, b11 _ _ fda ef10⟩
        · exact j0
      rintro σ' H11 ⟨⟨nm, rfl, l1, l2⟩, b11, s11, et11, ef11⟩
      -- fresh, kept in both lists
      refine ⟨_, rfl, _, rfl, nm, tk, ts, rfl, .inl (.inl et11), by omega, l1, l2, fun z z1 z2 => ?_⟩
      refine ⟨.ref tk, rfl, .inl ⟨rfl, _, .inl (.inl et11)⟩, .str z, rfl, tk, _, .str z, rfl, rfl, et11, szt (by rw [List.length_map]; omega), ?_⟩
      have ef12 : upd H11 tk (.lst (ts.map V.str ++ [.str z])) fd = some (.lst (fs.map V.str)) := by rw [upd_ne nft]; exact ef11
      refine ⟨.ref fd, rfl, .inl ⟨rfl, _, .inl (.inl ef12)⟩, .str z, rfl, fd, _, .str z, rfl, rfl, ef12, szt (by rw [List.length_map]; omega), ?_⟩
      refine ⟨(b11.put htk0).put hfd0, (s11.put hs htk0).put hs hfd0, ts ++ [z], fs ++ [z], _, _, rfl, ?_, ?_, by rw [List.length_append]; show _ + 1 ≤ _; omega, by rw [List.length_append]; show _ + 1 = _; omega, fun y hy => ?_⟩
      · rw [upd_ne nft.symm, upd_same, List.map_append]; rfl
      · rw [upd_same, List.map_append]; rfl
      · rcases List.mem_append.mp hy with h | h
        · exact al y h
        · rw [List.mem_singleton.mp h]; exact z2
    · rintro σ H' ⟨b5, s5, ts, fs, x, y, rfl, et, ef, tl, fl, al⟩
      walk_at "rd"
      exact q H' fd fs b5 s5 hfd0 ef (by omega) al
end
end K1

namespace K1
open PySem PySem.Spec PyProof.Rows L2
/-! the steps of a reading -/
local macro_rules | `(tactic| walk_at "side") => `(tactic| first | rfl | decide | omega | assumption | exact flat_str _ | exact log_small (by omega) (by omega) | exact szl (by first | omega | assumption | (simp only [app_len, one_len]; omega)) | exact ⟨by decide, by decide, by decide⟩ | exact .inl ⟨Int.lt_of_lt_of_le (by decide : (-(2 ^ 64) : Int) < 0) (Int.fmod_nonneg_of_pos _ (by decide)), Int.lt_trans (Int.fmod_lt_of_pos _ (by decide)) (by decide)⟩ | exact .inr ⟨by decide, by decide⟩ | exact .inl ⟨by decide, by decide⟩ | (refine .inl ⟨?_, ?_⟩ <;> omega) | (refine .inr ⟨?_, ?_⟩ <;> omega))
local macro_rules | `(tactic| walk_at "at1") => `(tactic| first | assumption | exact upd_same | exact .inl (.inl upd_same) | exact .inl (.inl (by assumption)))
local macro_rules | `(tactic| walk_at "rd1") => `(tactic| first
  | refine ⟨_, rfl, ?_⟩
  | refine .inl ⟨_, rfl, ?_⟩
  | refine .inr ⟨_, rfl, ?_⟩
  | refine ⟨_, _, rfl, rfl, ?_⟩
  | refine ⟨_, _, rfl, ?_⟩
  | refine And.intro (by walk_at "side") ?_
  | refine ⟨_, _, _, _, rfl, rfl, .inl (.inl upd_same), rfl, ?_⟩
  | refine ⟨_, _, _, _, rfl, rfl, upd_same, rfl, ?_⟩
  | refine ⟨_, _, rfl, .inl (.inl (.inl upd_same)), ?_⟩
  | (refine' ⟨_, _, _, _, rfl, rfl, ?h, ?ca, ?k⟩; (case h => walk_at "at1"); (case ca => rfl))
  | (refine' ⟨_, _, rfl, .inl ?h, ?k⟩; (case h => walk_at "at1"))
  | refine ⟨_, _, _, rfl, ?_⟩
  | refine ⟨_, (by assumption : Sto _ _ _), ?_⟩
  | refine ⟨_, Sto.new (by assumption) (by assumption), ?_⟩
  | refine isi_ok (r := true) (.base (.str _)) (by decide +kernel) ?_
  | refine isi_ok (r := false) (.base (.str _)) (by decide +kernel) ?_
  | refine isi_ok (r := true) (.base (.int _)) (by decide +kernel) ?_
  | refine isi_ok (r := false) (.base (.int _)) (by decide +kernel) ?_
  | refine isi_ok (r := true) (.base (.lst (by assumption))) (by decide +kernel) ?_
  | refine isi_ok (r := false) (.base (.lst (by assumption))) (by decide +kernel) ?_
  | fail)
local macro_rules | `(tactic| walk_at "rd") => `(tactic| repeat walk_at "rd1")

section
variable {P : Program} {w : World} {K : PySem.W.Frag} {mg : Str → Option Value} {base : Heap}
/-! ### _law_text_list -/
abbrev s__law_text_list : Stmt := topS 23
abbrev N__law_text_list : List Str := ["store", "most", "stock", "k"]
theorem sc__law_text_list : FnScope N__law_text_list ["store", "most"] (defScope s__law_text_list) := ⟨rfl, rfl, rfl, by decide +kernel, rfl, by decide +kernel, by decide +kernel⟩
def sp__law_text_list (K : PySem.W.Frag) : Sp := fun vs H Q _ => ∃ (a : Addr) (most : Int), vs = [.ref a, .int most] ∧ most < 1000 ∧ ∃ cc, Sto a cc H ∧
  ∀ H' p (zs : List Str), Bt a H H' → Sto a cc H' → H p = none → H' p = some (.lst (zs.map V.str)) → (zs.length : Int) ≤ max 0 most → Q (.ref p) H'
theorem mem_strs {y : V} {zs : List Str} (h : y ∈ zs.map V.str) : ∃ z, y = .str z ∧ z ∈ zs := by
  obtain ⟨z, hz, e⟩ := List.mem_map.mp h
  exact ⟨z, e.symm, hz⟩
theorem ok__law_text_list {f__law_text_list : Addr} {fd__law_text_list : FuncData} {f__law_bad_name : Addr} {fd__law_bad_name : FuncData} {f__law_names : Addr} {fd__law_names : FuncData} {f__law_pick : Addr} {fd__law_pick : FuncData} {f__law_size : Addr} {fd__law_size : FuncData} {f__law_text : Addr} {fd__law_text : FuncData} (T : Tb mg) (D__law_text_list : Df K mg "_law_text_list" s__law_text_list ["store", "most"] f__law_text_list fd__law_text_list) (D__law_bad_name : Df K mg "_law_bad_name" s__law_bad_name ["store"] f__law_bad_name fd__law_bad_name) (D__law_names : Df K mg "_law_names" s__law_names ["store", "many", "used", "most"] f__law_names fd__law_names) (D__law_pick : Df K mg "_law_pick" s__law_pick ["store", "items"] f__law_pick fd__law_pick) (D__law_size : Df K mg "_law_size" s__law_size ["store", "usual", "most"] f__law_size fd__law_size) (D__law_text : Df K mg "_law_text" s__law_text ["store", "most"] f__law_text fd__law_text) (G__law_bad_name : FnOk P w K mg base CX0 6 f__law_bad_name fd__law_bad_name ["store"] (sp__law_bad_name K)) (G__law_names : FnOk P w K mg base CX0 5 f__law_names fd__law_names ["store", "many", "used", "most"] (sp__law_names K)) (G__law_pickL : FnOk P w K mg base CX0 4 f__law_pick fd__law_pick ["store", "items"] (sp__law_pickL K)) (G__law_size : FnOk P w K mg base CX0 4 f__law_size fd__law_size ["store", "usual", "most"] (sp__law_size K)) (G__law_text : FnOk P w K mg base CX0 6 f__law_text fd__law_text ["store", "most"] (sp__law_text K)) : FnOk P w K mg base CX0 7 f__law_text_list fd__law_text_list ["store", "most"] (sp__law_text_list K) := by
  refine D__law_text_list.F.ok sc__law_text_list (fun vs H Q E h => ?_) (fun cdv A outer s H vs Q E hr h => ?_)
  · obtain ⟨a, most, rfl, _⟩ := h
    rfl
  · obtain ⟨a, most, rfl, m1, cc, hs, q⟩ := h
    refine ⟨_, (pss_cons (ps_set (i := 2) sc__law_text_list.nd rfl (.inr rfl) (pe_op op_cat (pe_call G__law_names (hr.mono (by decide)) (by rfl) D__law_names.g D__law_names.F.kp D__law_names.b .nil pass0 (pa_cons (pv 0) (pa_cons pe_int (pa_cons (pe_lst pa_nil) (pa_cons pe_int pa_nil))))) (pe_lst (pa_cons (pe_call G__law_text (hr.mono (by decide)) (by rfl) D__law_text.g D__law_text.F.kp D__law_text.b .nil pass0 (pa_cons (pv 0) (pa_cons pe_int pa_nil))) (pa_cons (pe_call G__law_bad_name (hr.mono (by decide)) (by rfl) D__law_bad_name.g D__law_bad_name.F.kp D__law_bad_name.b .nil pass0 (pa_cons (pv 0) pa_nil)) (pa_cons pe_str pa_nil))))))
  (pss_one (ps_ret (pe_lc (own := [("k", 3)]) (g := gName 3) (tt := tYes) rfl sc__law_text_list.nd (pi_range1 (by rfl) T.m_range (pa_cons (pe_call G__law_size (hr.mono (by decide)) (by rfl) D__law_size.g D__law_size.F.kp D__law_size.b .nil pass0 (pa_cons (pv 0) (pa_cons pe_int (pa_cons (pv 1) pa_nil)))) pa_nil)) (blkOk_by (N := N__law_text_list) (sc := defScope s__law_text_list) (by decide +kernel))
    (fun _ _ _ _ _ => (pg_name (i := 3) sc__law_text_list.nd rfl (Or.inl rfl))) (fun _ _ _ _ _ => pts_nil) (fun _ _ _ _ _ => (pe_call G__law_pickL (hr.mono (by decide)) (by rfl) D__law_pick.g D__law_pick.F.kp D__law_pick.b .nil pass0 (pa_cons (pv 0) (pa_cons (pv 2) pa_nil)))))))), ?_⟩
    walk_at "rd"
    intro l hl
    have la := hs.ne hl
    walk_at "rd"
    refine ⟨a, 4, l, 8, rfl, by omega, by omega, by omega, by omega, la, ⟨[], .inl (.inl upd_same), by decide⟩, cc, hs.new hl, fun H1 p1 zs1 b1 s1 f1 e1 z1 _ => ?_⟩
    have c1 : Bt a H H1 := (Bt.new hl).trans b1
    walk_at "rd"
    intro H2 z2 b2 s2 zl2
    walk_at "rd"
    intro H3 z3 b3 s3 zl3
    walk_at "rd"
    refine ⟨by show 3 ≤ sizeLine; decide, fun t ht => ?_⟩
    have p1a : p1 ≠ a := (hs.new hl).ne f1
    have e1' := b3 _ _ p1a (b2 _ _ p1a e1)
    have e1t : upd H3 t (.lst [.str z2, .str z3, .str (Str.ofString "")]) p1 = some (.lst (zs1.map V.str)) := by rw [upd_ne (ne_of_none e1' ht)]; exact e1'
    have z1n : zs1.length = 4 := by omega
    refine ⟨p1, t, _, _, rfl, rfl, e1t, upd_same, szl (by rw [List.length_map, z1n]; show 4 + 3 ≤ 1000000; decide), fun sk hsk => ?_⟩
    have st := s3.new (o := .lst [.str z2, .str z3, .str (Str.ofString "")]) ht
    have ska := st.ne hsk
    have c4 : Bt a H (upd H3 t (.lst [.str z2, .str z3, .str (Str.ofString "")])) := ((c1.trans b2).trans b3).trans (Bt.new ht)
    have s5 := st.new (o := .lst (zs1.map V.str ++ [.str z2, .str z3, .str (Str.ofString "")])) hsk
    have c5 := c4.trans (Bt.new (o := .lst (zs1.map V.str ++ [.str z2, .str z3, .str (Str.ofString "")])) hsk)
    have e5 : upd (upd H3 t (.lst [.str z2, .str z3, .str (Str.ofString "")])) sk (.lst (zs1.map V.str ++ [.str z2, .str z3, .str (Str.ofString "")])) sk = some (.lst ((zs1 ++ [z2, z3, Str.ofString ""]).map V.str)) := by
      rw [upd_same, List.map_append]; rfl
    have ln : (zs1 ++ [z2, z3, Str.ofString ""]).length = 7 := by rw [List.length_append, z1n]; rfl
    generalize zs1 ++ [z2, z3, Str.ofString ""] = stk at e5 ln
    generalize upd (upd H3 t (.lst [.str z2, .str z3, .str (Str.ofString "")])) sk (.lst (zs1.map V.str ++ [.str z2, .str z3, .str (Str.ofString "")])) = H5 at s5 c5 e5 ⊢
    clear c4 st e1t e1' hsk ht e1 b1 b2 b3
    walk_at "rd"
    intro H6 n b6 s6 n0 n1
    have e6 := b6 _ _ ska e5
    have c6 := c5.trans b6
    refine ⟨n, rfl, by omega, by omega, fun D hD => lc_range (lo := 0) (n := n.toNat) (fun i H7 => Bt a H6 H7 ∧ Sto a cc H7 ∧ ∃ ys : List Str, H7 D = some (.lst (ys.map V.str)) ∧ ys.length = i)
      ⟨Bt.new hD, s6.new hD, [], upd_same, rfl⟩ ?_ ?_⟩
    · have Da := s6.ne hD
      rintro i H7 hi ⟨b7, s7, ys, e7, l7⟩
      refine ⟨rfl, ?_⟩
      walk_at "rd"
      refine ⟨a, sk, _, rfl, ska, .inl (.inl (b7 _ _ ska e6)), by rw [List.length_map, ln]; decide, by rw [List.length_map, ln]; decide, cc, s7, fun H8 x b8 s8 hx => ?_⟩
      obtain ⟨z, rfl, _⟩ := mem_strs hx
      have e8 := b8 _ _ Da e7
      refine ⟨_, e8, szt (by rw [List.length_map]; omega), (b7.trans b8).put hD, s8.put s6 hD, ys ++ [z], ?_, by rw [List.length_append, l7]; rfl⟩
      rw [upd_same, List.map_append]; rfl
    · rintro H7 ⟨b7, s7, ys, e7, l7⟩
      exact q H7 D ys (c6.trans b7) s7 (c6.free (s6.ne hD) hD) e7 (by omega)
/-! ### _law_texts -/
abbrev s__law_texts : Stmt := topS 30
abbrev N__law_texts : List Str := ["store", "found", "k", "stem", "number"]
theorem sc__law_texts : FnScope N__law_texts ["store"] (defScope s__law_texts) := ⟨rfl, rfl, rfl, by decide +kernel, rfl, by decide +kernel, by decide +kernel⟩
def sp__law_texts (K : PySem.W.Frag) : Sp := fun vs H Q _ => ∃ (a : Addr), vs = [.ref a] ∧ ∃ cc, Sto a cc H ∧
  ∀ H' p (zs : List Str), Bt a H H' → Sto a cc H' → H p = none → H' p = some (.lst (zs.map V.str)) → zs.length ≤ 400 → Q (.ref p) H'
theorem perm_strs : ∀ {zs : List Str} {ys : List V}, ys.Perm (zs.map V.str) → ∃ us : List Str, ys = us.map V.str ∧ us.length = zs.length := fun {zs ys} h => by
  have len := h.length_eq
  have all : ∀ y ∈ ys, ∃ z, y = V.str z := fun y hy => by
    obtain ⟨z, e, _⟩ := mem_strs (h.mem_iff.mp hy)
    exact ⟨z, e⟩
  have mk : ∀ l : List V, (∀ y ∈ l, ∃ z, y = V.str z) → ∃ us : List Str, l = us.map V.str := by
    intro l
    induction l with
    | nil => exact fun _ => ⟨[], rfl⟩
    | cons y l ih =>
      intro h
      obtain ⟨z, e⟩ := h y List.mem_cons_self
      obtain ⟨us, e2⟩ := ih fun x hx => h x (List.mem_cons_of_mem _ hx)
      exact ⟨z :: us, by rw [e, e2]; rfl⟩
  obtain ⟨us, e⟩ := mk ys all
  refine ⟨us, e, ?_⟩
  rw [e, List.length_map, List.length_map] at len
  exact len
theorem cutV_pre (xs : List V) (n : Nat) : cutV xs none (some (n : Int)) = xs.take n := by
  unfold cutV
  rw [HT.sIx_nat, HT.sIx_none, List.drop_zero, Nat.sub_zero]
  rcases Nat.le_total n xs.length with h | h
  · rw [Nat.min_eq_left h]
  · rw [Nat.min_eq_right h, List.take_length, List.take_of_length_le h]
theorem ok__law_texts {f__law_texts : Addr} {fd__law_texts : FuncData} {f__law_free_name : Addr} {fd__law_free_name : FuncData} {f__law_shuffled : Addr} {fd__law_shuffled : FuncData} {f__law_size : Addr} {fd__law_size : FuncData} {f__law_take : Addr} {fd__law_take : FuncData} {f__law_text : Addr} {fd__law_text : FuncData} {f__law_text_list : Addr} {fd__law_text_list : FuncData} (T : Tb mg) (D__law_texts : Df K mg "_law_texts" s__law_texts ["store"] f__law_texts fd__law_texts) (D__law_free_name : Df K mg "_law_free_name" s__law_free_name ["store", "most"] f__law_free_name fd__law_free_name) (D__law_shuffled : Df K mg "_law_shuffled" s__law_shuffled ["store", "items"] f__law_shuffled fd__law_shuffled) (D__law_size : Df K mg "_law_size" s__law_size ["store", "usual", "most"] f__law_size fd__law_size) (D__law_take : Df K mg "_law_take" s__law_take ["store", "many"] f__law_take fd__law_take) (D__law_text : Df K mg "_law_text" s__law_text ["store", "most"] f__law_text fd__law_text) (D__law_text_list : Df K mg "_law_text_list" s__law_text_list ["store", "most"] f__law_text_list fd__law_text_list) (G__law_free_name : FnOk P w K mg base CX0 4 f__law_free_name fd__law_free_name ["store", "most"] (sp__law_free_name K)) (G__law_shuffled : FnOk P w K mg base CX0 4 f__law_shuffled fd__law_shuffled ["store", "items"] (sp__law_shuffled K)) (G__law_size : FnOk P w K mg base CX0 4 f__law_size fd__law_size ["store", "usual", "most"] (sp__law_size K)) (G__law_take : FnOk P w K mg base CX0 3 f__law_take fd__law_take ["store", "many"] (sp__law_take K)) (G__law_text : FnOk P w K mg base CX0 6 f__law_text fd__law_text ["store", "most"] (sp__law_text K)) (G__law_text_list : FnOk P w K mg base CX0 7 f__law_text_list fd__law_text_list ["store", "most"] (sp__law_text_list K)) : FnOk P w K mg base CX0 8 f__law_texts fd__law_texts ["store"] (sp__law_texts K) := by
  refine D__law_texts.F.ok sc__law_texts (fun vs H Q E h => ?_) (fun cdv A outer s H vs Q E hr h => ?_)
  · obtain ⟨a, rfl, _⟩ := h
    rfl
  · obtain ⟨a, rfl, cc, hs, q⟩ := h
    refine ⟨_, (pss_cons (ps_set (i := 1) sc__law_texts.nd rfl (.inl rfl) (pe_op op_cat (pe_call G__law_text_list (hr.mono (by decide)) (by rfl) D__law_text_list.g D__law_text_list.F.kp D__law_text_list.b .nil pass0 (pa_cons (pv 0) (pa_cons pe_int pa_nil))) (pe_lc (own := [("k", 2)]) (g := gName 2) (tt := tYes) rfl sc__law_texts.nd (pi_range1 (by rfl) T.m_range (pa_cons (pe_call G__law_take (hr.mono (by decide)) (by rfl) D__law_take.g D__law_take.F.kp D__law_take.b .nil pass0 (pa_cons (pv 0) (pa_cons pe_int pa_nil))) pa_nil)) (blkOk_by (N := N__law_texts) (sc := defScope s__law_texts) (by decide +kernel))
    (fun _ _ _ _ _ => (pg_name (i := 2) sc__law_texts.nd rfl (Or.inl rfl))) (fun _ _ _ _ _ => pts_nil) (fun _ _ _ _ _ => (pe_call G__law_text (hr.mono (by decide)) (by rfl) D__law_text.g D__law_text.F.kp D__law_text.b .nil pass0 (pa_cons (pv 0) (pa_cons pe_int pa_nil)))))))
  (pss_cons (ps_set (i := 1) sc__law_texts.nd rfl (.inl rfl) (pe_slice sl_list (pv 1) po_none (po_some pe_int)))
  (pss_cons (ps_set (i := 3) sc__law_texts.nd rfl (.inl rfl) (pe_call G__law_free_name (hr.mono (by decide)) (by rfl) D__law_free_name.g D__law_free_name.F.kp D__law_free_name.b .nil pass0 (pa_cons (pv 0) (pa_cons pe_int pa_nil))))
  (pss_cons (ps_for PassesOwn.never rfl (pi_range1 (by rfl) T.m_range (pa_cons (pe_call G__law_size (hr.mono (by decide)) (by rfl) D__law_size.g D__law_size.F.kp D__law_size.b .nil pass0 (pa_cons (pv 0) (pa_cons pe_int (pa_cons (pe_op op_sub pe_int (pe_callB call_len_seq (by rfl) T.m_len (by decide +kernel) (pa_cons (pv 1) pa_nil))) pa_nil)))) pa_nil)) (pg_name (i := 2) sc__law_texts.nd rfl (.inl rfl))
   (pss_cons (ps_set (i := 4) sc__law_texts.nd rfl (.inl rfl) (pe_call G__law_take (hr.mono (by decide)) (by rfl) D__law_take.g D__law_take.F.kp D__law_take.b .nil pass0 (pa_cons (pv 0) (pa_cons (pe_op op_pow pe_int pe_int) pa_nil))))
  (pss_one (ps_expr (pe_bm PySem.F.plainAttrs_list PySem.F.slot_list_append PySem.F.type_list_append mt_append (pv 1) (pa_cons (pe_op op_add_str (pe_slice sl_str (pv 3) po_none (po_some (pe_op op_modN (pe_callTy call_int1 (by rfl) T.m_int (by decide +kernel) (pa_cons (pv 4) pa_nil)) pe_int))) (pe_callTy call_str_int (by rfl) T.m_str (by decide +kernel) (pa_cons (pe_op op_modN (pe_callTy call_int1 (by rfl) T.m_int (by decide +kernel) (pa_cons (pe_op op_fdivW (pv 4) pe_int) pa_nil)) pe_int) pa_nil))) pa_nil))))))
  (pss_one (ps_ret (pe_call G__law_shuffled (hr.mono (by decide)) (by rfl) D__law_shuffled.g D__law_shuffled.F.kp D__law_shuffled.b .nil pass0 (pa_cons (pv 0) (pa_cons (pv 1) pa_nil))))))))), ?_⟩
    walk_at "rd"
    intro H1 p1 zs1 b1 s1 f1 e1 l1
    walk_at "rd"
    intro H2 r b2 s2 r0 r1
    refine ⟨r, rfl, by omega, by omega, fun D hD => lc_range (lo := 0) (n := r.toNat) (fun i H7 => Bt a H2 H7 ∧ Sto a cc H7 ∧ ∃ ys : List Str, H7 D = some (.lst (ys.map V.str)) ∧ ys.length = i)
      ⟨Bt.new hD, s2.new hD, [], upd_same, rfl⟩ ?_ ?_⟩
    · have Da := s2.ne hD
      rintro i H7 hi ⟨b7, s7, ys, e7, l7⟩
      refine ⟨rfl, ?_⟩
      walk_at "rd"
      intro H8 z b8 s8 _
      have e8 := b8 _ _ Da e7
      refine ⟨_, e8, szt (by rw [List.length_map]; omega), (b7.trans b8).put hD, s8.put s2 hD, ys ++ [z], ?_, by rw [List.length_append, l7]; rfl⟩
      rw [upd_same, List.map_append]; rfl
    rintro H7 ⟨b7, s7, ys, e7, l7⟩
    have p1a := hs.ne f1
    have e17 := b7 _ _ p1a (b2 _ _ p1a e1)
    have c7 : Bt a H H7 := (b1.trans b2).trans b7
    refine ⟨p1, D, _, _, rfl, rfl, e17, e7, szl (by rw [List.length_map, List.length_map]; omega), fun p3 h3 => ?_⟩
    have c8 := c7.trans (Bt.new (o := .lst (zs1.map V.str ++ ys.map V.str)) h3)
    have s8 := s7.new (o := .lst (zs1.map V.str ++ ys.map V.str)) h3
    walk_at "rd"
    refine ⟨p3, _, rfl, .inl (.inl upd_same), fun p4 h4 => ?_⟩
    have p4a := s8.ne h4
    have f4 : H p4 = none := c8.free p4a h4
    have s9 := s8.new (o := .lst (cutV (zs1.map V.str ++ ys.map V.str) none (some 400))) h4
    have c9 := c8.trans (Bt.new (o := .lst (cutV (zs1.map V.str ++ ys.map V.str) none (some 400))) h4)
    obtain ⟨ws, ew, wl⟩ : ∃ ws : List Str, cutV (zs1.map V.str ++ ys.map V.str) none (some 400) = ws.map V.str ∧ ws.length ≤ 400 := by
      refine ⟨(zs1 ++ ys).take 400, ?_, by rw [List.length_take]; omega⟩
      rw [← List.map_append]
      exact (cutV_pre _ 400).trans (List.map_take ..).symm
    rw [ew] at s9 c9 ⊢
    have e9 : upd (upd H7 p3 (.lst (zs1.map V.str ++ ys.map V.str))) p4 (.lst (ws.map V.str)) p4 = some (.lst (ws.map V.str)) := upd_same
    generalize upd (upd H7 p3 (.lst (zs1.map V.str ++ ys.map V.str))) p4 (.lst (ws.map V.str)) = H9 at s9 c9 e9 ⊢
    clear s8 c8 c7 e7 e17 ew h4
    walk_at "rd"
    intro H10 stem b10 s10 _ sl
    have e10 := b10 _ _ p4a e9
    have c10 := c9.trans b10
    walk_at "rd"
    rw [List.length_map]
    intro H11 n b11 s11 n0 n1
    have c11 := c10.trans b11
    refine ⟨n, rfl, by omega, by omega, ?_⟩
    refine for_range (lo := 0) (fun i σ H' => Bt a H H' ∧ Sto a cc H' ∧ ∃ (fs : List Str) (x y : Option V), σ = [some (.ref a), some (.ref p4), x, some (.str stem), y] ∧ H' p4 = some (.lst (fs.map V.str)) ∧ fs.length = ws.length + i)
      ⟨c11, s11, ws, none, none, rfl, b11 _ _ p4a e10, rfl⟩ ?_ ?_
    · rintro i σ H12 hi ⟨c12, s12, fs, x, y, rfl, e12, l12⟩
      walk_at "rd"
      intro H13 num b13 s13 num0 num1
      have e13 := b13 _ _ p4a e12
      have nu : num < 10 ^ 9 := by
        have z : max (1 : Int) (10 ^ Int.toNat 9) = 10 ^ 9 := by decide
        rw [z] at num1; exact num1
      refine ⟨.ref p4, rfl, .inl ⟨rfl, _, .inl (.inl e13)⟩, ?_⟩
      have c0 := cutS_length stem none (some (num.fmod 9))
      have h9 : 0 ≤ (num / 9).fmod 300 := fm_lo (by decide)
      have h10 : (num / 9).fmod 300 < 300 := fm_hi (by decide)
      have dl := num_len (i := (num / 9).fmod 300) h9 (by omega)
      walk_at "rd"
      refine ⟨⟨by decide, by decide⟩, ?_⟩
      walk_at "rd"
      refine ⟨p4, _, _, rfl, rfl, e13, szt (by rw [List.length_map]; omega), ?_⟩
      refine ⟨(c12.trans b13).put f4, s13.put hs f4, fs ++ [cutS stem none (some (num.fmod 9)) ++ Str.ofString (toString ((num / 9).fmod 300))], _, _, rfl, ?_, by rw [List.length_append, l12]; rfl⟩
      rw [upd_same, List.map_append]; rfl
    · rintro σ H12 ⟨c12, s12, fs, x, y, rfl, e12, l12⟩
      walk_at "rd"
      refine ⟨a, p4, _, rfl, p4a, .inl (.inl e12), by rw [List.length_map]; omega, cc, s12, fun H13 p13 ys13 b13 s13 f13 e13 pm => ?_⟩
      obtain ⟨us, rfl, ul⟩ := perm_strs pm
      exact q H13 p13 us (c12.trans b13) s13 (c12.free (s12.ne f13) f13) e13 (by omega)
end
end K1

namespace K1
open PySem PySem.Spec PyProof.Rows L2
/-! the steps of a reading -/
local macro_rules | `(tactic| walk_at "side") => `(tactic| first | rfl | decide | omega | assumption | exact flat_str _ | exact log_small (by omega) (by omega) | exact szl (by first | omega | assumption | (simp only [app_len, one_len]; omega)) | exact ⟨by decide, by decide, by decide⟩ | exact .inl ⟨Int.lt_of_lt_of_le (by decide : (-(2 ^ 64) : Int) < 0) (Int.fmod_nonneg_of_pos _ (by decide)), Int.lt_trans (Int.fmod_lt_of_pos _ (by decide)) (by decide)⟩ | exact .inr ⟨by decide, by decide⟩ | exact .inl ⟨by decide, by decide⟩ | (refine .inl ⟨?_, ?_⟩ <;> omega) | (refine .inr ⟨?_, ?_⟩ <;> omega))
local macro_rules | `(tactic| walk_at "at1") => `(tactic| first | assumption | exact upd_same | exact .inl (.inl upd_same) | exact .inl (.inl (by assumption)))
local macro_rules | `(tactic| walk_at "rd1") => `(tactic| first
  | refine ⟨_, rfl, ?_⟩
  | refine .inl ⟨_, rfl, ?_⟩
  | refine .inr ⟨_, rfl, ?_⟩
  | refine ⟨_, _, rfl, rfl, ?_⟩
  | refine ⟨_, _, rfl, ?_⟩
  | refine And.intro (by walk_at "side") ?_
  | refine ⟨_, _, _, _, rfl, rfl, .inl (.inl upd_same), rfl, ?_⟩
  | refine ⟨_, _, _, _, rfl, rfl, upd_same, rfl, ?_⟩
  | refine ⟨_, _, rfl, .inl (.inl (.inl upd_same)), ?_⟩
  | (refine' ⟨_, _, _, _, rfl, rfl, ?h, ?ca, ?k⟩; (case h => walk_at "at1"); (case ca => rfl))
  | (refine' ⟨_, _, rfl, .inl ?h, ?k⟩; (case h => walk_at "at1"))
  | refine ⟨_, _, _, rfl, ?_⟩
  | refine ⟨_, (by assumption : Sto _ _ _), ?_⟩
  | refine ⟨_, Sto.new (by assumption) (by assumption), ?_⟩
  | refine isi_ok (r := true) (.base (.str _)) (by decide +kernel) ?_
  | refine isi_ok (r := false) (.base (.str _)) (by decide +kernel) ?_
  | refine isi_ok (r := true) (.base (.int _)) (by decide +kernel) ?_
  | refine isi_ok (r := false) (.base (.int _)) (by decide +kernel) ?_
  | refine isi_ok (r := true) (.base (.lst (by assumption))) (by decide +kernel) ?_
  | refine isi_ok (r := false) (.base (.lst (by assumption))) (by decide +kernel) ?_
  | fail)
local macro_rules | `(tactic| walk_at "rd") => `(tactic| repeat walk_at "rd1")

section
variable {P : Program} {w : World} {K : PySem.W.Frag} {mg : Str → Option Value} {base : Heap}
theorem Same.at {H H' : Hp} {a : Addr} {o : HO} (h : Same H H') (e : H a = some o) : H' a = some o := h a o e
/-! ### _law_is_texts -/
abbrev s__law_is_texts : Stmt := topS 28
abbrev N__law_is_texts : List Str := ["value", "item"]
theorem sc__law_is_texts : FnScope N__law_is_texts ["value"] (defScope s__law_is_texts) := ⟨rfl, rfl, rfl, by decide +kernel, rfl, by decide +kernel, by decide +kernel⟩
def sp__law_is_texts (K : PySem.W.Frag) : Sp := fun vs H Q _ => ∃ (t : Addr) (ts : List Str), vs = [.ref t] ∧ H t = some (.lst (ts.map V.str)) ∧ ts.length ≤ 1000 ∧ ∀ H', Same H H' → Q (.bl true) H'
theorem all_true (n : Nat) : (List.replicate n true).all id = true := by simp
theorem ok__law_is_texts {f__law_is_texts : Addr} {fd__law_is_texts : FuncData} (T : Tb mg) (D__law_is_texts : Df K mg "_law_is_texts" s__law_is_texts ["value"] f__law_is_texts fd__law_is_texts)  : FnOk P w K mg base CX0 1 f__law_is_texts fd__law_is_texts ["value"] (sp__law_is_texts K) := by
  refine D__law_is_texts.F.ok sc__law_is_texts (fun vs H Q E h => ?_) (fun cdv A outer s H vs Q E hr h => ?_)
  · obtain ⟨t, ts, rfl, _⟩ := h
    rfl
  · obtain ⟨t, ts, rfl, ht, tl, q⟩ := h
    refine ⟨_, (pss_one (ps_ret (pe_and (pe_callB call_isi (by rfl) T.m_isinstance (by decide +kernel) (pa_cons (pv 0) (pa_cons (pe_bltn (v := .ty "list") (by rfl) T.m_list (by decide +kernel) rfl) pa_nil))) (pe_one (pe_callB (cr_all rfl) (by rfl) T.m_all (by decide +kernel) (pa_cons (pe_lc (own := [("item", 1)]) (g := gName 1) (tt := tYes) rfl sc__law_is_texts.nd (pi_list (pv 0)) (blkOk_by (N := N__law_is_texts) (sc := defScope s__law_is_texts) (by decide +kernel))
    (fun _ _ _ _ _ => (pg_name (i := 1) sc__law_is_texts.nd rfl (Or.inl rfl))) (fun _ _ _ _ _ => pts_nil) (fun _ _ _ _ _ => (pe_callB (k_isi (K := K) rfl) (by rfl) T.m_isinstance (by decide +kernel) (pa_cons (pv 1) (pa_cons (pe_bltn (v := .ty "str") (by rfl) T.m_str (by decide +kernel) rfl) pa_nil))))) pa_nil)))))), ?_⟩
    refine ⟨.ref t, rfl, _, _, _, _, _, rfl, .ty _, .base (.lst ht), kit_ty (by decide +kernel), true, rfl, ?_⟩
    refine ⟨.ref t, rfl, t, rfl, ⟨_, .inl (.inl ht)⟩, fun D hD => lc_list (K := K) (a := t) (xs := ts.map V.str) (fun i H2 => Same H H2 ∧ H2 D = some (.lst ((List.replicate i true).map V.bl)))
      ⟨same_upd hD, upd_same⟩ (fun i H2 _ h => .inl (.inl (h.1 _ _ ht))) ?_ ?_⟩
    · rintro i x H2 hx ⟨sm, e⟩
      obtain ⟨z, hz, rfl⟩ := map_at _ hx
      have hi : i < ts.length := (List.getElem?_eq_some_iff.mp hz).1
      refine ⟨rfl, ?_⟩
      walk_at "rd"
      refine ⟨_, _, _, _, true, rfl, .ty _, .base (.str _), kit_ty (by decide +kernel), ?_⟩
      refine ⟨_, e, szt (by rw [List.length_map, List.length_replicate]; omega), same_app sm hD, ?_⟩
      rw [upd_same, List.replicate_succ', List.map_append]; rfl
    · rintro H2 ⟨sm, e⟩
      rw [List.length_map] at e
      refine ⟨D, _, rfl, .inl (.inl e), ?_⟩
      rw [all_true]
      exact q H2 sm
/-! ### _law_is_ascending -/
abbrev s__law_is_ascending : Stmt := topS 29
abbrev N__law_is_ascending : List Str := ["value", "k"]
theorem sc__law_is_ascending : FnScope N__law_is_ascending ["value"] (defScope s__law_is_ascending) := ⟨rfl, rfl, rfl, by decide +kernel, rfl, by decide +kernel, by decide +kernel⟩
def ltS (x y : Str) : Prop := x.cps.toList < y.cps.toList
def sp__law_is_ascending (K : PySem.W.Frag) : Sp := fun vs H Q _ => ∃ (t : Addr) (ts : List Str), vs = [.ref t] ∧ H t = some (.lst (ts.map V.str)) ∧ ts.length ≤ 1000 ∧ ts.Pairwise ltS ∧ ∀ H', Same H H' → Q (.bl true) H'
theorem ok__law_is_ascending {f__law_is_ascending : Addr} {fd__law_is_ascending : FuncData} {f__law_is_texts : Addr} {fd__law_is_texts : FuncData} (T : Tb mg) (D__law_is_ascending : Df K mg "_law_is_ascending" s__law_is_ascending ["value"] f__law_is_ascending fd__law_is_ascending) (D__law_is_texts : Df K mg "_law_is_texts" s__law_is_texts ["value"] f__law_is_texts fd__law_is_texts) (G__law_is_texts : FnOk P w K mg base CX0 1 f__law_is_texts fd__law_is_texts ["value"] (sp__law_is_texts K)) : FnOk P w K mg base CX0 2 f__law_is_ascending fd__law_is_ascending ["value"] (sp__law_is_ascending K) := by
  refine D__law_is_ascending.F.ok sc__law_is_ascending (fun vs H Q E h => ?_) (fun cdv A outer s H vs Q E hr h => ?_)
  · obtain ⟨t, ts, rfl, _⟩ := h
    rfl
  · obtain ⟨t, ts, rfl, ht, tl, pw, q⟩ := h
    refine ⟨_, (pss_one (ps_ret (pe_and (pe_call G__law_is_texts (hr.mono (by decide)) (by rfl) D__law_is_texts.g D__law_is_texts.F.kp D__law_is_texts.b .nil pass0 (pa_cons (pv 0) pa_nil)) (pe_one (pe_callB (cr_all rfl) (by rfl) T.m_all (by decide +kernel) (pa_cons (pe_lc (own := [("k", 1)]) (g := gName 1) (tt := tYes) rfl sc__law_is_ascending.nd (pi_range1 (by rfl) T.m_range (pa_cons (pe_op op_sub (pe_callB call_len_seq (by rfl) T.m_len (by decide +kernel) (pa_cons (pv 0) pa_nil)) pe_int) pa_nil)) (blkOk_by (N := N__law_is_ascending) (sc := defScope s__law_is_ascending) (by decide +kernel))
    (fun _ _ _ _ _ => (pg_name (i := 1) sc__law_is_ascending.nd rfl (Or.inl rfl))) (fun _ _ _ _ _ => pts_nil) (fun _ _ _ _ _ => (pe_cmpR op_lt_str (pe_ix (k_ixL (K := K) rfl) (pv 0) (pv 1) (fun _ _ => rfl)) (pe_ix (k_ixL (K := K) rfl) (pv 0) (pe_op op_add (pv 1) pe_int) (fun _ _ => rfl)) (nomark _)))) pa_nil)))))), ?_⟩
    refine ⟨.ref t, rfl, t, ts, rfl, ht, tl, fun H1 sm1 => ?_⟩
    have ht1 := sm1 _ _ ht
    refine ⟨true, rfl, ?_⟩
    refine iteT ?_
    walk_at "rd"
    refine ⟨by rw [List.length_map]; omega, fun D hD => ?_⟩
    have en : (((ts.map V.str).length : Int) - 1).toNat = ts.length - 1 := by rw [List.length_map]; omega
    rw [en]
    refine lc_range (lo := 0) (n := ts.length - 1) (fun i H2 => Same H H2 ∧ H2 D = some (.lst ((List.replicate i true).map V.bl)))
      ⟨same_app (o := .lst []) sm1 (sm1.free hD), upd_same⟩ ?_ ?_
    · rintro i H2 hi ⟨sm, e⟩
      have e1 : ts[i]? = some (ts[i]'(by omega)) := List.getElem?_eq_getElem _
      have e2 : ts[i + 1]? = some (ts[i + 1]'(by omega)) := List.getElem?_eq_getElem _
      have lt := List.pairwise_iff_getElem.mp pw i (i + 1) (by omega) (by omega) (Nat.lt_succ_self _)
      have ht2 := sm _ _ ht
      refine ⟨rfl, .ref t, rfl, _, rfl, t, _, _, _, rfl, rfl, .inl (.inl ht2), atI_z (get_map _ e1), ?_⟩
      refine ⟨.ref t, rfl, _, rfl, _, _, rfl, rfl, t, _, _, _, rfl, rfl, .inl (.inl ht2), atI_s (get_map _ e2), ?_⟩
      refine ⟨_, _, rfl, rfl, ?_⟩
      rw [decide_eq_true (show (ts[i]).cps.toList < (ts[i + 1]).cps.toList from lt)]
      refine ⟨_, e, szt (by rw [List.length_map, List.length_replicate]; omega), same_app sm (sm1.free hD), ?_⟩
      rw [upd_same, List.replicate_succ', List.map_append]; rfl
    · rintro H2 ⟨sm, e⟩
      refine ⟨D, _, rfl, .inl (.inl e), ?_⟩
      rw [all_true]
      exact q H2 sm
/-! ### _law_fits -/
abbrev s__law_fits : Stmt := topS 31
abbrev N__law_fits : List Str := ["told", "given", "known", "text"]
theorem sc__law_fits : FnScope N__law_fits ["told", "given"] (defScope s__law_fits) := ⟨rfl, rfl, rfl, by decide +kernel, rfl, by decide +kernel, by decide +kernel⟩
/-- a dict whose keys are the texts of a list -/
structure KS (kvs : List (Key × V)) (gs : List Str) : Prop where
  nd : (kvs.map (·.1)).Nodup
  mem : ∀ k, k ∈ kvs.map (·.1) ↔ ∃ g ∈ gs, k = Sum.inr g
theorem KS.nil : KS [] [] := ⟨List.nodup_nil, fun k => ⟨fun h => (nomatch h), fun ⟨_, h, _⟩ => (nomatch h)⟩⟩
theorem putK_in {kvs : List (Key × V)} {k : Key} {v : V} (hk : k ∈ kvs.map (·.1)) : (putK kvs k v).map (·.1) = kvs.map (·.1) := by
  have h : (kvs.any fun kv => decide (kv.1 = k)) = true := by
    obtain ⟨p, hp, e⟩ := List.mem_map.mp hk
    exact List.any_eq_true.mpr ⟨p, hp, decide_eq_true e⟩
  unfold putK
  rw [if_pos h, List.map_map]
  apply List.map_congr_left
  intro p _
  show (if p.1 = k then (p.1, v) else p).1 = p.1
  split <;> rfl
theorem putK_out {kvs : List (Key × V)} {k : Key} {v : V} (hk : ¬ k ∈ kvs.map (·.1)) : (putK kvs k v).map (·.1) = kvs.map (·.1) ++ [k] := by
  have h : ¬ (kvs.any fun kv => decide (kv.1 = k)) = true := fun h => hk (by
    obtain ⟨p, hp, e⟩ := List.any_eq_true.mp h
    exact List.mem_map.mpr ⟨p, hp, of_decide_eq_true e⟩)
  unfold putK
  rw [if_neg h, List.map_append]; rfl
theorem KS.put {kvs : List (Key × V)} {gs : List Str} {z : Str} {v : V} (h : KS kvs gs) : KS (putK kvs (Sum.inr z) v) (gs ++ [z]) := by
  obtain ⟨nd, mem⟩ := h
  by_cases hk : Sum.inr z ∈ kvs.map (·.1)
  · refine ⟨by rw [putK_in hk]; exact nd, fun k => ?_⟩
    rw [putK_in hk, mem k]
    constructor
    · rintro ⟨g, hg, e⟩
      exact ⟨g, List.mem_append_left _ hg, e⟩
    · rintro ⟨g, hg, e⟩
      rcases List.mem_append.mp hg with hg | hg
      · exact ⟨g, hg, e⟩
      · rw [List.mem_singleton.mp hg] at e
        rw [e]
        exact (mem _).mp hk
  · refine ⟨by
      rw [putK_out hk, List.nodup_append]
      refine ⟨nd, by simp, fun x hx y hy => ?_⟩
      rw [List.mem_singleton.mp hy]
      rintro rfl
      exact hk hx, fun k => ?_⟩
    rw [putK_out hk, List.mem_append, mem k, List.mem_singleton]
    constructor
    · rintro (⟨g, hg, e⟩ | e)
      · exact ⟨g, List.mem_append_left _ hg, e⟩
      · exact ⟨z, List.mem_append_right _ (List.mem_singleton.mpr rfl), e⟩
    · rintro ⟨g, hg, e⟩
      rcases List.mem_append.mp hg with hg | hg
      · exact .inl ⟨g, hg, e⟩
      · rw [List.mem_singleton.mp hg] at e; exact .inr e
theorem ltS_nodup {ts : List Str} (h : ts.Pairwise ltS) : ts.Nodup := h.imp fun {x y} lt e => by
  rw [e] at lt
  exact absurd lt (List.lt_irrefl _)
theorem KS.len {kvs : List (Key × V)} {gs ts : List Str} (h : KS kvs gs) (pw : ts.Pairwise ltS) (m : ∀ x, x ∈ ts ↔ x ∈ gs) : ts.length = kvs.length := by
  have nd : (ts.map (Sum.inr : Str → Key)).Nodup := by
    refine List.pairwise_map.mpr ((ltS_nodup pw).imp fun {a b} n e => n (Sum.inr.inj e))
  have p : (ts.map (Sum.inr : Str → Key)).Perm (kvs.map (·.1)) := (List.perm_ext_iff_of_nodup nd h.nd).mpr fun k => by
    rw [h.mem k, List.mem_map]
    exact ⟨fun ⟨x, hx, e⟩ => ⟨x, (m x).mp hx, e.symm⟩, fun ⟨x, hx, e⟩ => ⟨x, (m x).mpr hx, e.symm⟩⟩
  have := p.length_eq
  rw [List.length_map, List.length_map] at this
  exact this
theorem KS.has {kvs : List (Key × V)} {gs : List Str} (h : KS kvs gs) {z : Str} (hz : z ∈ gs) : (valV kvs (Sum.inr z)).isSome = true := by
  rw [← valV_any]
  obtain ⟨p, hp, e⟩ := List.mem_map.mp ((h.mem _).mpr ⟨z, hz, rfl⟩)
  exact List.any_eq_true.mpr ⟨p, hp, decide_eq_true e⟩
def sp__law_fits (K : PySem.W.Frag) : Sp := fun vs H Q _ => ∃ (t g : Addr) (ts gs : List Str), vs = [.ref t, .ref g] ∧ H t = some (.lst (ts.map V.str)) ∧ H g = some (.lst (gs.map V.str)) ∧ ts.length ≤ 1000 ∧ gs.length ≤ 1000 ∧
  ts.Pairwise ltS ∧ (∀ x, x ∈ ts ↔ x ∈ gs) ∧ ∀ H', Same H H' → Q (.bl true) H'
theorem ok__law_fits {f__law_fits : Addr} {fd__law_fits : FuncData} {f__law_is_ascending : Addr} {fd__law_is_ascending : FuncData} (T : Tb mg) (D__law_fits : Df K mg "_law_fits" s__law_fits ["told", "given"] f__law_fits fd__law_fits) (D__law_is_ascending : Df K mg "_law_is_ascending" s__law_is_ascending ["value"] f__law_is_ascending fd__law_is_ascending) (G__law_is_ascending : FnOk P w K mg base CX0 2 f__law_is_ascending fd__law_is_ascending ["value"] (sp__law_is_ascending K)) : FnOk P w K mg base CX0 3 f__law_fits fd__law_fits ["told", "given"] (sp__law_fits K) := by
  refine D__law_fits.F.ok sc__law_fits (fun vs H Q E h => ?_) (fun cdv A outer s H vs Q E hr h => ?_)
  · obtain ⟨t, g, ts, gs, rfl, _⟩ := h
    rfl
  · obtain ⟨t, g, ts, gs, rfl, ht, hg, tl, gl, pw, mem, q⟩ := h
    refine ⟨_, (pss_cons (ps_if (pt_not (pt_val (pe_call G__law_is_ascending (hr.mono (by decide)) (by rfl) D__law_is_ascending.g D__law_is_ascending.F.kp D__law_is_ascending.b .nil pass0 (pa_cons (pv 0) pa_nil))))
   (pss_one (ps_ret pe_bl))
   pss_nil)
  (pss_cons (ps_set (i := 2) sc__law_fits.nd rfl (.inr rfl) pe_dnewK)
  (pss_cons (ps_for PassesOwn.never rfl (pi_list (pv 1)) (pg_name (i := 3) sc__law_fits.nd rfl (.inl rfl))
   (pss_one (ps_dput (hu_of hr) (pv 2) (pv 3) pe_bl rfl)))
  (pss_one (ps_ret (pe_and (pe_cmpR op_eq (pe_callB call_len_seq (by rfl) T.m_len (by decide +kernel) (pa_cons (pv 0) pa_nil)) (pe_callB call_lenD (by rfl) T.m_len (by decide +kernel) (pa_cons (pv 2) pa_nil)) (nomark _)) (pe_one (pe_callB (cr_all rfl) (by rfl) T.m_all (by decide +kernel) (pa_cons (pe_lc (own := [("text", 3)]) (g := gName 3) (tt := tYes) rfl sc__law_fits.nd (pi_list (pv 0)) (blkOk_by (N := N__law_fits) (sc := defScope s__law_fits) (by decide +kernel))
    (fun _ _ _ _ _ => (pg_name (i := 3) sc__law_fits.nd rfl (Or.inl rfl))) (fun _ _ _ _ _ => pts_nil) (fun _ _ _ _ _ => (pe_cmp (pc_din (hu_of hr) (pv 3) (pv 2)) rfl))) pa_nil))))))))), ?_⟩
    refine ⟨.ref t, rfl, t, ts, rfl, ht, tl, pw, fun H1 sm1 => ?_⟩
    refine ⟨true, rfl, ?_⟩
    refine iteF ?_
    intro d hd
    have ht1 := sm1 _ _ ht
    have hg1 := sm1 _ _ hg
    have hd0 := sm1.free hd
    refine ⟨.ref g, rfl, g, rfl, ⟨_, .inl (.inl (Same.at (same_upd hd) hg1))⟩, ?_⟩
    refine for_list (K := K) (xs := gs.map V.str) (fun i σ H' => Same H H' ∧ ∃ (kvs : List (Key × V)) (x : Option V), σ = [some (.ref t), some (.ref g), some (.ref d), x] ∧ H' d = some (.dK kvs) ∧ kvs.length ≤ i ∧ KS kvs (gs.take i))
      ⟨same_app sm1 hd0, [], none, rfl, upd_same, Nat.le_refl _, KS.nil⟩ (fun i σ H' _ h => .inl (.inl (h.1 _ _ hg))) ?_ ?_
    · rintro i x σ H' hx ⟨sm, kvs, y, rfl, e, kl, ks⟩
      obtain ⟨z, hz, rfl⟩ := map_at _ hx
      have hi : i < gs.length := (List.getElem?_eq_some_iff.mp hz).1
      refine ⟨_, rfl, _, rfl, d, _, rfl, DPut.k (k := Sum.inr z) e (szt (by omega)), same_app sm hd0, _, _, rfl, upd_same, ?_, ?_⟩
      · have := length_putK kvs (Sum.inr z) (V.bl true)
        omega
      · have e2 : gs.take (i + 1) = gs.take i ++ [z] := by rw [List.take_add_one, hz]; rfl
        rw [e2]
        exact ks.put
    · rintro σ H' ⟨sm, kvs, y, rfl, e, kl, ks⟩
      rw [List.length_map, List.take_length] at ks
      have ht2 := sm _ _ ht
      refine ⟨_, rfl, t, _, rfl, .inl (.inl (.inl ht2)), _, rfl, d, kvs, rfl, e, rfl, _, rfl, ?_⟩
      rw [List.length_map, ks.len pw mem, decide_eq_true rfl]
      refine iteT ?_
      refine ⟨.ref t, rfl, t, rfl, ⟨_, .inl (.inl ht2)⟩, fun D hD => lc_list (K := K) (a := t) (xs := ts.map V.str) (fun i H2 => Same H' H2 ∧ H2 D = some (.lst ((List.replicate i true).map V.bl)))
        ⟨same_upd hD, upd_same⟩ (fun i H2 _ h => .inl (.inl (h.1 _ _ ht2))) ?_ ?_⟩
      · rintro i x H2 hx ⟨sm2, e2⟩
        obtain ⟨z, hz, rfl⟩ := map_at _ hx
        have hi : i < ts.length := (List.getElem?_eq_some_iff.mp hz).1
        refine ⟨rfl, _, rfl, _, rfl, d, _, rfl, DGet.k (k := Sum.inr z) (sm2 _ _ e), ?_⟩
        rw [ks.has ((mem z).mp (List.mem_of_getElem? hz))]
        refine ⟨_, e2, szt (by rw [List.length_map, List.length_replicate]; omega), same_app sm2 hD, ?_⟩
        rw [upd_same, List.replicate_succ', List.map_append]; rfl
      · rintro H2 ⟨sm2, e2⟩
        refine ⟨D, _, rfl, .inl (.inl e2), ?_⟩
        rw [all_true]
        exact q H2 (sm.trans sm2)
end
end K1

namespace K1
open PySem PySem.Spec PyProof.Rows L2
/-! the steps of a reading -/
local macro_rules | `(tactic| walk_at "side") => `(tactic| first | rfl | decide | omega | assumption | exact flat_str _ | exact log_small (by omega) (by omega) | exact szl (by first | omega | assumption | (simp only [app_len, one_len]; omega)) | exact ⟨by decide, by decide, by decide⟩ | exact .inl ⟨Int.lt_of_lt_of_le (by decide : (-(2 ^ 64) : Int) < 0) (Int.fmod_nonneg_of_pos _ (by decide)), Int.lt_trans (Int.fmod_lt_of_pos _ (by decide)) (by decide)⟩ | exact .inr ⟨by decide, by decide⟩ | exact .inl ⟨by decide, by decide⟩ | (refine .inl ⟨?_, ?_⟩ <;> omega) | (refine .inr ⟨?_, ?_⟩ <;> omega))
local macro_rules | `(tactic| walk_at "at1") => `(tactic| first | assumption | exact upd_same | exact .inl (.inl upd_same) | exact .inl (.inl (by assumption)))
local macro_rules | `(tactic| walk_at "rd1") => `(tactic| first
  | refine ⟨_, rfl, ?_⟩
  | refine .inl ⟨_, rfl, ?_⟩
  | refine .inr ⟨_, rfl, ?_⟩
  | refine ⟨_, _, rfl, rfl, ?_⟩
  | refine ⟨_, _, rfl, ?_⟩
  | refine And.intro (by walk_at "side") ?_
  | refine ⟨_, _, _, _, rfl, rfl, .inl (.inl upd_same), rfl, ?_⟩
  | refine ⟨_, _, _, _, rfl, rfl, upd_same, rfl, ?_⟩
  | refine ⟨_, _, rfl, .inl (.inl (.inl upd_same)), ?_⟩
  | (refine' ⟨_, _, _, _, rfl, rfl, ?h, ?ca, ?k⟩; (case h => walk_at "at1"); (case ca => rfl))
  | (refine' ⟨_, _, rfl, .inl ?h, ?k⟩; (case h => walk_at "at1"))
  | refine ⟨_, _, _, rfl, ?_⟩
  | refine ⟨_, (by assumption : Sto _ _ _), ?_⟩
  | refine ⟨_, Sto.new (by assumption) (by assumption), ?_⟩
  | refine ⟨_, _, _, _, true, rfl, .ty _, .base (.str _), kit_ty (by decide +kernel), ?_⟩
  | refine ⟨_, _, _, _, false, rfl, .ty _, .base (.str _), kit_ty (by decide +kernel), ?_⟩
  | refine ⟨_, _, _, _, true, rfl, .ty _, .base (.int _), kit_ty (by decide +kernel), ?_⟩
  | refine ⟨_, _, _, _, false, rfl, .ty _, .base (.int _), kit_ty (by decide +kernel), ?_⟩
  | refine ⟨_, _, _, _, true, rfl, .ty _, .base (.lst (by assumption)), kit_ty (by decide +kernel), ?_⟩
  | refine ⟨_, _, _, _, false, rfl, .ty _, .base (.lst (by assumption)), kit_ty (by decide +kernel), ?_⟩
  | fail)
local macro_rules | `(tactic| walk_at "rd") => `(tactic| repeat walk_at "rd1")

section
variable {P : Program} {w : World} {K : PySem.W.Frag} {mg : Str → Option Value} {base : Heap}
/-! ### _law_copy -/
abbrev s__law_copy : Stmt := topS 25
abbrev N__law_copy : List Str := ["value", "item", "found", "label"]
theorem sc__law_copy : FnScope N__law_copy ["value"] (defScope s__law_copy) := ⟨rfl, rfl, rfl, by decide +kernel, rfl, by decide +kernel, by decide +kernel⟩
def sp__law_copy0 (K : PySem.W.Frag) : Sp := fun vs H Q _ => ∃ z : Str, vs = [.str z] ∧ Q (.str z) H
theorem ok__law_copy0 {f__law_copy : Addr} {fd__law_copy : FuncData} (T : Tb mg) (D__law_copy : Df K mg "_law_copy" s__law_copy ["value"] f__law_copy fd__law_copy)  : FnOk P w K mg base CX0 1 f__law_copy fd__law_copy ["value"] (sp__law_copy0 K) := by
  refine D__law_copy.F.ok sc__law_copy (fun vs H Q E h => ?_) (fun cdv A outer s H vs Q E hr h => ?_)
  · obtain ⟨z, rfl, _⟩ := h
    rfl
  · obtain ⟨z, rfl, q⟩ := h
    refine ⟨_, (pss_cons (ps_if (pt_val (pe_callB call_isi (by rfl) T.m_isinstance (by decide +kernel) (pa_cons (pv 0) (pa_cons (pe_bltn (v := .ty "list") (by rfl) T.m_list (by decide +kernel) rfl) pa_nil))))
   pss_never
   pss_nil)
  (pss_cons (ps_if (pt_val (pe_callB call_isi (by rfl) T.m_isinstance (by decide +kernel) (pa_cons (pv 0) (pa_cons (pe_bltn (v := .ty "tuple") (by rfl) T.m_tuple (by decide +kernel) rfl) pa_nil))))
   pss_never
   pss_nil)
  (pss_cons (ps_if (pt_val (pe_callB call_isi (by rfl) T.m_isinstance (by decide +kernel) (pa_cons (pv 0) (pa_cons (pe_bltn (v := .ty "dict") (by rfl) T.m_dict (by decide +kernel) rfl) pa_nil))))
   pss_never
   pss_nil)
  (pss_one (ps_ret (pv 0)))))), ?_⟩
    walk_at "rd"
    exact q
def sp__law_copy1 (K : PySem.W.Frag) : Sp := fun vs H Q _ => ∃ (p : Addr) (zs : List Str), vs = [.ref p] ∧ H p = some (.lst (zs.map V.str)) ∧ zs.length ≤ 1000 ∧ ∀ H' r, Same H H' → H r = none → H' r = some (.lst (zs.map V.str)) → Q (.ref r) H'
theorem ok__law_copy1 {f__law_copy : Addr} {fd__law_copy : FuncData} (T : Tb mg) (D__law_copy : Df K mg "_law_copy" s__law_copy ["value"] f__law_copy fd__law_copy) (G__law_copy0 : FnOk P w K mg base CX0 1 f__law_copy fd__law_copy ["value"] (sp__law_copy0 K)) : FnOk P w K mg base CX0 2 f__law_copy fd__law_copy ["value"] (sp__law_copy1 K) := by
  refine D__law_copy.F.ok sc__law_copy (fun vs H Q E h => ?_) (fun cdv A outer s H vs Q E hr h => ?_)
  · obtain ⟨p, zs, rfl, _⟩ := h
    rfl
  · obtain ⟨p, zs, rfl, hp, zl, q⟩ := h
    refine ⟨_, (pss_cons (ps_if (pt_val (pe_callB call_isi (by rfl) T.m_isinstance (by decide +kernel) (pa_cons (pv 0) (pa_cons (pe_bltn (v := .ty "list") (by rfl) T.m_list (by decide +kernel) rfl) pa_nil))))
   (pss_one (ps_ret (pe_lc (own := [("item", 1)]) (g := gName 1) (tt := tYes) rfl sc__law_copy.nd (pi_list (pv 0)) (blkOk_by (N := N__law_copy) (sc := defScope s__law_copy) (by decide +kernel))
    (fun _ _ _ _ _ => (pg_name (i := 1) sc__law_copy.nd rfl (Or.inl rfl))) (fun _ _ _ _ _ => pts_nil) (fun _ _ _ _ _ => (pe_call G__law_copy0 (hr.mono (by decide)) (by rfl) D__law_copy.g D__law_copy.F.kp D__law_copy.b .nil pass0 (pa_cons (pv 1) pa_nil))))))
   pss_nil)
  (pss_cons (ps_if (pt_val (pe_callB call_isi (by rfl) T.m_isinstance (by decide +kernel) (pa_cons (pv 0) (pa_cons (pe_bltn (v := .ty "tuple") (by rfl) T.m_tuple (by decide +kernel) rfl) pa_nil))))
   pss_never
   pss_nil)
  (pss_cons (ps_if (pt_val (pe_callB call_isi (by rfl) T.m_isinstance (by decide +kernel) (pa_cons (pv 0) (pa_cons (pe_bltn (v := .ty "dict") (by rfl) T.m_dict (by decide +kernel) rfl) pa_nil))))
   pss_never
   pss_nil)
  (pss_one (ps_ret (pv 0)))))), ?_⟩
    walk_at "rd"
    refine ⟨⟨_, .inl (.inl hp)⟩, fun D hD => lc_list (K := K) (a := p) (xs := zs.map V.str) (fun i H2 => Same H H2 ∧ H2 D = some (.lst ((zs.take i).map V.str)))
        ⟨same_upd hD, upd_same⟩ (fun i H2 _ h => .inl (.inl (h.1 _ _ hp))) ?_ ?_⟩
    · rintro i x H2 hx ⟨sm, e⟩
      obtain ⟨z, hz, rfl⟩ := map_at _ hx
      have hi : i < zs.length := (List.getElem?_eq_some_iff.mp hz).1
      refine ⟨rfl, ?_⟩
      walk_at "rd"
      refine ⟨_, e, szt (by rw [List.length_map, List.length_take]; omega), same_app sm hD, ?_⟩
      rw [upd_same, take_map _ hz]
    · rintro H2 ⟨sm, e⟩
      rw [List.length_map, List.take_length] at e
      exact q H2 D sm hD e
/-! ### _law_same -/
abbrev s__law_same : Stmt := topS 24
abbrev N__law_same : List Str := ["told", "due", "labels", "label", "k"]
theorem sc__law_same : FnScope N__law_same ["told", "due"] (defScope s__law_same) := ⟨rfl, rfl, rfl, by decide +kernel, rfl, by decide +kernel, by decide +kernel⟩
def sp__law_same0 (K : PySem.W.Frag) : Sp := fun vs H Q _ => ∃ x : V, vs = [x, x] ∧ ((∃ z, x = .str z) ∨ ∃ i, x = .int i) ∧ ∀ H', Same H H' → Q (.bl true) H'
set_option maxHeartbeats 1000000 in
theorem ok__law_same0 {f__law_same : Addr} {fd__law_same : FuncData} (T : Tb mg) (D__law_same : Df K mg "_law_same" s__law_same ["told", "due"] f__law_same fd__law_same)  : FnOk P w K mg base CX0 1 f__law_same fd__law_same ["told", "due"] (sp__law_same0 K) := by
  refine D__law_same.F.ok sc__law_same (fun vs H Q E h => ?_) (fun cdv A outer s H vs Q E hr h => ?_)
  · obtain ⟨x, rfl, _⟩ := h
    rfl
  · obtain ⟨x, rfl, k, q⟩ := h
    refine ⟨_, (pss_cons (ps_if (pt_cmpR op_isN (pv 1) pe_non (nomark _))
   (pss_one (ps_ret (pe_cmpR op_isN (pv 0) pe_non (nomark _))))
   pss_nil)
  (pss_cons (ps_if (pt_val (pe_callB call_isi (by rfl) T.m_isinstance (by decide +kernel) (pa_cons (pv 1) (pa_cons (pe_bltn (v := .ty "bool") (by rfl) T.m_bool (by decide +kernel) rfl) pa_nil))))
   (pss_one (ps_ret (pe_and (pe_callB call_isi (by rfl) T.m_isinstance (by decide +kernel) (pa_cons (pv 0) (pa_cons (pe_bltn (v := .ty "bool") (by rfl) T.m_bool (by decide +kernel) rfl) pa_nil))) (pe_one (pe_cmpR op_eq (pv 0) (pv 1) (nomark _))))))
   pss_nil)
  (pss_cons (ps_if (pt_val (pe_callB call_isi (by rfl) T.m_isinstance (by decide +kernel) (pa_cons (pv 1) (pa_cons (pe_bltn (v := .ty "int") (by rfl) T.m_int (by decide +kernel) rfl) pa_nil))))
   (pss_one (ps_ret (pe_and (pe_callB call_isi (by rfl) T.m_isinstance (by decide +kernel) (pa_cons (pv 0) (pa_cons (pe_bltn (v := .ty "int") (by rfl) T.m_int (by decide +kernel) rfl) pa_nil))) (pe_and (pe_not (pe_callB call_isi (by rfl) T.m_isinstance (by decide +kernel) (pa_cons (pv 0) (pa_cons (pe_bltn (v := .ty "bool") (by rfl) T.m_bool (by decide +kernel) rfl) pa_nil)))) (pe_one (pe_cmpR op_eq (pv 0) (pv 1) (nomark _)))))))
   pss_nil)
  (pss_cons (ps_if (pt_val (pe_callB call_isi (by rfl) T.m_isinstance (by decide +kernel) (pa_cons (pv 1) (pa_cons (pe_bltn (v := .ty "str") (by rfl) T.m_str (by decide +kernel) rfl) pa_nil))))
   (pss_one (ps_ret (pe_and (pe_callB call_isi (by rfl) T.m_isinstance (by decide +kernel) (pa_cons (pv 0) (pa_cons (pe_bltn (v := .ty "str") (by rfl) T.m_str (by decide +kernel) rfl) pa_nil))) (pe_one (pe_cmpR op_eq (pv 0) (pv 1) (nomark _))))))
   pss_nil)
  (pss_cons (ps_if (PW.pt (pw_or (PW.pt (pw_and (pt_val (pe_callB call_isi (by rfl) T.m_isinstance (by decide +kernel) (pa_cons (pv 1) (pa_cons (pe_bltn (v := .ty "list") (by rfl) T.m_list (by decide +kernel) rfl) pa_nil)))) (pw_and1 (pt_not (pt_val (pe_callB call_isi (by rfl) T.m_isinstance (by decide +kernel) (pa_cons (pv 0) (pa_cons (pe_bltn (v := .ty "list") (by rfl) T.m_list (by decide +kernel) rfl) pa_nil)))))))) (pw_or1 (PW.pt (pw_and (pt_val (pe_callB call_isi (by rfl) T.m_isinstance (by decide +kernel) (pa_cons (pv 1) (pa_cons (pe_bltn (v := .ty "tuple") (by rfl) T.m_tuple (by decide +kernel) rfl) pa_nil)))) (pw_and1 (pt_not (pt_val (pe_callB call_isi (by rfl) T.m_isinstance (by decide +kernel) (pa_cons (pv 0) (pa_cons (pe_bltn (v := .ty "tuple") (by rfl) T.m_tuple (by decide +kernel) rfl) pa_nil)))))))))))
   (pss_one (ps_ret pe_bl))
   pss_nil)
  (pss_cons (ps_if (pt_val (pe_callB call_isi (by rfl) T.m_isinstance (by decide +kernel) (pa_cons (pv 1) (pa_cons (pe_bltn (v := .ty "dict") (by rfl) T.m_dict (by decide +kernel) rfl) pa_nil))))
   pss_never
   pss_nil)
  (pss_one ps_never))))))), ?_⟩
    rcases k with ⟨z, rfl⟩ | ⟨i, rfl⟩
    · walk_at "rd"
      exact (show Q (.bl (decide (V.str z = V.str z))) H by rw [decide_eq_true rfl]; exact q H (Same.refl H))
    · walk_at "rd"
      exact (show Q (.bl (decide (V.int i = V.int i))) H by rw [decide_eq_true rfl]; exact q H (Same.refl H))
def sp__law_same1 (K : PySem.W.Frag) : Sp := fun vs H Q _ => ∃ (t d : Addr) (xs : List V), vs = [.ref t, .ref d] ∧ H t = some (.lst xs) ∧ H d = some (.lst xs) ∧ xs.length ≤ 1000 ∧ (∀ x ∈ xs, (∃ z, x = .str z) ∨ ∃ i, x = .int i) ∧ ∀ H', Same H H' → Q (.bl true) H'
set_option maxHeartbeats 1000000 in
theorem ok__law_same1 {f__law_same : Addr} {fd__law_same : FuncData} (T : Tb mg) (D__law_same : Df K mg "_law_same" s__law_same ["told", "due"] f__law_same fd__law_same) (G__law_same0 : FnOk P w K mg base CX0 1 f__law_same fd__law_same ["told", "due"] (sp__law_same0 K)) : FnOk P w K mg base CX0 2 f__law_same fd__law_same ["told", "due"] (sp__law_same1 K) := by
  refine D__law_same.F.ok sc__law_same (fun vs H Q E h => ?_) (fun cdv A outer s H vs Q E hr h => ?_)
  · obtain ⟨t, d, xs, rfl, _⟩ := h
    rfl
  · obtain ⟨t, d, xs, rfl, ht, hd, xl, sc, q⟩ := h
    refine ⟨_, (pss_cons (ps_if (pt_cmpR op_isN (pv 1) pe_non (nomark _))
   (pss_one (ps_ret (pe_cmpR op_isN (pv 0) pe_non (nomark _))))
   pss_nil)
  (pss_cons (ps_if (pt_val (pe_callB call_isi (by rfl) T.m_isinstance (by decide +kernel) (pa_cons (pv 1) (pa_cons (pe_bltn (v := .ty "bool") (by rfl) T.m_bool (by decide +kernel) rfl) pa_nil))))
   (pss_one (ps_ret (pe_and (pe_callB call_isi (by rfl) T.m_isinstance (by decide +kernel) (pa_cons (pv 0) (pa_cons (pe_bltn (v := .ty "bool") (by rfl) T.m_bool (by decide +kernel) rfl) pa_nil))) (pe_one (pe_cmpR (op_eqD hr.units) (pv 0) (pv 1) (nomark _))))))
   pss_nil)
  (pss_cons (ps_if (pt_val (pe_callB call_isi (by rfl) T.m_isinstance (by decide +kernel) (pa_cons (pv 1) (pa_cons (pe_bltn (v := .ty "int") (by rfl) T.m_int (by decide +kernel) rfl) pa_nil))))
   (pss_one (ps_ret (pe_and (pe_callB call_isi (by rfl) T.m_isinstance (by decide +kernel) (pa_cons (pv 0) (pa_cons (pe_bltn (v := .ty "int") (by rfl) T.m_int (by decide +kernel) rfl) pa_nil))) (pe_and (pe_not (pe_callB call_isi (by rfl) T.m_isinstance (by decide +kernel) (pa_cons (pv 0) (pa_cons (pe_bltn (v := .ty "bool") (by rfl) T.m_bool (by decide +kernel) rfl) pa_nil)))) (pe_one (pe_cmpR (op_eqD hr.units) (pv 0) (pv 1) (nomark _)))))))
   pss_nil)
  (pss_cons (ps_if (pt_val (pe_callB call_isi (by rfl) T.m_isinstance (by decide +kernel) (pa_cons (pv 1) (pa_cons (pe_bltn (v := .ty "str") (by rfl) T.m_str (by decide +kernel) rfl) pa_nil))))
   (pss_one (ps_ret (pe_and (pe_callB call_isi (by rfl) T.m_isinstance (by decide +kernel) (pa_cons (pv 0) (pa_cons (pe_bltn (v := .ty "str") (by rfl) T.m_str (by decide +kernel) rfl) pa_nil))) (pe_one (pe_cmpR (op_eqD hr.units) (pv 0) (pv 1) (nomark _))))))
   pss_nil)
  (pss_cons (ps_if (PW.pt (pw_or (PW.pt (pw_and (pt_val (pe_callB call_isi (by rfl) T.m_isinstance (by decide +kernel) (pa_cons (pv 1) (pa_cons (pe_bltn (v := .ty "list") (by rfl) T.m_list (by decide +kernel) rfl) pa_nil)))) (pw_and1 (pt_not (pt_val (pe_callB call_isi (by rfl) T.m_isinstance (by decide +kernel) (pa_cons (pv 0) (pa_cons (pe_bltn (v := .ty "list") (by rfl) T.m_list (by decide +kernel) rfl) pa_nil)))))))) (pw_or1 (PW.pt (pw_and (pt_val (pe_callB call_isi (by rfl) T.m_isinstance (by decide +kernel) (pa_cons (pv 1) (pa_cons (pe_bltn (v := .ty "tuple") (by rfl) T.m_tuple (by decide +kernel) rfl) pa_nil)))) (pw_and1 (pt_not (pt_val (pe_callB call_isi (by rfl) T.m_isinstance (by decide +kernel) (pa_cons (pv 0) (pa_cons (pe_bltn (v := .ty "tuple") (by rfl) T.m_tuple (by decide +kernel) rfl) pa_nil)))))))))))
   (pss_one (ps_ret pe_bl))
   pss_nil)
  (pss_cons (ps_if (pt_val (pe_callB call_isi (by rfl) T.m_isinstance (by decide +kernel) (pa_cons (pv 1) (pa_cons (pe_bltn (v := .ty "dict") (by rfl) T.m_dict (by decide +kernel) rfl) pa_nil))))
   pss_never
   pss_nil)
  (pss_one (ps_ret (pe_and (pe_cmpR op_eq (pe_callB call_len_seq (by rfl) T.m_len (by decide +kernel) (pa_cons (pv 0) pa_nil)) (pe_callB call_len_seq (by rfl) T.m_len (by decide +kernel) (pa_cons (pv 1) pa_nil)) (nomark _)) (pe_one (pe_callB (cr_all rfl) (by rfl) T.m_all (by decide +kernel) (pa_cons (pe_lc (own := [("k", 4)]) (g := gName 4) (tt := tYes) rfl sc__law_same.nd (pi_range1 (by rfl) T.m_range (pa_cons (pe_callB call_len_seq (by rfl) T.m_len (by decide +kernel) (pa_cons (pv 1) pa_nil)) pa_nil)) (blkOk_by (N := N__law_same) (sc := defScope s__law_same) (by decide +kernel))
    (fun _ _ _ _ _ => (pg_name (i := 4) sc__law_same.nd rfl (Or.inl rfl))) (fun _ _ _ _ _ => pts_nil) (fun _ _ _ _ _ => (pe_call G__law_same0 (hr.mono (by decide)) (by rfl) D__law_same.g D__law_same.F.kp D__law_same.b .nil pass0 (pa_cons (pe_ix (k_ixL (K := K) rfl) (pv 0) (pv 4) (fun _ _ => rfl)) (pa_cons (pe_ix (k_ixL (K := K) rfl) (pv 1) (pv 4) (fun _ _ => rfl)) pa_nil))))) pa_nil)))))))))))), ?_⟩
    walk_at "rd"
    rw [decide_eq_true rfl]
    refine iteT ?_
    walk_at "rd"
    intro D hD
    refine lc_range (lo := 0) (n := xs.length) (fun i H2 => Same H H2 ∧ H2 D = some (.lst ((List.replicate i true).map V.bl))) ⟨same_upd hD, upd_same⟩ ?_ ?_
    · rintro i H2 hi ⟨sm, e⟩
      have e1 : xs[i]? = some (xs[i]'hi) := List.getElem?_eq_getElem _
      refine ⟨rfl, .ref t, rfl, _, rfl, t, _, _, _, rfl, rfl, .inl (.inl (sm _ _ ht)), atI_z e1, ?_⟩
      refine ⟨.ref d, rfl, _, rfl, d, _, _, _, rfl, rfl, .inl (.inl (sm _ _ hd)), atI_z e1, ?_⟩
      refine ⟨xs[i], rfl, sc _ (List.getElem_mem _), fun H3 sm3 => ?_⟩
      refine ⟨_, sm3 _ _ e, szt (by rw [List.length_map, List.length_replicate]; omega), same_app (sm.trans sm3) hD, ?_⟩
      rw [upd_same, List.replicate_succ', List.map_append]; rfl
    · rintro H2 ⟨sm, e⟩
      refine ⟨D, _, rfl, .inl (.inl e), ?_⟩
      rw [all_true]
      exact q H2 sm
end
end K1

namespace K1
open PySem PySem.Spec PyProof.Rows L2
/-! the steps of a reading -/
local macro_rules | `(tactic| walk_at "side") => `(tactic| first | rfl | decide | omega | assumption | exact flat_str _ | exact log_small (by omega) (by omega) | exact szl (by first | omega | assumption | (simp only [app_len, one_len]; omega)) | exact ⟨by decide, by decide, by decide⟩ | exact .inl ⟨Int.lt_of_lt_of_le (by decide : (-(2 ^ 64) : Int) < 0) (Int.fmod_nonneg_of_pos _ (by decide)), Int.lt_trans (Int.fmod_lt_of_pos _ (by decide)) (by decide)⟩ | exact .inr ⟨by decide, by decide⟩ | exact .inl ⟨by decide, by decide⟩ | (refine .inl ⟨?_, ?_⟩ <;> omega) | (refine .inr ⟨?_, ?_⟩ <;> omega))
local macro_rules | `(tactic| walk_at "at1") => `(tactic| first | assumption | exact upd_same | exact .inl (.inl upd_same) | exact .inl (.inl (by assumption)))
local macro_rules | `(tactic| walk_at "rd1") => `(tactic| first
  | refine ⟨_, rfl, ?_⟩
  | refine .inl ⟨_, rfl, ?_⟩
  | refine .inr ⟨_, rfl, ?_⟩
  | refine ⟨_, _, rfl, rfl, ?_⟩
  | refine ⟨_, _, rfl, ?_⟩
  | refine And.intro (by walk_at "side") ?_
  | refine ⟨_, _, _, _, rfl, rfl, .inl (.inl upd_same), rfl, ?_⟩
  | refine ⟨_, _, _, _, rfl, rfl, upd_same, rfl, ?_⟩
  | refine ⟨_, _, rfl, .inl (.inl (.inl upd_same)), ?_⟩
  | (refine' ⟨_, _, _, _, rfl, rfl, ?h, ?ca, ?k⟩; (case h => walk_at "at1"); (case ca => rfl))
  | (refine' ⟨_, _, rfl, .inl ?h, ?k⟩; (case h => walk_at "at1"))
  | refine ⟨_, _, _, rfl, ?_⟩
  | refine ⟨_, (by assumption : Sto _ _ _), ?_⟩
  | refine ⟨_, Sto.new (by assumption) (by assumption), ?_⟩
  | refine ⟨_, _, _, _, true, rfl, .ty _, .base (.str _), kit_ty (by decide +kernel), ?_⟩
  | refine ⟨_, _, _, _, false, rfl, .ty _, .base (.str _), kit_ty (by decide +kernel), ?_⟩
  | refine ⟨_, _, _, _, true, rfl, .ty _, .base (.int _), kit_ty (by decide +kernel), ?_⟩
  | refine ⟨_, _, _, _, false, rfl, .ty _, .base (.int _), kit_ty (by decide +kernel), ?_⟩
  | refine ⟨_, _, _, _, true, rfl, .ty _, .base (.lst (by assumption)), kit_ty (by decide +kernel), ?_⟩
  | refine ⟨_, _, _, _, false, rfl, .ty _, .base (.lst (by assumption)), kit_ty (by decide +kernel), ?_⟩
  | fail)
local macro_rules | `(tactic| walk_at "rd") => `(tactic| repeat walk_at "rd1")

section
variable {P : Program} {w : World} {K : PySem.W.Frag} {mg : Str → Option Value} {base : Heap}
/-! ### _law_holders -/
abbrev s__law_holders : Stmt := topS 26
abbrev N__law_holders : List Str := ["value", "found", "item", "label"]
theorem sc__law_holders : FnScope N__law_holders ["value"] (defScope s__law_holders) := ⟨rfl, rfl, rfl, by decide +kernel, rfl, by decide +kernel, by decide +kernel⟩
def sp__law_holders0 (K : PySem.W.Frag) : Sp := fun vs H Q _ => ∃ z : Str, vs = [.str z] ∧ ∀ H' r, Same H H' → H r = none → H' r = some (.lst []) → Q (.ref r) H'
theorem ok__law_holders0 {f__law_holders : Addr} {fd__law_holders : FuncData} (T : Tb mg) (D__law_holders : Df K mg "_law_holders" s__law_holders ["value"] f__law_holders fd__law_holders)  : FnOk P w K mg base CX0 1 f__law_holders fd__law_holders ["value"] (sp__law_holders0 K) := by
  refine D__law_holders.F.ok sc__law_holders (fun vs H Q E h => ?_) (fun cdv A outer s H vs Q E hr h => ?_)
  · obtain ⟨z, rfl, _⟩ := h
    rfl
  · obtain ⟨z, rfl, q⟩ := h
    refine ⟨_, (pss_cons (ps_set (i := 1) sc__law_holders.nd rfl (.inl rfl) (pe_lst pa_nil))
  (pss_cons (ps_if (pt_val (pe_callB call_isiT (by rfl) T.m_isinstance (by decide +kernel) (pa_cons (pv 0) (pa_cons (pe_tup (pa_cons (pe_bltn (v := .ty "list") (by rfl) T.m_list (by decide +kernel) rfl) (pa_cons (pe_bltn (v := .ty "dict") (by rfl) T.m_dict (by decide +kernel) rfl) pa_nil))) pa_nil))))
   pss_never
   pss_nil)
  (pss_cons (ps_if (pt_val (pe_callB call_isiT (by rfl) T.m_isinstance (by decide +kernel) (pa_cons (pv 0) (pa_cons (pe_tup (pa_cons (pe_bltn (v := .ty "list") (by rfl) T.m_list (by decide +kernel) rfl) (pa_cons (pe_bltn (v := .ty "tuple") (by rfl) T.m_tuple (by decide +kernel) rfl) pa_nil))) pa_nil))))
   pss_never
   pss_nil)
  (pss_cons (ps_if (pt_val (pe_callB call_isi (by rfl) T.m_isinstance (by decide +kernel) (pa_cons (pv 0) (pa_cons (pe_bltn (v := .ty "dict") (by rfl) T.m_dict (by decide +kernel) rfl) pa_nil))))
   pss_never
   pss_nil)
  (pss_one (ps_ret (pv 1))))))), ?_⟩
    walk_at "rd"
    intro f hf
    walk_at "rd"
    intro t1 ht1
    refine ⟨_, _, _, _, _, false, rfl, upd_same, .cons (.ty _) (.cons (.ty _) .nil), .base (.str _), kitAny_cons (b := false) (kit_ty (by decide +kernel)) (fun _ => kitAny_cons (b := false) (kit_ty (by decide +kernel)) (fun _ => kitAny_nil) (fun e => nomatch e)) (fun e => nomatch e), ?_⟩
    walk_at "rd"
    intro t2 ht2
    refine ⟨_, _, _, _, _, false, rfl, upd_same, .cons (.ty _) (.cons (.ty _) .nil), .base (.str _), kitAny_cons (b := false) (kit_ty (by decide +kernel)) (fun _ => kitAny_cons (b := false) (kit_ty (by decide +kernel)) (fun _ => kitAny_nil) (fun e => nomatch e)) (fun e => nomatch e), ?_⟩
    walk_at "rd"
    have n1 := ne_of_none (o := .lst []) (H := upd H f (.lst [])) upd_same ht1
    have n2 := ne_of_none (a := f) (o := .lst []) (by rw [upd_ne n1, upd_same]) ht2
    exact q _ f (fun b o e => same_upd ht2 b o (same_upd ht1 b o (same_upd hf b o e))) hf (by rw [upd_ne n2, upd_ne n1, upd_same])
def sp__law_holders1 (K : PySem.W.Frag) : Sp := fun vs H Q _ => ∃ (p : Addr) (zs : List Str), vs = [.ref p] ∧ H p = some (.lst (zs.map V.str)) ∧ zs.length ≤ 1000 ∧ ∀ H' r, Same H H' → H r = none → H' r = some (.lst [.ref p]) → Q (.ref r) H'
theorem ok__law_holders1 {f__law_holders : Addr} {fd__law_holders : FuncData} (T : Tb mg) (D__law_holders : Df K mg "_law_holders" s__law_holders ["value"] f__law_holders fd__law_holders) (G__law_holders0 : FnOk P w K mg base CX0 1 f__law_holders fd__law_holders ["value"] (sp__law_holders0 K)) : FnOk P w K mg base CX0 2 f__law_holders fd__law_holders ["value"] (sp__law_holders1 K) := by
  refine D__law_holders.F.ok sc__law_holders (fun vs H Q E h => ?_) (fun cdv A outer s H vs Q E hr h => ?_)
  · obtain ⟨p, zs, rfl, _⟩ := h
    rfl
  · obtain ⟨p, zs, rfl, hp, zl, q⟩ := h
    refine ⟨_, (pss_cons (ps_set (i := 1) sc__law_holders.nd rfl (.inl rfl) (pe_lst pa_nil))
  (Evl.pss_cut (ps_if (pt_val (pe_callB call_isiT (by rfl) T.m_isinstance (by decide +kernel) (pa_cons (pv 0) (pa_cons (pe_tup (pa_cons (pe_bltn (v := .ty "list") (by rfl) T.m_list (by decide +kernel) rfl) (pa_cons (pe_bltn (v := .ty "dict") (by rfl) T.m_dict (by decide +kernel) rfl) pa_nil))) pa_nil))))
   (pss_one (ps_expr (pe_bm PySem.F.plainAttrs_list PySem.F.slot_list_append PySem.F.type_list_append mt_append (pv 1) (pa_cons (pv 0) pa_nil))))
   pss_nil)
  (Evl.pss_cut (ps_if (pt_val (pe_callB call_isiT (by rfl) T.m_isinstance (by decide +kernel) (pa_cons (pv 0) (pa_cons (pe_tup (pa_cons (pe_bltn (v := .ty "list") (by rfl) T.m_list (by decide +kernel) rfl) (pa_cons (pe_bltn (v := .ty "tuple") (by rfl) T.m_tuple (by decide +kernel) rfl) pa_nil))) pa_nil))))
   (pss_one (ps_for PassesOwn.never rfl (pi_list (pv 0)) (pg_name (i := 2) sc__law_holders.nd rfl (.inl rfl))
   (pss_one (ps_set (i := 1) sc__law_holders.nd rfl (.inl rfl) (pe_op op_cat (pv 1) (pe_call G__law_holders0 (hr.mono (by decide)) (by rfl) D__law_holders.g D__law_holders.F.kp D__law_holders.b .nil pass0 (pa_cons (pv 2) pa_nil)))))))
   pss_nil)
  (pss_cons (ps_if (pt_val (pe_callB call_isi (by rfl) T.m_isinstance (by decide +kernel) (pa_cons (pv 0) (pa_cons (pe_bltn (v := .ty "dict") (by rfl) T.m_dict (by decide +kernel) rfl) pa_nil))))
   pss_never
   pss_nil)
  (pss_one (ps_ret (pv 1))))))), ?_⟩
    walk_at "rd"
    intro f hf
    refine ⟨fun σ' H' => ∃ f, σ' = [some (.ref p), some (.ref f), none, none] ∧ Same H H' ∧ H f = none ∧ H' f = some (.lst [.ref p]), ?_, ?_⟩
    · walk_at "rd"
      intro t1 ht1
      refine ⟨_, _, _, _, _, true, rfl, upd_same, .cons (.ty _) (.cons (.ty _) .nil), .base (.lst (same_upd ht1 _ _ (same_upd hf _ _ hp))), kitAny_cons (b := true) (kit_ty (by decide +kernel)) (fun e => nomatch e) (fun _ => rfl), ?_⟩
      have n1 := ne_of_none (o := .lst []) (H := upd H f (.lst [])) upd_same ht1
      have ef : upd (upd H f (.lst [])) t1 (.tup [.ty "list", .ty "dict"]) f = some (.lst []) := by rw [upd_ne n1, upd_same]
      walk_at "rd"
      refine ⟨.inl ⟨rfl, _, .inl (.inl ef)⟩, ?_⟩
      walk_at "rd"
      refine ⟨f, [], .ref p, rfl, rfl, ef, by decide, f, rfl, same_app (fun b o e => same_upd ht1 b o (same_upd hf b o e)) hf, hf, upd_same⟩
    · rintro σ' H1 ⟨f, rfl, sm1, f0, ef⟩
      refine ⟨fun σ' H' => ∃ f x, σ' = [some (.ref p), some (.ref f), x, none] ∧ Same H H' ∧ H f = none ∧ H' f = some (.lst [.ref p]), ?_, ?_⟩
      · walk_at "rd"
        intro t2 ht2
        have hp2 := same_upd (o := .tup [.ty "list", .ty "tuple"]) ht2 _ _ (sm1 _ _ hp)
        refine ⟨_, _, _, _, _, true, rfl, upd_same, .cons (.ty _) (.cons (.ty _) .nil), .base (.lst (hp2)), kitAny_cons (b := true) (kit_ty (by decide +kernel)) (fun e => nomatch e) (fun _ => rfl), ?_⟩
        walk_at "rd"
        refine ⟨⟨_, .inl (.inl hp2)⟩, ?_⟩
        have sm2 : Same H (upd H1 t2 (.tup [.ty "list", .ty "tuple"])) := sm1.trans (same_upd ht2)
        have ef2 := same_upd (o := .tup [.ty "list", .ty "tuple"]) ht2 _ _ ef
        refine for_list (K := K) (xs := zs.map V.str) (fun i σ H' => ∃ f x, σ = [some (.ref p), some (.ref f), x, none] ∧ Same H H' ∧ H f = none ∧ H' f = some (.lst [.ref p])) ⟨f, _, rfl, sm2, f0, ef2⟩ (fun i σ H' _ h => by
          obtain ⟨f, x, _, sm, _⟩ := h
          exact .inl (.inl (sm _ _ hp))) ?_ ?_
        · rintro i y σ H' hx ⟨f, x, rfl, sm, f0, ef⟩
          obtain ⟨z, hz, rfl⟩ := map_at _ hx
          refine ⟨_, rfl, _, rfl, z, rfl, fun H3 r sm3 r0 er => ?_⟩
          refine ⟨f, r, _, _, rfl, rfl, sm3 _ _ ef, er, (by show 1 + 0 ≤ sizeLine; decide), fun g hg => ?_⟩
          exact ⟨g, _, rfl, (sm.trans sm3).trans (same_upd hg), (sm.trans sm3).free hg, upd_same⟩
        · rintro σ H' ⟨f, x, rfl, sm, f0, ef⟩
          exact ⟨f, x, rfl, sm, f0, ef⟩
      · rintro σ' H2 ⟨f, x, rfl, sm2, f0, ef⟩
        have hp2 := sm2 _ _ hp
        walk_at "rd"
        exact q H2 f sm2 f0 ef
def sp__law_holders2 (K : PySem.W.Frag) : Sp := fun vs H Q _ => ∃ (p : Addr) (ts : List Addr) (cs : Addr → List Str), vs = [.ref p] ∧ H p = some (.lst (ts.map V.ref)) ∧ ts.length ≤ 1000 ∧ (∀ t ∈ ts, H t = some (.lst ((cs t).map V.str)) ∧ (cs t).length ≤ 1000) ∧
  ∀ H' r, Same H H' → H r = none → H' r = some (.lst (.ref p :: ts.map V.ref)) → Q (.ref r) H'
theorem ok__law_holders2 {f__law_holders : Addr} {fd__law_holders : FuncData} (T : Tb mg) (D__law_holders : Df K mg "_law_holders" s__law_holders ["value"] f__law_holders fd__law_holders) (G__law_holders1 : FnOk P w K mg base CX0 2 f__law_holders fd__law_holders ["value"] (sp__law_holders1 K)) : FnOk P w K mg base CX0 3 f__law_holders fd__law_holders ["value"] (sp__law_holders2 K) := by
  refine D__law_holders.F.ok sc__law_holders (fun vs H Q E h => ?_) (fun cdv A outer s H vs Q E hr h => ?_)
  · obtain ⟨p, ts, cs, rfl, _⟩ := h
    rfl
  · obtain ⟨p, ts, cs, rfl, hp, tl, al, q⟩ := h
    refine ⟨_, (pss_cons (ps_set (i := 1) sc__law_holders.nd rfl (.inl rfl) (pe_lst pa_nil))
  (Evl.pss_cut (ps_if (pt_val (pe_callB call_isiT (by rfl) T.m_isinstance (by decide +kernel) (pa_cons (pv 0) (pa_cons (pe_tup (pa_cons (pe_bltn (v := .ty "list") (by rfl) T.m_list (by decide +kernel) rfl) (pa_cons (pe_bltn (v := .ty "dict") (by rfl) T.m_dict (by decide +kernel) rfl) pa_nil))) pa_nil))))
   (pss_one (ps_expr (pe_bm PySem.F.plainAttrs_list PySem.F.slot_list_append PySem.F.type_list_append mt_append (pv 1) (pa_cons (pv 0) pa_nil))))
   pss_nil)
  (Evl.pss_cut (ps_if (pt_val (pe_callB call_isiT (by rfl) T.m_isinstance (by decide +kernel) (pa_cons (pv 0) (pa_cons (pe_tup (pa_cons (pe_bltn (v := .ty "list") (by rfl) T.m_list (by decide +kernel) rfl) (pa_cons (pe_bltn (v := .ty "tuple") (by rfl) T.m_tuple (by decide +kernel) rfl) pa_nil))) pa_nil))))
   (pss_one (ps_for PassesOwn.never rfl (pi_list (pv 0)) (pg_name (i := 2) sc__law_holders.nd rfl (.inl rfl))
   (pss_one (ps_set (i := 1) sc__law_holders.nd rfl (.inl rfl) (pe_op op_cat (pv 1) (pe_call G__law_holders1 (hr.mono (by decide)) (by rfl) D__law_holders.g D__law_holders.F.kp D__law_holders.b .nil pass0 (pa_cons (pv 2) pa_nil)))))))
   pss_nil)
  (pss_cons (ps_if (pt_val (pe_callB call_isi (by rfl) T.m_isinstance (by decide +kernel) (pa_cons (pv 0) (pa_cons (pe_bltn (v := .ty "dict") (by rfl) T.m_dict (by decide +kernel) rfl) pa_nil))))
   pss_never
   pss_nil)
  (pss_one (ps_ret (pv 1))))))), ?_⟩
    walk_at "rd"
    intro f hf
    refine ⟨fun σ' H' => ∃ f, σ' = [some (.ref p), some (.ref f), none, none] ∧ Same H H' ∧ H f = none ∧ H' f = some (.lst [.ref p]), ?_, ?_⟩
    · walk_at "rd"
      intro t1 ht1
      refine ⟨_, _, _, _, _, true, rfl, upd_same, .cons (.ty _) (.cons (.ty _) .nil), .base (.lst (same_upd ht1 _ _ (same_upd hf _ _ hp))), kitAny_cons (b := true) (kit_ty (by decide +kernel)) (fun e => nomatch e) (fun _ => rfl), ?_⟩
      have n1 := ne_of_none (o := .lst []) (H := upd H f (.lst [])) upd_same ht1
      have ef : upd (upd H f (.lst [])) t1 (.tup [.ty "list", .ty "dict"]) f = some (.lst []) := by rw [upd_ne n1, upd_same]
      walk_at "rd"
      refine ⟨.inl ⟨rfl, _, .inl (.inl ef)⟩, ?_⟩
      walk_at "rd"
      refine ⟨f, [], .ref p, rfl, rfl, ef, by decide, f, rfl, same_app (fun b o e => same_upd ht1 b o (same_upd hf b o e)) hf, hf, upd_same⟩
    · rintro σ' H1 ⟨f, rfl, sm1, f0, ef⟩
      refine ⟨fun σ' H' => ∃ f x, σ' = [some (.ref p), some (.ref f), x, none] ∧ Same H H' ∧ H f = none ∧ H' f = some (.lst (.ref p :: ts.map V.ref)), ?_, ?_⟩
      · walk_at "rd"
        intro t2 ht2
        have hp2 := same_upd (o := .tup [.ty "list", .ty "tuple"]) ht2 _ _ (sm1 _ _ hp)
        refine ⟨_, _, _, _, _, true, rfl, upd_same, .cons (.ty _) (.cons (.ty _) .nil), .base (.lst (hp2)), kitAny_cons (b := true) (kit_ty (by decide +kernel)) (fun e => nomatch e) (fun _ => rfl), ?_⟩
        walk_at "rd"
        refine ⟨⟨_, .inl (.inl hp2)⟩, ?_⟩
        have sm2 : Same H (upd H1 t2 (.tup [.ty "list", .ty "tuple"])) := sm1.trans (same_upd ht2)
        have ef2 := same_upd (o := .tup [.ty "list", .ty "tuple"]) ht2 _ _ ef
        refine for_list (K := K) (xs := ts.map V.ref) (fun i σ H' => ∃ f x, σ = [some (.ref p), some (.ref f), x, none] ∧ Same H H' ∧ H f = none ∧ H' f = some (.lst (.ref p :: (ts.take i).map V.ref))) ⟨f, _, rfl, sm2, f0, ef2⟩ (fun i σ H' _ h => by
          obtain ⟨f, x, _, sm, _⟩ := h
          exact .inl (.inl (sm _ _ hp))) ?_ ?_
        · rintro i y σ H' hx ⟨f, x, rfl, sm, f0, ef⟩
          obtain ⟨t, ht, rfl⟩ := map_at _ hx
          have hi : i < ts.length := (List.getElem?_eq_some_iff.mp ht).1
          obtain ⟨h1, h2⟩ := al t (List.mem_of_getElem? ht)
          refine ⟨_, rfl, _, rfl, t, _, rfl, sm _ _ h1, h2, fun H3 r sm3 r0 er => ?_⟩
          refine ⟨f, r, _, _, rfl, rfl, sm3 _ _ ef, er, szl (by rw [List.length_cons, List.length_map, List.length_take]; show _ + 1 ≤ _; omega), fun g hg => ?_⟩
          refine ⟨g, _, rfl, (sm.trans sm3).trans (same_upd hg), (sm.trans sm3).free hg, ?_⟩
          rw [upd_same, take_map _ ht]; rfl
        · rintro σ H' ⟨f, x, rfl, sm, f0, ef⟩
          rw [List.length_map, List.take_length] at ef
          exact ⟨f, x, rfl, sm, f0, ef⟩
      · rintro σ' H2 ⟨f, x, rfl, sm2, f0, ef⟩
        have hp2 := sm2 _ _ hp
        walk_at "rd"
        exact q H2 f sm2 f0 ef
/-! ### _law_spoil -/
abbrev s__law_spoil : Stmt := topS 27
abbrev N__law_spoil : List Str := ["values", "holders", "k", "holder"]
theorem sc__law_spoil : FnScope N__law_spoil ["values"] (defScope s__law_spoil) := ⟨rfl, rfl, rfl, by decide +kernel, rfl, by decide +kernel, by decide +kernel⟩
def sp__law_spoil (K : PySem.W.Frag) : Sp := fun vs H Q _ => ∃ (v : Addr) (ts : List Addr) (cs : Addr → List Str), vs = [.ref v] ∧ H v = some (.lst (ts.map V.ref)) ∧ ts.Nodup ∧ v ∉ ts ∧ ts.length ≤ 20 ∧ (∀ t ∈ ts, H t = some (.lst ((cs t).map V.str)) ∧ (cs t).length ≤ 1000) ∧
  ∀ H', (∀ b o, b ∉ ts → H b = some o → H' b = some o) → (∀ t ∈ ts, ∃ y, H' t = some (.lst ((cs t).map V.str ++ [y]))) → Q (.bl true) H'
theorem atI_c {α : Type} {x : α} {xs : List α} {j : Nat} {v : α} (h : xs[j]? = some v) : atI (x :: xs) (1 + (j : Int)) = some v := by
  rw [show 1 + (j : Int) = ((j + 1 : Nat) : Int) by omega]
  exact atI_nat (by rw [List.getElem?_cons_succ]; exact h)
theorem atI_end {α : Type} (xs : List α) (v : α) : atI (xs ++ [v]) (((xs ++ [v]).length : Int) - 1) = some v := by
  have e : (((xs ++ [v]).length : Int) - 1) = ((xs.length : Nat) : Int) := by rw [List.length_append]; show ((xs.length + 1 : Nat) : Int) - 1 = _; omega
  rw [e]
  exact atI_nat (by simp)
theorem sp_can (k : Int) : (PyData.tuple [.str (Str.ofString "spoilt"), .int k]).canLay0 = true := by
  have e : (PyData.str (Str.ofString "spoilt")).canLay0 = true := by decide +kernel
  show PyData.canLayAll0 [.str (Str.ofString "spoilt"), .int k] = true
  simp only [PyData.canLayAll0, e, Bool.true_and]
  rfl
theorem sp_shaped (k : Int) : SeqAt.shaped (PyData.tuple [.str (Str.ofString "spoilt"), .int k]) = true := by
  unfold SeqAt.shaped
  rw [sp_can, Bool.true_and]
  exact decide_eq_true (by simp [PyData.depth, PyData.depthAll])
theorem nodup_ix {α : Type} {l : List α} (nd : l.Nodup) {i j : Nat} {x : α} (hi : l[i]? = some x) (hj : l[j]? = some x) : i = j := by
  obtain ⟨h1, e1⟩ := List.getElem?_eq_some_iff.mp hi
  obtain ⟨h2, e2⟩ := List.getElem?_eq_some_iff.mp hj
  rcases Nat.lt_trichotomy i j with h | h | h
  · exact absurd (e1.trans e2.symm) (List.pairwise_iff_getElem.mp nd i j h1 h2 h)
  · exact h
  · exact absurd (e2.trans e1.symm) (List.pairwise_iff_getElem.mp nd j i h2 h1 h)
/-- spoilt up to the i-th -/
structure Spo (H H' : Hp) (ts : List Addr) (cs : Addr → List Str) (i : Nat) : Prop where
  old : ∀ b o, b ∉ ts → H b = some o → H' b = some o
  done : ∀ j t, ts[j]? = some t → j < i → ∃ u, H' t = some (.lst ((cs t).map V.str ++ [.ref u])) ∧ H' u = some (.tup [.str "spoilt", .int (1 + (j : Int))])
  todo : ∀ j t, ts[j]? = some t → i ≤ j → H' t = some (.lst ((cs t).map V.str))
theorem ok__law_spoil {f__law_spoil : Addr} {fd__law_spoil : FuncData} {f__law_holders : Addr} {fd__law_holders : FuncData} (T : Tb mg) (D__law_spoil : Df K mg "_law_spoil" s__law_spoil ["values"] f__law_spoil fd__law_spoil) (D__law_holders : Df K mg "_law_holders" s__law_holders ["value"] f__law_holders fd__law_holders) (G__law_holders2 : FnOk P w K mg base CX0 3 f__law_holders fd__law_holders ["value"] (sp__law_holders2 K)) : FnOk P w K mg base CX0 4 f__law_spoil fd__law_spoil ["values"] (sp__law_spoil K) := by
  refine D__law_spoil.F.ok sc__law_spoil (fun vs H Q E h => ?_) (fun cdv A outer s H vs Q E hr h => ?_)
  · obtain ⟨v, ts, cs, rfl, _⟩ := h
    rfl
  · obtain ⟨v, ts, cs, rfl, hv, nd, nv, tl, al, q⟩ := h
    refine ⟨_, (pss_cons (ps_set (i := 1) sc__law_spoil.nd rfl (.inl rfl) (pe_call G__law_holders2 (hr.mono (by decide)) (by rfl) D__law_holders.g D__law_holders.F.kp D__law_holders.b .nil pass0 (pa_cons (pv 0) pa_nil)))
  (pss_cons (ps_for PassesOwn.never rfl (pi_range2 (by rfl) T.m_range (pa_cons pe_int (pa_cons (pe_callB call_len_seq (by rfl) T.m_len (by decide +kernel) (pa_cons (pv 1) pa_nil)) pa_nil))) (pg_name (i := 2) sc__law_spoil.nd rfl (.inl rfl))
   (pss_cons (ps_set (i := 3) sc__law_spoil.nd rfl (.inl rfl) (pe_ix ix_list (pv 1) (pv 2) (fun _ _ => rfl)))
  (pss_one (ps_if (pt_val (pe_callB call_isi (by rfl) T.m_isinstance (by decide +kernel) (pa_cons (pv 3) (pa_cons (pe_bltn (v := .ty "list") (by rfl) T.m_list (by decide +kernel) rfl) pa_nil))))
   (pss_one (ps_expr (pe_bm PySem.F.plainAttrs_list PySem.F.slot_list_append PySem.F.type_list_append mt_append (pv 3) (pa_cons (pe_tup (pa_cons pe_str (pa_cons (pv 2) pa_nil))) pa_nil))))
   (pss_one ps_never)))))
  (pss_cons (ps_for PassesOwn.never rfl (pi_range2 (by rfl) T.m_range (pa_cons pe_int (pa_cons (pe_callB call_len_seq (by rfl) T.m_len (by decide +kernel) (pa_cons (pv 1) pa_nil)) pa_nil))) (pg_name (i := 2) sc__law_spoil.nd rfl (.inl rfl))
   (pss_cons (ps_set (i := 3) sc__law_spoil.nd rfl (.inl rfl) (pe_ix ix_list (pv 1) (pv 2) (fun _ _ => rfl)))
  (pss_cons (ps_if (PW.pt (pw_and (pt_val (pe_callB call_isi (by rfl) T.m_isinstance (by decide +kernel) (pa_cons (pv 3) (pa_cons (pe_bltn (v := .ty "list") (by rfl) T.m_list (by decide +kernel) rfl) pa_nil)))) (pw_and1 (pt_cmpR (op_neD hr.units) (pe_ix ix_list (pv 3) (pe_op op_sub (pe_callB call_len_seq (by rfl) T.m_len (by decide +kernel) (pa_cons (pv 3) pa_nil)) pe_int) (fun _ _ => rfl)) (pe_tup (pa_cons pe_str (pa_cons (pv 2) pa_nil))) (nomark _)))))
   (pss_one (ps_ret pe_bl))
   pss_nil)
  (pss_one (ps_if (PW.pt (pw_and (pt_val (pe_callB call_isi (by rfl) T.m_isinstance (by decide +kernel) (pa_cons (pv 3) (pa_cons (pe_bltn (v := .ty "dict") (by rfl) T.m_dict (by decide +kernel) rfl) pa_nil)))) (pw_and1 (pt_cmpR (op_neD hr.units) (pe_dget (hu_of hr) (pv 3) pe_str (fun _ _ => rfl)) (pe_tup (pa_cons pe_str (pa_cons (pv 2) pa_nil))) (nomark _)))))
   (pss_one (ps_ret pe_bl))
   pss_nil)))))
  (pss_one (ps_ret pe_bl))))), ?_⟩
    refine ⟨_, rfl, v, ts, cs, rfl, hv, by omega, al, fun H1 h sm1 h0 eh => ?_⟩
    have len : (V.ref v :: ts.map V.ref).length = ts.length + 1 := by rw [List.length_cons, List.length_map]
    have cnt : (((V.ref v :: ts.map V.ref).length : Int) - 1).toNat = ts.length := by rw [len]; omega
    have hts : h ∉ ts := fun m => by
      have := (al h m).1
      rw [h0] at this; cases this
    walk_at "rd"
    rw [cnt]
    refine for_range (lo := 1) (n := ts.length) (fun i σ H' => Spo H H' ts cs i ∧ H' h = some (.lst (.ref v :: ts.map V.ref)) ∧ ∃ x y, σ = [some (.ref v), some (.ref h), x, y])
      ⟨⟨fun b o _ e => sm1 b o e, fun j t _ hj => absurd hj (Nat.not_lt_zero _), fun j t ht _ => sm1 _ _ (al t (List.mem_of_getElem? ht)).1⟩, eh, none, none, rfl⟩ ?_ ?_
    · rintro i σ H' hi ⟨⟨old, done, todo⟩, eh, x, y, rfl⟩
      obtain ⟨t, ht⟩ : ∃ t, ts[i]? = some t := ⟨ts[i], List.getElem?_eq_getElem hi⟩
      have tm := List.mem_of_getElem? ht
      have et := todo i t ht (Nat.le_refl _)
      have cl := (al t tm).2
      refine ⟨.ref h, rfl, _, rfl, h, _, _, _, rfl, rfl, .inl (.inl eh), atI_c (get_map _ ht), ?_⟩
      walk_at "rd"
      refine ⟨.inl ⟨rfl, _, .inl (.inl et)⟩, ?_⟩
      walk_at "rd"
      refine ⟨by show 2 ≤ sizeLine; decide, fun u hu => ?_⟩
      have tu : t ≠ u := ne_of_none et hu
      have hu' : h ≠ u := ne_of_none eh hu
      refine ⟨t, _, .ref u, rfl, rfl, by rw [upd_ne tu]; exact et, szt (by rw [List.length_map]; omega), ⟨?_, ?_, ?_⟩, ?_, _, _, rfl⟩
      · intro b o hb e
        have hb' := old b o hb e
        rw [upd_ne (fun q => hb (by rw [q]; exact tm)), upd_ne (ne_of_none hb' hu)]
        exact hb'
      · intro j t' ht' hj
        by_cases e : j = i
        · subst e
          rw [ht] at ht'
          cases ht'
          exact ⟨u, upd_same, by rw [upd_ne tu.symm, upd_same]⟩
        · obtain ⟨u', e1, e2⟩ := done j t' ht' (by omega)
          have n1 : t' ≠ t := fun q => e (nodup_ix nd (q ▸ ht') ht)
          have n2 : u' ≠ t := ne_of e2 et (by intro z; cases z)
          exact ⟨u', by rw [upd_ne n1, upd_ne (ne_of_none e1 hu)]; exact e1, by rw [upd_ne n2, upd_ne (ne_of_none e2 hu)]; exact e2⟩
      · intro j t' ht' hj
        have e1 := todo j t' ht' (by omega)
        have n1 : t' ≠ t := fun q => (by omega : j ≠ i) (nodup_ix nd (q ▸ ht') ht)
        rw [upd_ne n1, upd_ne (ne_of_none e1 hu)]
        exact e1
      · rw [upd_ne (fun q => hts (by rw [q]; exact tm)), upd_ne hu']
        exact eh
    · rintro σ H2 ⟨⟨old, done, todo⟩, eh, x, y, rfl⟩
      walk_at "rd"
      rw [cnt]
      refine for_range (lo := 1) (n := ts.length) (fun i σ H' => Same H2 H' ∧ ∃ x y, σ = [some (.ref v), some (.ref h), x, y]) ⟨Same.refl H2, _, _, rfl⟩ ?_ ?_
      · rintro i σ H' hi ⟨sm, x, y, rfl⟩
        replace eh := sm _ _ eh
        obtain ⟨t, ht⟩ : ∃ t, ts[i]? = some t := ⟨ts[i], List.getElem?_eq_getElem hi⟩
        have tm := List.mem_of_getElem? ht
        obtain ⟨u, et, eu⟩ := done i t ht hi
        replace et := sm _ _ et
        replace eu := sm _ _ eu
        refine ⟨.ref h, rfl, _, rfl, h, _, _, _, rfl, rfl, .inl (.inl eh), atI_c (get_map _ ht), ?_⟩
        walk_at "rd"
        refine ⟨t, _, _, .ref u, rfl, rfl, .inl (.inl et), atI_end _ _, ?_⟩
        walk_at "rd"
        refine ⟨by show 2 ≤ sizeLine; decide, fun w' hw => ?_⟩
        have eu2 := same_upd (o := .tup [.str (Str.ofString "spoilt"), .int (1 + (i : Int))]) hw _ _ eu
        refine ⟨.tuple [.str (Str.ofString "spoilt"), .int (1 + (i : Int))], .tuple [.str (Str.ofString "spoilt"), .int (1 + (i : Int))], .tup (.inl (.inl eu2)) (.cons (.str _) (.cons (.int _) .nil)), .tup (.inl (.inl upd_same)) (.cons (.str _) (.cons (.int _) .nil)), sp_shaped _, sp_shaped _, ?_⟩
        rw [SeqAt.eqv_refl _ (sp_can _)]
        have et2 := same_upd (o := .tup [.str (Str.ofString "spoilt"), .int (1 + (i : Int))]) hw _ _ et
        walk_at "rd"
        exact ⟨sm.trans (same_upd hw), _, _, rfl⟩
      · rintro σ H' ⟨sm, x, y, rfl⟩
        refine q H' (fun b o n e => sm _ _ (old b o n e)) fun t tm => ?_
        obtain ⟨i, ht⟩ := List.mem_iff_getElem?.mp tm
        obtain ⟨u, e, _⟩ := done i t ht (List.getElem?_eq_some_iff.mp ht).1
        exact ⟨_, sm _ _ e⟩
end
end K1

namespace TxS
open PySem PySem.Spec PyProof.Rows L2
/-! ### a set of texts, with what its walk wants: L the texts, each once, in the order in which they came -/
structure Lies (P : Program) (w : World) (es : Array (Int × Value)) (t : SetTable) (L : List Str) : Prop where
  el : ElemsOf (strKind P w) es.toList
  vals : ∃ vs, (es.toList.map Prod.snd).Perm vs ∧ StrsAre vs L
  nd : L.Nodup
  few : L.length < scanBound
  fit : t.fits es.size = true
  ris : Ris t.place.toList
  led : w.params.followText "set-order" = true ∨ t.led = true
def SetL (P : Program) (w : World) (h : Heap) (a : Addr) (L : List Str) : Prop :=
  ∃ o es ep t, h.get? a = some o ∧ o.ExactSet ∧ o.data = .set es ep t ∧ Lies P w es t L
section
variable {P : Program} {w : World} {es : Array (Int × Value)} {t : SetTable} {L : List Str}
theorem Lies.size (Z : Lies P w es t L) : es.size = L.length := by
  obtain ⟨vs, p, s⟩ := Z.vals
  have e := p.length_eq
  rw [List.length_map, Array.length_toList] at e
  exact e.trans (StrsAre.len_eq s)
theorem strs_mem : ∀ {vs : List Value} {L : List Str}, StrsAre vs L → ∀ x, x ∈ L ↔ ∃ v ∈ vs, ∃ u, v = Value.str x u
  | _, _, .nil, x => ⟨fun h => (nomatch h), fun ⟨_, h, _⟩ => (nomatch h)⟩
  | _, _, .cons n u r, x => by
    rw [List.mem_cons, strs_mem r x]
    constructor
    · rintro (e | ⟨v, hv, q⟩)
      · exact ⟨_, List.mem_cons_self, u, by rw [e]⟩
      · exact ⟨v, List.mem_cons_of_mem _ hv, q⟩
    · rintro ⟨v, hv, u', q⟩
      rcases List.mem_cons.mp hv with e | hv
      · rw [e] at q; injection q with q1 _; exact .inl q1.symm
      · exact .inr ⟨v, hv, u', q⟩
theorem Lies.mem (Z : Lies P w es t L) (x : Str) : x ∈ L ↔ ∃ e ∈ es.toList, (strKind P w).is x e.2 = true := by
  obtain ⟨vs, p, s⟩ := Z.vals
  rw [strs_mem s x]
  constructor
  · rintro ⟨v, hv, u, rfl⟩
    obtain ⟨e, he, q⟩ := List.mem_map.mp (p.mem_iff.mpr hv)
    exact ⟨e, he, by rw [q]; exact strKind_is _ _ _ _⟩
  · rintro ⟨e, he, q⟩
    obtain ⟨u, q2⟩ := Value.isStrOf_shape (x := x) (v := e.2) q
    exact ⟨e.2, p.mem_iff.mp (List.mem_map.mpr ⟨e, he, rfl⟩), u, q2⟩
theorem Lies.move (Z : Lies P w es t L) {es' : Array (Int × Value)} {t' : SetTable} (p : es'.toList.Perm es.toList) (f : t'.fits es'.size = true) (r : Ris t'.place.toList) (l : t'.led = t.led) : Lies P w es' t' L where
  el := Z.el.perm p
  vals := let ⟨vs, q, s⟩ := Z.vals; ⟨vs, (p.map Prod.snd).trans q, s⟩
  nd := Z.nd
  few := Z.few
  fit := f
  ris := r
  led := Z.led.imp id fun z => by rw [l]; exact z
theorem strs_app : ∀ {vs ws : List Value} {L M : List Str}, StrsAre vs L → StrsAre ws M → StrsAre (vs ++ ws) (L ++ M)
  | _, _, _, _, .nil, s => s
  | _, _, _, _, .cons n u r, s => .cons n u (strs_app r s)
theorem Lies.more (Z : Lies P w es t L) {k : Str} {u : Tok} (hk : k ∉ L) (room : L.length + 1 < scanBound) {es' : Array (Int × Value)} {t' : SetTable}
    (p : es'.toList.Perm (es.toList ++ [(hashStr w k, Value.str k u)])) (f : t'.fits es'.size = true) (r : Ris t'.place.toList) (l : t'.led = t.led) : Lies P w es' t' (L ++ [k]) where
  el := (ElemsOf.push Z.el (k := k) (x := .str k u) (strKind_is _ _ _ _) rfl).perm p
  vals := by
    obtain ⟨vs, q, s⟩ := Z.vals
    refine ⟨vs ++ [.str k u], (p.map Prod.snd).trans ?_, strs_app s (.cons k u .nil)⟩
    rw [List.map_append]
    exact List.Perm.append_right _ q
  nd := by
    rw [List.nodup_append]
    refine ⟨Z.nd, by simp, fun x hx y hy e => ?_⟩
    rw [List.mem_singleton.mp hy] at e
    exact hk (e ▸ hx)
  few := by rw [List.length_append]; exact room
  fit := f
  ris := r
  led := Z.led.imp id fun z => by rw [l]; exact z
/-- what an add leaves -/
def plus (L : List Str) (k : Str) : List Str := if L.contains k = true then L else L ++ [k]
theorem plus_in {k : Str} (h : k ∈ L) : plus L k = L := if_pos (List.contains_iff_mem.mpr h)
theorem plus_out {k : Str} (h : k ∉ L) : plus L k = L ++ [k] := if_neg fun e => h (List.contains_iff_mem.mp e)
end
section
variable {P : Program} {w : World} {A : Around} {E : Value → Shared → Prop} {s : Shared} {a : Addr} {L : List Str}
theorem heap_put {h : Heap} {o : Obj} {es es' : Array (Int × Value)} {ep : Nat} {t t' : SetTable} (ho : h.get? a = some o) (hd : o.data = .set es ep t) :
    (h.update a (Obj.putSet es' t')).get? a = some { o with data := .set es' (ep + 1) t' } := by
  have z := Heap.get?_update_self (Obj.putSet es' t') ho (by rw [putSet_of es' t' hd]; rfl)
  rwa [putSet_of es' t' hd] at z
theorem ask_rule {nm : String} {Q : Unit → Shared → Prop} (q : Q () s) : ∀ b : Bool, wpAny (model P w) A (match b with | true => rule nm | false => pure ()) Q E s
  | true => wpAny_rule q
  | false => wpAny_pure q
/-- the end of an add: stored, and laid anew where the table is too full -/
theorem stored {o : Obj} {es0 : Array (Int × Value)} {ep : Nat} {t0 : SetTable} (ho : s.heap.get? a = some o) (hx : o.ExactSet) (hd : o.data = .set es0 ep t0) {es : Array (Int × Value)} {t : SetTable}
    (Z : Lies P w es t L) {wd : Bool} {g : Bool → Sem Unit} (hg : ∀ (b : Bool) (s1 : Shared) (Q' : Unit → Shared → Prop), Q' () s1 → wpAny (model P w) A (g b) Q' E s1) {R : Option Bool → Shared → Prop}
    (hR : ∀ h', Heap.SameBut a s.heap h' → SetL P w h' a L → R (some true) { s with heap := h' }) :
    wpAny (model P w) A (do
        storeSet a es t
        if (!wd && t.tooFull) = true then do
            g (relayAll t es (SetTable.grown es.size)).2.2
            storeSet a (relayAll t es (SetTable.grown es.size)).1 (relayAll t es (SetTable.grown es.size)).2.1
            pure (some true)
          else pure (some true)) R E s := by
  have fw : es.size < scanBound := by rw [Z.size]; exact Z.few
  have z1 := heap_put (es' := es) (t' := t) ho hd
  have b1 := Heap.SameBut.update s.heap a (Obj.putSet es t)
  refine wpAny_bind (wpAny_storeSet_of ho hd ?_ (fits_of_scanBound fw))
  by_cases c : (!wd && t.tooFull) = true
  · rw [if_pos c]
    have Z2 : Lies P w (relayAll t es (SetTable.grown es.size)).1 (relayAll t es (SetTable.grown es.size)).2.1 L :=
      Z.move (relayAll_perm t es _) (relayAll_fits t es _) (relayAll_ris t es _) (relayAll_led t es _)
    have fw2 : (relayAll t es (SetTable.grown es.size)).1.size < scanBound := by rw [Z2.size]; exact Z2.few
    refine wpAny_bind (hg _ _ _ ?_)
    refine wpAny_bind (wpAny_storeSet_of z1 rfl ?_ (fits_of_scanBound fw2))
    exact wpAny_pure (hR _ (b1.trans (Heap.SameBut.update _ a _)) ⟨_, _, _, _, heap_put z1 rfl, hx, rfl, Z2⟩)
  · rw [if_neg c]
    exact wpAny_pure (hR _ b1 ⟨_, _, _, _, z1, hx, rfl, Z⟩)
theorem added {k : Str} {u : Tok} {Q : Bool → Shared → Prop} (R : SetL P w s.heap a L) (room : L.length + 1 < scanBound)
    (hQ : ∀ b h', Heap.SameBut a s.heap h' → SetL P w h' a (plus L k) → Q b { s with heap := h' }) :
    wpAny (model P w) A (setAddHashed a (.str k u) (hashStr w k)) Q E s := by
  obtain ⟨o, es, ep, t, ho, hx, hd, Z⟩ := R
  have fw : es.size < scanBound := by rw [Z.size]; exact Z.few
  have is : (strKind P w).is k (.str k u) = true := strKind_is _ _ _ _
  unfold setAddHashed setAddHashedIn
  refine wpAny_holding (wpAny_bind (wpAny_setState_of ho hd Z.fit ?_))
  dsimp only
  rw [byScan_of (x := .str k u) rfl fw Z.el, if_pos rfl]
  unfold setAddByScan
  refine wpAny_bind (wpAny_bind (wpAny_rule (wpAny_bind (wpAny_setScan_of (knd := strKind P w) is ho hd Z.fit Z.el ?_))))
  cases f : es.toList.findIdx? (fun e => (strKind P w).is k e.2) with
  | some j =>
    obtain ⟨hj, pj, _⟩ := List.findIdx?_eq_some_iff_getElem.mp f
    have hk : k ∈ L := (Z.mem k).mpr ⟨_, List.getElem_mem hj, pj⟩
    refine wpAny_pure (wpAny_pure ?_)
    have z := hQ false s.heap (Heap.SameBut.refl a s.heap) (by rw [plus_in hk]; exact ⟨o, es, ep, t, ho, hx, hd, Z⟩)
    exact z
  | none =>
    have hk : k ∉ L := fun m => by
      obtain ⟨e, he, q⟩ := (Z.mem k).mp m
      have z := List.findIdx?_eq_none_iff.mp f e he
      rw [q] at z; cases z
    have pm := layNew_perm t es (hashStr w k) (.str k u)
    rw [Array.toList_push] at pm
    have Zn := Z.more hk room pm (layNew_fits t es (hashStr w k) (.str k u)) (layNew_ris t es (hashStr w k) (.str k u) Z.ris) (layNew_led t es (hashStr w k) (.str k u))
    have last : ∀ h', Heap.SameBut a s.heap h' → SetL P w h' a (L ++ [k]) → Q true { s with heap := h' } := fun h' b r => hQ true h' b (by rw [plus_out hk]; exact r)
    clear pm
    generalize layNew t es (hashStr w k) (.str k u) = Y at Zn ⊢
    obtain ⟨es1, t1, wd, gave⟩ := Y
    dsimp only at Zn ⊢
    refine wpAny_bind (ask_rule ?_ _)
    by_cases pl : t1.plain = true
    · rw [if_pos pl]
      refine wpAny_bind ?_
      rw [hashByValue_scannable 8 (x := .str k u) rfl]
      refine wpAny_pure (stored ho hx hd ?_ (fun b s1 Q' q => ask_rule q b) fun h' sb r => wpAny_pure (last h' sb r))
      split
      · exact Zn
      · exact Zn.move (List.Perm.refl _) (SetTable.fits_plain_off Zn.fit) Zn.ris rfl
    · rw [if_neg pl]
      refine wpAny_bind (wpAny_pure ?_)
      rw [if_pos rfl]
      exact stored ho hx hd Zn (fun b s1 Q' q => ask_rule q b) fun h' sb r => wpAny_pure (last h' sb r)
theorem foldl_few : ∀ (xs : List Str) (L : List Str), (xs.foldl plus L).length ≤ L.length + xs.length
  | [], L => Nat.le_refl _
  | x :: xs, L => by
    have h := foldl_few xs (plus L x)
    have h2 : (plus L x).length ≤ L.length + 1 := by
      unfold plus
      split
      · omega
      · rw [List.length_append]; exact Nat.le_refl _
    rw [List.foldl_cons, List.length_cons]
    omega
theorem SetL.keep {h h' : Heap} (R : SetL P w h a L) (k : ∀ o, h.get? a = some o → h'.get? a = some o) : SetL P w h' a L := by
  obtain ⟨o, es, ep, t, ho, r⟩ := R
  exact ⟨o, es, ep, t, k o ho, r⟩
end
section
variable {P : Program} {w : World} {A : Around} {R : Result → Shared → Prop} {I S : Addr} {fp wr : List Addr} {G : Array GenState → Array GenState → Prop} {n : Nat} {Pv : Nat → Value → Prop} {St : Nat → Shared → Prop}
/-- the loop of set(..): every text that the walk gives is put in -/
theorem updated (W : WalksS P w A.in1 I fp wr G n Pv St) (away : S ∉ fp) {xs : List Str} (len : xs.length = n) (few : n + 1 < scanBound) (val : ∀ i v, Pv i v → ∃ u, v = .str (xs.getD i Str.empty) u) :
    ∀ (left i : Nat) (s : Shared), n - i = left → i ≤ n → St i s → SetL P w s.heap S ((xs.take i).foldl plus []) →
      (∀ s', Moved (S :: wr) G s s' → SetL P w s'.heap S (xs.foldl plus []) → R (.ok (.ret .none)) s') →
      codeAny (model P w) A (.builtin "set.update.loop" ⟨[.ref S, .ref I], []⟩) R s := by
  have off : S ∉ wr := fun m => away (W.sub _ m)
  have wider : ∀ b ∈ wr, b ∈ S :: wr := fun b m => List.mem_cons_of_mem _ m
  intro left
  induction left with
  | zero =>
    intro i s e le st here fin
    have ei : i = n := by omega
    subst ei
    refine codeAny_builtin PyProof.Rows.F.entry_set_update_loop ?_
    rw [Around.under_plainId PyProof.Rows.F.plain_set_update_loop _]
    show wpAny _ A.in1 (pyNext (.ref I) >>= _) _ _ s
    refine wpAny_bind (W.done s _ _ st fun s' mv => ?_)
    rw [← len, List.take_length] at here
    exact wpAny_pure (fin s' (mv.mono wider) (here.keep fun o q => mv.heap S _ off q))
  | succ left ih =>
    intro i s e le st here fin
    have lt : i < n := by omega
    refine codeAny_builtin PyProof.Rows.F.entry_set_update_loop ?_
    rw [Around.under_plainId PyProof.Rows.F.plain_set_update_loop _]
    show wpAny _ A.in1 (pyNext (.ref I) >>= _) _ _ s
    refine wpAny_bind (W.item i s _ _ lt st fun v s' pv st' mv => ?_)
    obtain ⟨u, rfl⟩ := val i v pv
    have here' := here.keep (h' := s'.heap) fun o q => mv.heap S _ off q
    have size : ((xs.take i).foldl plus []).length + 1 < scanBound := by
      have z := foldl_few (xs.take i) []
      rw [List.length_take, List.length_nil] at z
      omega
    refine wpAny_bind (wpAny_holding ?_)
    unfold setAdd
    refine wpAny_holding (wpAny_bind ((PySem.strKind P w).pyHash (k := xs.getD i Str.empty) (strKind_is _ _ _ _) ?_))
    refine added (s := { s' with toks := s'.toks + 1 }) here' size fun b h' sb now => ?_
    have grown : SetL P w h' S ((xs.take (i + 1)).foldl plus []) := by
      have g : xs[i]? = some (xs.getD i Str.empty) := by
        have hi : i < xs.length := by omega
        rw [List.getD_eq_getElem?_getD, List.getElem?_eq_getElem hi]; rfl
      rw [List.take_add_one, g, List.foldl_append]
      exact now
    refine wpAny_pure ⟨plainId_quiet PyProof.Rows.F.plain_set_update_loop _, ih (i + 1) _ (by omega) lt (W.frame _ s' _ _ st' (Nat.le_succ _) fun b m o q => ?_) grown fun s2 mv2 last => ?_⟩
    · rw [sb.2 b fun z : b = S => away (z ▸ m)]; exact q
    · refine fin s2 (Moved.trans W.gtrans ((mv.mono wider).then_heap (Nat.le_succ _) fun b o m q => ?_) mv2) last
      rw [sb.2 b fun z : b = S => m (by rw [z]; exact List.mem_cons_self)]; exact q
end
section
variable {P : Program} {w : World} {A : Around} {E : Value → Shared → Prop} {s : Shared}
/-- an empty set as the model lays it: led, or of a world that follows the text -/
def bare (w : World) : Obj := { cls := .type "set", dict := none, data := .set #[] 0 (.fresh 0 0 (!w.params.followText "set-order")) }
theorem bare_set {h : Heap} {a : Addr} (e : h.get? a = some (bare w)) : SetL P w h a [] := by
  refine ⟨_, #[], 0, _, e, ⟨rfl, rfl, rfl⟩, rfl, ⟨(fun e he => by simp at he), ⟨[], List.Perm.refl _, .nil⟩, List.nodup_nil, by decide, rfl, List.Pairwise.nil, ?_⟩⟩
  show _ ∨ (!w.params.followText "set-order") = true
  cases w.params.followText "set-order"
  · exact .inr rfl
  · exact .inl rfl
/-- set.__new__ with one argument -/
theorem new_set (x : Value) {Q : Value → Shared → Prop} (h : Q (.ref s.heap.objs.size) { s with heap := s.heap.push (bare w) }) :
    codeAny (model P w) A (.call (.builtin "set.__new__") ⟨[.type "set", x], []⟩) (wants Q E) s := by
  refine codeAny_of_tree ?_
  show wpAny _ A.in1 (checkBuiltinCall "set.__new__" ⟨[.type "set", x], []⟩ >>= fun _ => again (.builtin "set.__new__" ⟨[.type "set", x], []⟩)) _ _ s
  refine wpAny_bind (wpAny_of_eq (PySem.F.newCall_set_1 x) (wpAny_pure ⟨plainId_quiet PySem.F.plain_set_new _, codeAny_builtin PySem.F.entry_set_new ?_⟩))
  rw [Around.under_plainId PySem.F.plain_set_new _]
  have self := PySem.sub_set_self
  unfold Builtin.«set.__new__» Builtin.Frozenset.newClass
  obtain ⟨hp, g, d, tk, os⟩ := s
  dsimp only
  wp_walk
  refine wpAny_askSetting (wpAny_pure ?_)
  dsimp only
  simp only [newObj]
  exact wpAny_bind (wpAny_alloc (wpAny_pure (wpAny_pure h)))
/-- what is set: a list or a tuple of texts -/
def Seq (T : String) (h : Heap) (l : Addr) (items : Array Value) : Prop := ∃ o n, h.get? l = some o ∧ o.cls = .type T ∧ o.data = .seq items n
set_option maxHeartbeats 4000000 in
theorem made {T : String} (hT : T = "list" ∨ T = "tuple") {l : Addr} {items : Array Value} {xs : List Str} {Q : Value → Shared → Prop} (calm : A.handled = none) (sl : Seq T s.heap l items) (hi : StrsAre items.toList xs) (few : xs.length + 1 < scanBound)
    (q : ∀ (h' : Heap) (tk : Nat), SetL P w h' s.heap.objs.size (xs.foldl plus []) → (∀ b o, s.heap.get? b = some o → h'.get? b = some o) → Q (.ref s.heap.objs.size) { s with heap := h', toks := tk }) :
    wpAny (model P w) A (call (.type "set") [.ref l]) Q E s := by
  obtain ⟨m1, m2, mro⟩ := PySem.F.called_set.mro
  have by_new := PySem.F.called_set.made
  have is_sub := PySem.F.called_set.sub
  have no_type := PySem.F.called_set.notType
  have may := PySem.F.called_set.canCreate
  have fits := PySem.F.typeCall_set_1 (.ref l)
  refine wpAny_call (codeAny_of_tree ?_)
  show wpAny _ _ (callAny (.type "set") _) _ _ _
  refine wpAny_pure ⟨Code.quiet_builtin _ (by decide +kernel), codeAny_builtin PySem.F.entry_type_call ?_⟩
  rw [Around.under_plain (weight_type_call_type "set" [.ref l] []) rfl]
  repeat (any_goals (first | assumption | wp_step))
  refine codeAny_mono (new_set (.ref l) (E := E) (Q := fun v s1 => v = .ref s.heap.objs.size ∧ s1 = { s with heap := s.heap.push (bare w) }) ⟨rfl, rfl⟩) fun r s1 hr => ?_
  cases r with
  | error e => exact hr
  | ok fl =>
    cases fl with
    | ret v =>
      obtain ⟨rfl, rfl⟩ := hr
      have at0 : (s.heap.push (bare w)).get? s.heap.objs.size = some (bare w) := Heap.get?_push_size _ rfl
      have ty0 : Shared.TypeIs { s with heap := s.heap.push (bare w) } (.ref s.heap.objs.size) "set" := ⟨_, at0, rfl⟩
      have look := PySem.F.called_set.init.lookup
      have bind := PySem.F.called_set.init.bind (.ref s.heap.objs.size)
      repeat (any_goals (first | assumption | wp_step))
      refine codeAny_mono (codeAny_call_builtin (R := wants (fun v s2 => v = .none ∧ ∃ h' tk, s2 = { s with heap := h', toks := tk } ∧ SetL P w h' s.heap.objs.size (xs.foldl plus []) ∧ ∀ b o, s.heap.get? b = some o → h'.get? b = some o) E)
        PySem.F.called_set.init.plain PySem.F.entry_set_init (check_set_init_1 ty0 ?_)) fun r2 s2 hr2 => ?_
      · obtain ⟨ol, nl, hol, cl, dl⟩ := sl
        have hol1 : (s.heap.push (bare w)).get? l = some ol := Heap.get?_push_of_some _ hol
        have old : l < s.heap.objs.size := Heap.lt_size hol
        have small : items.size = xs.length := by rw [← StrsAre.len_eq hi, Array.length_toList]
        have val : ∀ (i : Nat) (v : Value), items[i]? = some v → ∃ u, v = .str (xs.getD i Str.empty) u := fun i v hv => SS.strs_at hi i v (by rw [Array.getElem?_toList]; exact hv)
        have apart : l ≠ (s.heap.push (bare w)).objs.size := by rw [Heap.size_push]; exact Nat.ne_of_lt (Nat.lt_succ_of_lt old)
        have off : s.heap.objs.size ∉ [(s.heap.push (bare w)).objs.size, l] := by
          rw [Heap.size_push]
          intro m
          rcases List.mem_cons.mp m with z | z
          · exact absurd z (Nat.ne_of_lt (Nat.lt_succ_self _))
          · exact absurd (List.mem_singleton.mp z) (Nat.ne_of_gt old)
        have calm3 : A.in1.in1.in1.handled = none := by simp [calm]
        unfold Builtin.«set.__init__» noKeywords Builtin.Frozenset.updateFrom
        generalize hPI : pyIter = PI
        obtain ⟨oc, od, dt, osl⟩ := ol
        simp only at cl dl
        subst cl dl
        rcases hT with rfl | rfl
        · have n1 := PySem.F.sub_list_set
          have n2 := PySem.F.sub_list_frozenset
          have n3 : (Value.type "list" == Value.type "dict") = false := by decide
          have whole : (s.heap.push (bare w)).IsList l items := ⟨_, hol1, rfl, nl, rfl⟩
          wp_walk
          subst hPI
          refine wpAny_pyIter_list whole (wpAny_bind (wpAny_runValue ?_))
          refine updated ((Walks.list calm3 _ l apart items).toS) off small.symm (by rw [small]; exact few) val (items.size - 0) 0 _ (by omega) (Nat.zero_le _)
            ⟨⟨_, Heap.get?_push_size _ rfl, rfl, rfl⟩, whole.push _⟩ (bare_set (Heap.get?_push_of_some _ at0)) ?_
          intro s2 mv now
          obtain ⟨h', g', d', tk', os'⟩ := s2
          obtain rfl : g' = s.gens := mv.gens
          obtain rfl : d' = s.drawn := mv.drawn
          obtain rfl : os' = s.os := mv.os
          show wpAny _ _ _ _ _ _
          refine wpAny_pure ?_
          show wpAny _ _ (ret Value.none) _ _ _
          refine wpAny_pure ⟨rfl, h', tk', rfl, now, fun b o e => mv.heap b o (fun m => ?_) (Heap.get?_push_of_some _ (Heap.get?_push_of_some _ e))⟩
          have bl := Heap.lt_size e
          rcases List.mem_cons.mp m with z | z
          · rw [z] at bl; exact Nat.lt_irrefl _ bl
          · have z2 := List.mem_singleton.mp z
            rw [z2, Heap.size_push] at bl
            exact Nat.not_succ_lt_self bl
        · have n1 := PySem.F.sub_tuple_set
          have n2 := PySem.F.sub_tuple_frozenset
          have n3 : (Value.type "tuple" == Value.type "dict") = false := by decide
          have whole : (s.heap.push (bare w)).IsTuple l items := ⟨_, hol1, rfl, nl, rfl⟩
          wp_walk
          subst hPI
          refine wpAny_pyIter_tuple whole (wpAny_bind (wpAny_runValue ?_))
          refine updated ((Walks.tuple calm3 _ l apart items).toS) off small.symm (by rw [small]; exact few) val (items.size - 0) 0 _ (by omega) (Nat.zero_le _)
            ⟨⟨_, Heap.get?_push_size _ rfl, rfl, rfl⟩, whole.push _⟩ (bare_set (Heap.get?_push_of_some _ at0)) ?_
          intro s2 mv now
          obtain ⟨h', g', d', tk', os'⟩ := s2
          obtain rfl : g' = s.gens := mv.gens
          obtain rfl : d' = s.drawn := mv.drawn
          obtain rfl : os' = s.os := mv.os
          show wpAny _ _ _ _ _ _
          refine wpAny_pure ?_
          show wpAny _ _ (ret Value.none) _ _ _
          refine wpAny_pure ⟨rfl, h', tk', rfl, now, fun b o e => mv.heap b o (fun m => ?_) (Heap.get?_push_of_some _ (Heap.get?_push_of_some _ e))⟩
          have bl := Heap.lt_size e
          rcases List.mem_cons.mp m with z | z
          · rw [z] at bl; exact Nat.lt_irrefl _ bl
          · have z2 := List.mem_singleton.mp z
            rw [z2, Heap.size_push] at bl
            exact Nat.not_succ_lt_self bl
      · cases r2 with
        | error e => exact hr2
        | ok fl2 =>
          cases fl2 with
          | ret v =>
            obtain ⟨rfl, h', tk, rfl, now, keep⟩ := hr2
            repeat (any_goals (first | assumption | wp_step))
            exact q _ _ now keep
          | _ => exact hr2.elim
    | _ => exact hr.elim
end
end TxS

namespace TxS
open PySem PySem.Spec PyProof.Rows L2
/-! ### texts in their order -/
abbrev ltS (x y : Str) : Prop := x.cps.toList < y.cps.toList
def ltT (v u : Value) : Bool := decide (ltS (strOf v) (strOf u))
theorem swo_text : SrtO.Swo ltT where
  asym := fun x y h => by
    have a : ltS (strOf x) (strOf y) := of_decide_eq_true h
    exact decide_eq_false (List.lt_asymm a)
  tr := fun x y z h k => by
    have a : ¬ ltS (strOf y) (strOf x) := of_decide_eq_false h
    have b : ¬ ltS (strOf z) (strOf y) := of_decide_eq_false k
    refine decide_eq_false ?_
    exact List.not_lt.mpr (List.le_trans (List.not_lt.mp a) (List.not_lt.mp b))
theorem strict : ∀ {l : List Str}, l.Nodup → l.Pairwise (fun x y => ¬ ltS y x) → l.Pairwise ltS
  | [], _, _ => .nil
  | x :: l, d, h => by
    obtain ⟨d1, d2⟩ := List.nodup_cons.mp d
    obtain ⟨h1, h2⟩ := List.pairwise_cons.mp h
    refine .cons (fun y hy => ?_) (strict d2 h2)
    rcases Classical.em (ltS x y) with e | e
    · exact e
    · have q : x.cps.toList = y.cps.toList := List.le_antisymm (List.not_lt.mp (h1 y hy)) (List.not_lt.mp e)
      have r : x = y := by
        cases x; cases y
        exact congrArg _ (Array.toList_inj.mp q)
      exact absurd (r ▸ hy) d1
section
variable {P : Program} {w : World} {A : Around} {E : Value → Shared → Prop} {s : Shared}
theorem texts_cmp {vs : List Value} {L : List Str} (h : StrsAre vs L) : SrtO.Cmp P w A s oneType' (fun p => p.1 ∈ vs) (SrtO.lt2 ltT) := by
  intro p q hm hm'
  obtain ⟨x, t, e⟩ := h.all _ hm
  obtain ⟨y, u, e'⟩ := h.all _ hm'
  show wpAny (model P w) A (keyLt' oneType' p.1 q.1) (fun r s' => s' = s ∧ r = ltT p.1 q.1) (fun _ _ => False) s
  rw [e, e', keyLt'_oneType]
  exact oneLt_str ⟨rfl, rfl⟩
theorem texts_sortable {a : Addr} {vs : List Value} {L : List Str} (h : StrsAre vs L) (h2 : 2 ≤ vs.length) : SrtO.SortableO P w A s a vs ltT := fun h' _ => by
  refine ⟨oneType', fun Q E hq => ?_, texts_cmp h⟩
  rcases vs with _ | ⟨v, _ | ⟨u, r⟩⟩
  · exact absurd h2 (by simp)
  · exact absurd h2 (by simp)
  · rw [keyKind_strs h]
    exact wpAny_pure hq
theorem strs_perm {vs : List Value} {L : List Str} (h : StrsAre vs L) {ws : List Value} (p : ws.Perm vs) : StrsAre ws (ws.map strOf) ∧ (ws.map strOf).Perm L := by
  refine ⟨strsAre_map _ fun v hv => h.all v (p.mem_iff.mp hv), ?_⟩
  have q := p.map strOf
  rwa [h.strs] at q
set_option maxHeartbeats 4000000 in
/-- sorted of a set of texts -/
theorem told {a : Addr} {L : List Str} {Q : Value → Shared → Prop} (R : SetL P w s.heap a L) (calm : A.handled = none) (few : L.length ≤ sizeLine)
    (q : ∀ s' p (out : List Value) (c : Nat) (ts : List Str), (∀ b o, s.heap.get? b = some o → s'.heap.get? b = some o) → s'.gens = s.gens → s'.os = s.os → s.heap.objs.size ≤ p →
      s'.heap.get? p = some (seqObj "list" out.toArray c) → StrsAre out ts → ts.Pairwise ltS → ts.Perm L → Q (.ref p) s') :
    wpAny (model P w) A (call (.builtin "sorted") [.ref a]) Q E s := by
  obtain ⟨o, es, ep, t, ho, hx, hd, Z⟩ := R
  obtain ⟨us, hp, hu⟩ := Z.vals
  have in1 : A.in1.handled = none := calm
  refine Calls.call_function_entry kind_sorted plain_sorted entry_sorted (args_sorted1 _) ?_
  delta Builtin.«sorted»
  refine wpAny_bind (m := checkCount "sorted" 1 1 _) (wpAny_pure ?_)
  have small : es.size < scanBound := by rw [Z.size]; exact Z.few
  refine wpAny_bind (collect_set in1 ⟨o, ho, hx.1, hd⟩ Z.fit small Z.ris Z.led fun s1 vs keep z g1 o1 pm => ?_)
  obtain ⟨sv, pv⟩ := strs_perm hu (pm.trans hp)
  have len : vs.length = L.length := by have e := pv.length_eq; rwa [List.length_map] at e
  refine wpAny_bind (wpAny_newList ?_ (by rw [len]; exact few))
  have at1 : (s1.heap.push (seqObj "list" vs.toArray 0)).get? s1.heap.objs.size = some (seqObj "list" vs.toArray 0) := Heap.get?_push_size _ rfl
  refine wpAny_bind (wpAny_holding (wpAny_call_entry slot_list_sort ⟨_, at1, rfl⟩ entry_list_sort
    (SrtO.list_sort_ord swo_text at1 (by rw [len]; exact few) (fun h2 => texts_sortable sv h2) fun out h1 h2 => ⟨_, rfl, ?_⟩) (args_list_sort _)))
  obtain ⟨so, po⟩ := strs_perm sv h2.perm
  obtain ⟨c, hc⟩ := sortedHeap_at (vs := vs) (out := out.toArray) at1
  have pL := po.trans pv
  have inc : (out.map strOf).Pairwise ltS := by
    refine strict (pL.nodup_iff.mpr Z.nd) (List.pairwise_map.mpr (h1.imp fun {x y} e => ?_))
    exact of_decide_eq_false (p := ltS (strOf y) (strOf x)) e
  refine wpAny_pure ⟨_, rfl, q _ s1.heap.objs.size out c _ (fun b u e => ?_) g1 o1 z hc so inc pL⟩
  have e1 := keep b u e
  have lt := Heap.lt_size e1
  refine (sortedHeap_old (Nat.ne_of_lt lt) ?_).trans (Heap.get?_push_of_some _ e1)
  rw [size_push']; exact Nat.lt_succ_of_lt lt
end
theorem plus_mem {L : List Str} {k x : Str} : x ∈ plus L k ↔ x ∈ L ∨ x = k := by
  rcases Classical.em (k ∈ L) with h | h
  · rw [plus_in h]
    exact ⟨.inl, fun e => e.elim id fun z => z ▸ h⟩
  · rw [plus_out h, List.mem_append, List.mem_singleton]
theorem fold_mem : ∀ (xs : List Str) {L : List Str} {x : Str}, x ∈ xs.foldl plus L ↔ x ∈ L ∨ x ∈ xs
  | [], L, x => by simp
  | y :: xs, L, x => by
    rw [List.foldl_cons, fold_mem xs, plus_mem, List.mem_cons, or_assoc]
theorem plus_len (L : List Str) (k : Str) : (plus L k).length ≤ L.length + 1 := by
  rcases Classical.em (k ∈ L) with h | h
  · rw [plus_in h]; omega
  · rw [plus_out h, List.length_append]; simp
theorem fold_len : ∀ (xs : List Str) (L : List Str), (xs.foldl plus L).length ≤ L.length + xs.length
  | [], L => by simp
  | y :: xs, L => by
    have a := fold_len xs (plus L y)
    have b := plus_len L y
    rw [List.foldl_cons, List.length_cons]
    omega
end TxS
namespace L2
open PySem PySem.Spec PyProof.Rows TxS
/-- the set of texts at a -/
def TxO (P : Program) (w : World) (a : Addr) (L : List Str) : HO := .ext fun h => SetL P w h a L
section
variable {X : Cx}
theorem setL_at {P : Program} {w : World} {h h' : Heap} {a : Addr} {L : List Str} (R : SetL P w h a L) (e : ∀ o, h.get? a = some o → h'.get? a = some o) : SetL P w h' a L := by
  obtain ⟨o, es, ep, t, ho, r⟩ := R
  exact ⟨o, es, ep, t, e _ ho, r⟩
theorem txO_new {w : World} {P : Program} {H : Hp} {h : Heap} {a : Addr} {L : List Str} (R : SetL P w h a L) : ObjOk P w H h a (TxO P w a L) := by
  have ⟨o, _, _, _, ho, _⟩ := R
  exact ⟨R, ⟨o, ho⟩, fun h1 h2 p k => setL_at p k⟩
end
end L2

namespace L2
open PySem PySem.Spec PyProof.Rows TxS
section
variable {X : Cx}
theorem txO_get {pins : List (Addr × Obj)} {σ : St} {H : Hp} {s : Shared} {a : Addr} {L : List Str} (I : Inv X pins σ H s) (ha : H a = some (TxO X.prog X.w a L)) : SetL X.prog X.w s.heap a L := (I.hok a _ ha).1
/-- set(xs), xs a list or a tuple of texts -/
def rSetTx (K : PySem.W.Frag) (P : Program) (w : World) : List V → Hp → VK → Prop := fun vs H Q => ∃ (a : Addr) (xs : List Str), vs = [V.ref a] ∧ (SqL K H a (xs.map V.str) ∨ SqT K H a (xs.map V.str)) ∧ xs.length + 1 < scanBound ∧
  ∀ p, H p = none → Q (.ref p) (upd H p (TxO P w p (xs.foldl plus [])))
theorem cr_setTx (hc : X.calm = true) : CallR X (.type "set") (rSetTx X.K X.prog X.w) := by
  intro pins s σ H vs us Q I r h
  obtain ⟨a, xs, rfl, hs, few, q⟩ := h
  rw [Vals.ref1 r]
  have fin : ∀ (T : String) (_ : T = "list" ∨ T = "tuple") (its : List Value), Vals (xs.map V.str) its → Seq T s.heap a its.toArray → wpAny (model X.prog X.w) X.A (call (.type "set") [.ref a]) (EP X pins σ Q) X.xe s :=
    fun T hT its rv sq => by
      refine made hT (I.ok.hd hc) sq (by simpa using strsAre_of rv) few fun h' tk R keep => ?_
      exact ⟨.ref _, upd H s.heap.objs.size (TxO X.prog X.w s.heap.objs.size (xs.foldl plus [])), I.laid (t' := tk) keep (Nat.le_refl _) (txO_new R), rfl, q _ (I.hok.fresh (Nat.le_refl _))⟩
  rcases hs with hs | hs
  · obtain ⟨its, rv, hl, _⟩ := I.list hs
    obtain ⟨o, hol, hcl, n, hd⟩ := hl.isList
    exact fin "list" (.inl rfl) its rv ⟨o, n, hol, hcl, hd⟩
  · obtain ⟨its, rv, hl, _⟩ := I.tuple hs
    obtain ⟨o, hol, hcl, n, hd⟩ := hl
    exact fin "tuple" (.inr rfl) its rv ⟨o, n, hol, hcl, hd⟩
/-- sorted(found), found a set of texts -/
def rSortTx (P : Program) (w : World) : List V → Hp → VK → Prop := fun vs H Q => ∃ (a : Addr) (L : List Str), vs = [V.ref a] ∧ H a = some (TxO P w a L) ∧ L.length ≤ sizeLine ∧
  ∀ (ts : List Str) (p : Addr), ts.Pairwise ltS → ts.Perm L → H p = none → Q (.ref p) (upd H p (.lst (ts.map V.str)))
theorem vals_of_texts : ∀ {vs : List Value} {ts : List Str}, StrsAre vs ts → Vals (ts.map V.str) vs
  | _, _, .nil => .nil
  | _, _, .cons x t r => .cons ⟨t, rfl⟩ (vals_of_texts r)
theorem cr_sortTx (hc : X.calm = true) : CallR X (.builtin "sorted") (rSortTx X.prog X.w) := by
  intro pins s σ H vs us Q I r h
  obtain ⟨a, L, rfl, ha, few, q⟩ := h
  rw [Vals.ref1 r]
  refine told (txO_get I ha) (I.ok.hd hc) few fun s1 p out c ts keep g o hp at1 hts inc pm => ?_
  have free : H p = none := I.hok.fresh hp
  have len : (ts.map V.str).length ≤ sizeLine := by rw [List.length_map, pm.length_eq]; exact few
  have J : Inv X pins σ (upd H p (.lst (ts.map V.str))) s1 :=
    I.call' (ch := []) o (Un.laid keep hp free) (I.hok.laid keep hp ⟨len, out, c, vals_of_texts hts, at1⟩) (by rw [g]; exact I.bare) (fun _ z => nomatch z)
  exact ⟨.ref p, _, J, rfl, q ts p inc pm free⟩
end
end L2

namespace K1
open PySem PySem.Spec PyProof.Rows L2
/-! the steps of a reading -/
local macro_rules | `(tactic| walk_at "side") => `(tactic| first | rfl | decide | omega | assumption | exact flat_str _ | exact log_small (by omega) (by omega) | exact szl (by first | omega | assumption | (simp only [app_len, one_len]; omega)) | exact ⟨by decide, by decide, by decide⟩ | exact .inl ⟨Int.lt_of_lt_of_le (by decide : (-(2 ^ 64) : Int) < 0) (Int.fmod_nonneg_of_pos _ (by decide)), Int.lt_trans (Int.fmod_lt_of_pos _ (by decide)) (by decide)⟩ | exact .inr ⟨by decide, by decide⟩ | exact .inl ⟨by decide, by decide⟩ | (refine .inl ⟨?_, ?_⟩ <;> omega) | (refine .inr ⟨?_, ?_⟩ <;> omega))
local macro_rules | `(tactic| walk_at "at1") => `(tactic| first | assumption | exact upd_same | exact .inl (.inl upd_same) | exact .inl (.inl (by assumption)))
local macro_rules | `(tactic| walk_at "rd1") => `(tactic| first
  | refine ⟨_, rfl, ?_⟩
  | refine .inl ⟨_, rfl, ?_⟩
  | refine .inr ⟨_, rfl, ?_⟩
  | refine ⟨_, _, rfl, rfl, ?_⟩
  | refine ⟨_, _, rfl, ?_⟩
  | refine And.intro (by walk_at "side") ?_
  | refine ⟨_, _, _, _, rfl, rfl, .inl (.inl upd_same), rfl, ?_⟩
  | refine ⟨_, _, _, _, rfl, rfl, upd_same, rfl, ?_⟩
  | refine ⟨_, _, rfl, .inl (.inl (.inl upd_same)), ?_⟩
  | (refine' ⟨_, _, _, _, rfl, rfl, ?h, ?ca, ?k⟩; (case h => walk_at "at1"); (case ca => rfl))
  | (refine' ⟨_, _, rfl, .inl ?h, ?k⟩; (case h => walk_at "at1"))
  | refine ⟨_, _, _, rfl, ?_⟩
  | refine ⟨_, (by assumption : Sto _ _ _), ?_⟩
  | refine ⟨_, Sto.new (by assumption) (by assumption), ?_⟩
  | refine ⟨_, _, _, _, true, rfl, .ty _, .base (.str _), kit_ty (by decide +kernel), ?_⟩
  | refine ⟨_, _, _, _, false, rfl, .ty _, .base (.str _), kit_ty (by decide +kernel), ?_⟩
  | refine ⟨_, _, _, _, true, rfl, .ty _, .base (.int _), kit_ty (by decide +kernel), ?_⟩
  | refine ⟨_, _, _, _, false, rfl, .ty _, .base (.int _), kit_ty (by decide +kernel), ?_⟩
  | refine ⟨_, _, _, _, true, rfl, .ty _, .base (.lst (by assumption)), kit_ty (by decide +kernel), ?_⟩
  | refine ⟨_, _, _, _, false, rfl, .ty _, .base (.lst (by assumption)), kit_ty (by decide +kernel), ?_⟩
  | fail)
local macro_rules | `(tactic| walk_at "rd") => `(tactic| repeat walk_at "rd1")

section
variable {P : Program} {w : World} {K : PySem.W.Frag} {mg : Str → Option Value} {base : Heap}
/-! ### ascending -/
abbrev s_ascending : Stmt := topS 7
abbrev N_ascending : List Str := ["names"]
theorem sc_ascending : FnScope N_ascending ["names"] (defScope s_ascending) := ⟨rfl, rfl, rfl, by decide +kernel, rfl, by decide +kernel, by decide +kernel⟩
def sp_ascending (K : PySem.W.Frag) : Sp := fun vs H Q _ => ∃ (g : Addr) (gs : List Str), vs = [.ref g] ∧ (SqL K H g (gs.map V.str) ∨ SqT K H g (gs.map V.str)) ∧ gs.length ≤ 1000 ∧
  ∀ H' p (ts : List Str), Same H H' → H p = none → H' p = some (.lst (ts.map V.str)) → ts.Pairwise ltS → (∀ x, x ∈ ts ↔ x ∈ gs) → ts.length ≤ 1000 → Q (.ref p) H'
theorem ok_ascending {f_ascending : Addr} {fd_ascending : FuncData} (T : Tb mg) (D_ascending : Df K mg "ascending" s_ascending ["names"] f_ascending fd_ascending)  : FnOk P w K mg base CX0 1 f_ascending fd_ascending ["names"] (sp_ascending K) := by
  refine D_ascending.F.ok sc_ascending (fun vs H Q E h => ?_) (fun cdv A outer s H vs Q E hr h => ?_)
  · obtain ⟨g, gs, rfl, _⟩ := h
    rfl
  · obtain ⟨g, gs, rfl, hg, gl, q⟩ := h
    refine ⟨_, (pss_one (ps_ret (pe_callB (cr_sortTx rfl) (by rfl) T.m_sorted (by decide +kernel) (pa_cons (pe_callTy (cr_setTx rfl) (by rfl) T.m_set (by decide +kernel) (pa_cons (pv 0) pa_nil)) pa_nil)))), ?_⟩
    refine ⟨_, rfl, g, gs, rfl, hg, Nat.lt_of_le_of_lt (Nat.succ_le_succ gl) (by decide), fun d hd => ?_⟩
    have len := TxS.fold_len gs []
    have len' : (gs.foldl TxS.plus []).length ≤ gs.length := by simpa using len
    refine ⟨d, gs.foldl TxS.plus [], rfl, upd_same, Nat.le_trans (Nat.le_trans len' gl) (by decide), fun ts p inc pm free => ?_⟩
    refine q _ p ts ((same_upd hd).trans (same_upd free)) ?_ upd_same inc (fun x => ?_) ?_
    · exact (same_upd hd).free free
    · rw [pm.mem_iff, TxS.fold_mem]
      exact ⟨fun e => e.elim (fun z => nomatch z) id, .inr⟩
    · rw [pm.length_eq]; exact Nat.le_trans len' gl
end
end K1

namespace K1
open PySem PySem.Spec PyProof.Rows L2
/-! the steps of a reading -/
local macro_rules | `(tactic| walk_at "side") => `(tactic| first | rfl | decide | omega | assumption | exact flat_str _ | exact log_small (by omega) (by omega) | exact szl (by first | omega | assumption | (simp only [app_len, one_len]; omega)) | exact ⟨by decide, by decide, by decide⟩ | exact .inl ⟨Int.lt_of_lt_of_le (by decide : (-(2 ^ 64) : Int) < 0) (Int.fmod_nonneg_of_pos _ (by decide)), Int.lt_trans (Int.fmod_lt_of_pos _ (by decide)) (by decide)⟩ | exact .inr ⟨by decide, by decide⟩ | exact .inl ⟨by decide, by decide⟩ | (refine .inl ⟨?_, ?_⟩ <;> omega) | (refine .inr ⟨?_, ?_⟩ <;> omega))
local macro_rules | `(tactic| walk_at "at1") => `(tactic| first | assumption | exact upd_same | exact .inl (.inl upd_same) | exact .inl (.inl (by assumption)))
local macro_rules | `(tactic| walk_at "rd1") => `(tactic| first
  | refine ⟨_, rfl, ?_⟩
  | refine .inl ⟨_, rfl, ?_⟩
  | refine .inr ⟨_, rfl, ?_⟩
  | refine ⟨_, _, rfl, rfl, ?_⟩
  | refine ⟨_, _, rfl, ?_⟩
  | refine And.intro (by walk_at "side") ?_
  | refine ⟨_, _, _, _, rfl, rfl, .inl (.inl upd_same), rfl, ?_⟩
  | refine ⟨_, _, _, _, rfl, rfl, upd_same, rfl, ?_⟩
  | refine ⟨_, _, rfl, .inl (.inl (.inl upd_same)), ?_⟩
  | (refine' ⟨_, _, _, _, rfl, rfl, ?h, ?ca, ?k⟩; (case h => walk_at "at1"); (case ca => rfl))
  | (refine' ⟨_, _, rfl, .inl ?h, ?k⟩; (case h => walk_at "at1"))
  | refine ⟨_, _, _, rfl, ?_⟩
  | refine ⟨_, (by assumption : Sto _ _ _), ?_⟩
  | refine ⟨_, Sto.new (by assumption) (by assumption), ?_⟩
  | refine ⟨_, _, _, _, true, rfl, .ty _, .base (.str _), kit_ty (by decide +kernel), ?_⟩
  | refine ⟨_, _, _, _, false, rfl, .ty _, .base (.str _), kit_ty (by decide +kernel), ?_⟩
  | refine ⟨_, _, _, _, true, rfl, .ty _, .base (.int _), kit_ty (by decide +kernel), ?_⟩
  | refine ⟨_, _, _, _, false, rfl, .ty _, .base (.int _), kit_ty (by decide +kernel), ?_⟩
  | refine ⟨_, _, _, _, true, rfl, .ty _, .base (.lst (by assumption)), kit_ty (by decide +kernel), ?_⟩
  | refine ⟨_, _, _, _, false, rfl, .ty _, .base (.lst (by assumption)), kit_ty (by decide +kernel), ?_⟩
  | fail)
local macro_rules | `(tactic| walk_at "rd") => `(tactic| repeat walk_at "rd1")

section
variable {P : Program} {w : World} {K : PySem.W.Frag} {mg : Str → Option Value} {base : Heap}
/-! ### law -/
theorem Sto.off {a cc p : Addr} {H : Hp} {o : HO} (h : Sto a cc H) (n1 : p ≠ a) (n2 : p ≠ cc) : Sto a cc (upd H p o) := by
  obtain ⟨q, st, ct, hd, lf, h1, h2, h3, ns, h4⟩ := h
  exact ⟨q, st, ct, hd, lf, (upd_ne n1.symm).trans h1, h2, h3, ns, (upd_ne n2.symm).trans h4⟩
theorem cut_end (A : List V) (y : V) : cutV (A ++ [y]) none (some (((A ++ [y]).length : Int) - 1)) = A := by
  have e : ((A ++ [y]).length : Int) - 1 = (A.length : Int) := by rw [List.length_append]; simp
  rw [e, cutV_pre, List.take_left]
theorem scal_strs (zs : List Str) : ∀ x ∈ zs.map V.str, (∃ z, x = V.str z) ∨ ∃ i, x = V.int i := fun x m => by
  obtain ⟨z, _, e⟩ := List.mem_map.mp m
  exact .inl ⟨z, e.symm⟩
abbrev s_law : Stmt := topS 32
abbrev N_law : List Str := ["script", "store", "first", "second", "kept", "other", "told", "beside", "again", "due", "limits"]
theorem sc_law : FnScope N_law ["script"] (defScope s_law) := ⟨rfl, rfl, rfl, by decide +kernel, rfl, by decide +kernel, by decide +kernel⟩
def sp_law (K : PySem.W.Frag) : Sp := fun vs H Q _ => ∃ (s : Addr) (ns : List Int), vs = [.ref s] ∧ SqL K H s (ns.map V.int) ∧ ns.length ≤ 63 ∧ ∀ H', Q (.bl true) H'
set_option maxHeartbeats 4000000 in
theorem ok_law {f_law : Addr} {fd_law : FuncData} {f__law_copy : Addr} {fd__law_copy : FuncData} {f__law_fits : Addr} {fd__law_fits : FuncData} {f__law_same : Addr} {fd__law_same : FuncData} {f__law_spoil : Addr} {fd__law_spoil : FuncData} {f__law_store : Addr} {fd__law_store : FuncData} {f__law_text : Addr} {fd__law_text : FuncData} {f__law_texts : Addr} {fd__law_texts : FuncData} {f_ascending : Addr} {fd_ascending : FuncData} (T : Tb mg) (D_law : Df K mg "law" s_law ["script"] f_law fd_law) (D__law_copy : Df K mg "_law_copy" s__law_copy ["value"] f__law_copy fd__law_copy) (D__law_fits : Df K mg "_law_fits" s__law_fits ["told", "given"] f__law_fits fd__law_fits) (D__law_same : Df K mg "_law_same" s__law_same ["told", "due"] f__law_same fd__law_same) (D__law_spoil : Df K mg "_law_spoil" s__law_spoil ["values"] f__law_spoil fd__law_spoil) (D__law_store : Df K mg "_law_store" s__law_store ["script"] f__law_store fd__law_store) (D__law_text : Df K mg "_law_text" s__law_text ["store", "most"] f__law_text fd__law_text) (D__law_texts : Df K mg "_law_texts" s__law_texts ["store"] f__law_texts fd__law_texts) (D_ascending : Df K mg "ascending" s_ascending ["names"] f_ascending fd_ascending) (G__law_copy1 : FnOk P w K mg base CX0 2 f__law_copy fd__law_copy ["value"] (sp__law_copy1 K)) (G__law_fits : FnOk P w K mg base CX0 3 f__law_fits fd__law_fits ["told", "given"] (sp__law_fits K)) (G__law_same1 : FnOk P w K mg base CX0 2 f__law_same fd__law_same ["told", "due"] (sp__law_same1 K)) (G__law_spoil : FnOk P w K mg base CX0 4 f__law_spoil fd__law_spoil ["values"] (sp__law_spoil K)) (G__law_store : FnOk P w K mg base CX0 2 f__law_store fd__law_store ["script"] (sp__law_store K)) (G__law_text : FnOk P w K mg base CX0 6 f__law_text fd__law_text ["store", "most"] (sp__law_text K)) (G__law_texts : FnOk P w K mg base CX0 8 f__law_texts fd__law_texts ["store"] (sp__law_texts K)) (G_ascending : FnOk P w K mg base CX0 1 f_ascending fd_ascending ["names"] (sp_ascending K)) {t_MOST_CHOICES : Tok} (C_MOST_CHOICES : mg "MOST_CHOICES" = some (.int 400 t_MOST_CHOICES)) {t_MOST_DAMAGES : Tok} (C_MOST_DAMAGES : mg "MOST_DAMAGES" = some (.int 200 t_MOST_DAMAGES)) {t_MOST_HOUSES : Tok} (C_MOST_HOUSES : mg "MOST_HOUSES" = some (.int 12 t_MOST_HOUSES)) {t_MOST_LINES : Tok} (C_MOST_LINES : mg "MOST_LINES" = some (.int 30 t_MOST_LINES)) {t_MOST_LOT_HOUSES : Tok} (C_MOST_LOT_HOUSES : mg "MOST_LOT_HOUSES" = some (.int 9 t_MOST_LOT_HOUSES)) {t_MOST_TREES : Tok} (C_MOST_TREES : mg "MOST_TREES" = some (.int 4 t_MOST_TREES)) : FnOk P w K mg base CX0 9 f_law fd_law ["script"] (sp_law K) := by
  refine D_law.F.ok sc_law (fun vs H Q E h => ?_) (fun cdv A outer s H vs Q E hr h => ?_)
  · obtain ⟨s, ns, rfl, _⟩ := h
    rfl
  · obtain ⟨s, ns, rfl, hs, nl, q⟩ := h
    refine ⟨_, (pss_cons (ps_set (i := 1) sc_law.nd rfl (.inl rfl) (pe_call G__law_store (hr.mono (by decide)) (by rfl) D__law_store.g D__law_store.F.kp D__law_store.b .nil pass0 (pa_cons (pv 0) pa_nil)))
  (pss_cons (ps_set (i := 2) sc_law.nd rfl (.inl rfl) (pe_call G__law_texts (hr.mono (by decide)) (by rfl) D__law_texts.g D__law_texts.F.kp D__law_texts.b .nil pass0 (pa_cons (pv 1) pa_nil)))
  (pss_cons (ps_set (i := 3) sc_law.nd rfl (.inl rfl) (pe_call G__law_texts (hr.mono (by decide)) (by rfl) D__law_texts.g D__law_texts.F.kp D__law_texts.b .nil pass0 (pa_cons (pv 1) pa_nil)))
  (pss_cons (ps_set (i := 4) sc_law.nd rfl (.inl rfl) (pe_call G__law_copy1 (hr.mono (by decide)) (by rfl) D__law_copy.g D__law_copy.F.kp D__law_copy.b .nil pass0 (pa_cons (pv 2) pa_nil)))
  (pss_cons (ps_set (i := 5) sc_law.nd rfl (.inl rfl) (pe_call G__law_copy1 (hr.mono (by decide)) (by rfl) D__law_copy.g D__law_copy.F.kp D__law_copy.b .nil pass0 (pa_cons (pv 3) pa_nil)))
  (pss_cons (ps_set (i := 6) sc_law.nd rfl (.inl rfl) (pe_call G_ascending (hr.mono (by decide)) (by rfl) D_ascending.g D_ascending.F.kp D_ascending.b .nil pass0 (pa_cons (pv 2) pa_nil)))
  (pss_cons (ps_set (i := 7) sc_law.nd rfl (.inl rfl) (pe_call G_ascending (hr.mono (by decide)) (by rfl) D_ascending.g D_ascending.F.kp D_ascending.b .nil pass0 (pa_cons (pv 3) pa_nil)))
  (pss_cons (ps_set (i := 8) sc_law.nd rfl (.inl rfl) (pe_call G_ascending (hr.mono (by decide)) (by rfl) D_ascending.g D_ascending.F.kp D_ascending.b .nil pass0 (pa_cons (pe_callTy call_tuple_of (by rfl) T.m_tuple (by decide +kernel) (pa_cons (pv 2) pa_nil)) pa_nil)))
  (pss_cons (ps_if (PW.pt (pw_or (pt_not (pt_val (pe_call G__law_fits (hr.mono (by decide)) (by rfl) D__law_fits.g D__law_fits.F.kp D__law_fits.b .nil pass0 (pa_cons (pv 6) (pa_cons (pv 4) pa_nil))))) (pw_or (pt_not (pt_val (pe_call G__law_fits (hr.mono (by decide)) (by rfl) D__law_fits.g D__law_fits.F.kp D__law_fits.b .nil pass0 (pa_cons (pv 7) (pa_cons (pv 5) pa_nil))))) (pw_or1 (pt_not (pt_val (pe_call G__law_fits (hr.mono (by decide)) (by rfl) D__law_fits.g D__law_fits.F.kp D__law_fits.b .nil pass0 (pa_cons (pv 8) (pa_cons (pv 4) pa_nil)))))))))
   (pss_one (ps_ret pe_bl))
   pss_nil)
  (pss_cons (ps_if (PW.pt (pw_or (pt_not (pt_val (pe_call G__law_spoil (hr.mono (by decide)) (by rfl) D__law_spoil.g D__law_spoil.F.kp D__law_spoil.b .nil pass0 (pa_cons (pe_lst (pa_cons (pv 6) (pa_cons (pv 7) (pa_cons (pv 2) (pa_cons (pv 3) pa_nil))))) pa_nil)))) (pw_or1 (pt_not (pt_val (pe_call G__law_fits (hr.mono (by decide)) (by rfl) D__law_fits.g D__law_fits.F.kp D__law_fits.b .nil pass0 (pa_cons (pv 8) (pa_cons (pv 4) pa_nil))))))))
   (pss_one (ps_ret pe_bl))
   pss_nil)
  (pss_cons (ps_if (PW.pt (pw_or (pt_not (pt_val (pe_call G__law_same1 (hr.mono (by decide)) (by rfl) D__law_same.g D__law_same.F.kp D__law_same.b .nil pass0 (pa_cons (pe_slice sl_list (pv 2) po_none (po_some (pe_op op_sub (pe_callB call_len_seq (by rfl) T.m_len (by decide +kernel) (pa_cons (pv 2) pa_nil)) pe_int))) (pa_cons (pv 4) pa_nil))))) (pw_or1 (pt_not (pt_val (pe_call G__law_same1 (hr.mono (by decide)) (by rfl) D__law_same.g D__law_same.F.kp D__law_same.b .nil pass0 (pa_cons (pe_slice sl_list (pv 3) po_none (po_some (pe_op op_sub (pe_callB call_len_seq (by rfl) T.m_len (by decide +kernel) (pa_cons (pv 3) pa_nil)) pe_int))) (pa_cons (pv 5) pa_nil))))))))
   (pss_one (ps_ret pe_bl))
   pss_nil)
  (pss_cons (ps_expr (pe_bm0 PySem.F.plainAttrs_list PySem.F.slot_list_pop PySem.F.type_list_pop mt_pop (pv 2)))
  (Evl.pss_cut (ps_if (pt_cmpR op_eq (pe_callB call_len_seq (by rfl) T.m_len (by decide +kernel) (pa_cons (pv 2) pa_nil)) pe_int (nomark _))
   (pss_one (ps_expr (pe_bm PySem.F.plainAttrs_list PySem.F.slot_list_pop PySem.F.type_list_pop mt_popAt (pv 2) (pa_cons pe_int pa_nil))))
   pss_nil)
  (pss_cons (ps_expr (pe_bm PySem.F.plainAttrs_list PySem.F.slot_list_append PySem.F.type_list_append mt_append (pv 2) (pa_cons (pe_call G__law_text (hr.mono (by decide)) (by rfl) D__law_text.g D__law_text.F.kp D__law_text.b .nil pass0 (pa_cons (pv 1) (pa_cons pe_int pa_nil))) pa_nil)))
  (pss_cons (ps_set (i := 9) sc_law.nd rfl (.inl rfl) (pe_call G__law_copy1 (hr.mono (by decide)) (by rfl) D__law_copy.g D__law_copy.F.kp D__law_copy.b .nil pass0 (pa_cons (pv 2) pa_nil)))
  (pss_cons (ps_if (PW.pt (pw_or (pt_not (pt_val (pe_call G__law_fits (hr.mono (by decide)) (by rfl) D__law_fits.g D__law_fits.F.kp D__law_fits.b .nil pass0 (pa_cons (pe_call G_ascending (hr.mono (by decide)) (by rfl) D_ascending.g D_ascending.F.kp D_ascending.b .nil pass0 (pa_cons (pv 2) pa_nil)) (pa_cons (pv 9) pa_nil))))) (pw_or1 (pt_not (pt_val (pe_call G__law_fits (hr.mono (by decide)) (by rfl) D__law_fits.g D__law_fits.F.kp D__law_fits.b .nil pass0 (pa_cons (pe_call G_ascending (hr.mono (by decide)) (by rfl) D_ascending.g D_ascending.F.kp D_ascending.b .nil pass0 (pa_cons (pv 5) pa_nil)) (pa_cons (pv 5) pa_nil))))))))
   (pss_one (ps_ret pe_bl))
   pss_nil)
  (pss_cons (ps_set (i := 10) sc_law.nd rfl (.inl rfl) (pe_lst (pa_cons (pe_glob (v := .int 12) rfl C_MOST_HOUSES ⟨_, rfl⟩) (pa_cons (pe_glob (v := .int 30) rfl C_MOST_LINES ⟨_, rfl⟩) (pa_cons (pe_glob (v := .int 4) rfl C_MOST_TREES ⟨_, rfl⟩) (pa_cons (pe_glob (v := .int 9) rfl C_MOST_LOT_HOUSES ⟨_, rfl⟩) (pa_cons (pe_glob (v := .int 400) rfl C_MOST_CHOICES ⟨_, rfl⟩) (pa_cons (pe_glob (v := .int 200) rfl C_MOST_DAMAGES ⟨_, rfl⟩) pa_nil))))))))
  (pss_one (ps_ret (pe_and (pe_call G__law_fits (hr.mono (by decide)) (by rfl) D__law_fits.g D__law_fits.F.kp D__law_fits.b .nil pass0 (pa_cons (pe_call G_ascending (hr.mono (by decide)) (by rfl) D_ascending.g D_ascending.F.kp D_ascending.b .nil pass0 (pa_cons (pv 4) pa_nil)) (pa_cons (pv 4) pa_nil))) (pe_one (pe_call G__law_same1 (hr.mono (by decide)) (by rfl) D__law_same.g D__law_same.F.kp D__law_same.b .nil pass0 (pa_cons (pv 10) (pa_cons (pe_lst (pa_cons pe_int (pa_cons pe_int (pa_cons pe_int (pa_cons pe_int (pa_cons pe_int (pa_cons pe_int pa_nil))))))) pa_nil)))))))))))))))))))))))), ?_⟩
    refine ⟨.ref s, rfl, s, ns, rfl, hs, nl, fun a cc H1 sm1 fa fc st => ?_⟩
    refine ⟨.ref a, rfl, a, rfl, cc, st, fun H2 p1 fs b2 s2 n2 e1 l1 => ?_⟩
    have a1 := st.ne n2
    have c1 := st.nc n2
    refine ⟨.ref a, rfl, a, rfl, cc, s2, fun H3 p2 gs b3 s3 n3 e2 l2 => ?_⟩
    have a2 := s2.ne n3
    have c2 := s2.nc n3
    have d12 : p1 ≠ p2 := ne_of_none e1 n3
    replace e1 := b3 _ _ a1 e1
    refine ⟨.ref p1, rfl, p1, fs, rfl, e1, by omega, fun H4 k1 sm4 n4 e3 => ?_⟩
    have a3 := s3.ne n4
    have d13 : p1 ≠ k1 := ne_of_none e1 n4
    have d23 : p2 ≠ k1 := ne_of_none e2 n4
    replace s3 := s3.keep (Bt.ofSame sm4) (sm4 _)
    replace e1 := sm4 _ _ e1
    replace e2 := sm4 _ _ e2
    refine ⟨.ref p2, rfl, p2, gs, rfl, e2, by omega, fun H5 k2 sm5 n5 e4 => ?_⟩
    have a4 := s3.ne n5
    have d14 : p1 ≠ k2 := ne_of_none e1 n5
    have d24 : p2 ≠ k2 := ne_of_none e2 n5
    replace s3 := s3.keep (Bt.ofSame sm5) (sm5 _)
    replace e1 := sm5 _ _ e1
    replace e2 := sm5 _ _ e2
    replace e3 := sm5 _ _ e3
    refine ⟨.ref p1, rfl, p1, fs, rfl, .inl (.inl (.inl e1)), by omega, fun H6 t1 ts1 sm6 n6 e5 w1 m1 z1 => ?_⟩
    have d15 : p1 ≠ t1 := ne_of_none e1 n6
    have d25 : p2 ≠ t1 := ne_of_none e2 n6
    have d35 : k1 ≠ t1 := ne_of_none e3 n6
    have d45 : k2 ≠ t1 := ne_of_none e4 n6
    have a5 := s3.ne n6
    have c5 := s3.nc n6
    replace s3 := s3.keep (Bt.ofSame sm6) (sm6 _)
    replace e1 := sm6 _ _ e1
    replace e2 := sm6 _ _ e2
    replace e3 := sm6 _ _ e3
    replace e4 := sm6 _ _ e4
    refine ⟨.ref p2, rfl, p2, gs, rfl, .inl (.inl (.inl e2)), by omega, fun H7 t2 ts2 sm7 n7 e6 w2 m2 z2 => ?_⟩
    have d16 : p1 ≠ t2 := ne_of_none e1 n7
    have d26 : p2 ≠ t2 := ne_of_none e2 n7
    have d36 : k1 ≠ t2 := ne_of_none e3 n7
    have d46 : k2 ≠ t2 := ne_of_none e4 n7
    have d56 : t1 ≠ t2 := ne_of_none e5 n7
    have a6 := s3.ne n7
    have c6 := s3.nc n7
    replace s3 := s3.keep (Bt.ofSame sm7) (sm7 _)
    replace e1 := sm7 _ _ e1
    replace e2 := sm7 _ _ e2
    replace e3 := sm7 _ _ e3
    replace e4 := sm7 _ _ e4
    replace e5 := sm7 _ _ e5
    refine ⟨_, rfl, p1, fs.map V.str, rfl, .inl ⟨.inl (.inl e1), fun u hu => ?_⟩⟩
    refine ⟨u, fs, rfl, .inr (.inl (.inl upd_same)), by omega, fun H8 t3 ts3 sm8 n8 e7 w3 m3 z3 => ?_⟩
    have sm8' : Same H7 H8 := (same_upd hu).trans sm8
    have n8' : H7 t3 = none := (same_upd hu).free n8
    have d17 : p1 ≠ t3 := ne_of_none e1 n8'
    have d27 : p2 ≠ t3 := ne_of_none e2 n8'
    have d37 : k1 ≠ t3 := ne_of_none e3 n8'
    have d47 : k2 ≠ t3 := ne_of_none e4 n8'
    have d57 : t1 ≠ t3 := ne_of_none e5 n8'
    have d67 : t2 ≠ t3 := ne_of_none e6 n8'
    replace s3 := s3.keep (Bt.ofSame sm8') (sm8' _)
    replace e1 := sm8' _ _ e1
    replace e2 := sm8' _ _ e2
    replace e3 := sm8' _ _ e3
    replace e4 := sm8' _ _ e4
    replace e5 := sm8' _ _ e5
    replace e6 := sm8' _ _ e6
    refine ⟨.ref t1, rfl, .ref k1, rfl, t1, k1, ts1, fs, rfl, e5, e3, z1, by omega, w1, m1, fun H9 sm9 => ?_⟩
    refine ⟨true, rfl, iteF ?_⟩
    replace s3 := s3.keep (Bt.ofSame sm9) (sm9 _)
    replace e1 := sm9 _ _ e1
    replace e2 := sm9 _ _ e2
    replace e3 := sm9 _ _ e3
    replace e4 := sm9 _ _ e4
    replace e5 := sm9 _ _ e5
    replace e6 := sm9 _ _ e6
    replace e7 := sm9 _ _ e7
    refine ⟨.ref t2, rfl, .ref k2, rfl, t2, k2, ts2, gs, rfl, e6, e4, z2, by omega, w2, m2, fun H10 sm10 => ?_⟩
    refine ⟨true, rfl, iteF ?_⟩
    replace s3 := s3.keep (Bt.ofSame sm10) (sm10 _)
    replace e1 := sm10 _ _ e1
    replace e2 := sm10 _ _ e2
    replace e3 := sm10 _ _ e3
    replace e4 := sm10 _ _ e4
    replace e5 := sm10 _ _ e5
    replace e6 := sm10 _ _ e6
    replace e7 := sm10 _ _ e7
    refine ⟨.ref t3, rfl, .ref k1, rfl, t3, k1, ts3, fs, rfl, e7, e3, z3, by omega, w3, m3, fun H11 sm11 => ?_⟩
    refine ⟨true, rfl, iteF ?_⟩
    replace s3 := s3.keep (Bt.ofSame sm11) (sm11 _)
    replace e1 := sm11 _ _ e1
    replace e2 := sm11 _ _ e2
    replace e3 := sm11 _ _ e3
    replace e4 := sm11 _ _ e4
    replace e5 := sm11 _ _ e5
    replace e6 := sm11 _ _ e6
    replace e7 := sm11 _ _ e7
    refine ⟨.ref t1, rfl, .ref t2, rfl, .ref p1, rfl, .ref p2, rfl, by show 4 ≤ sizeLine; decide, fun v hv => ?_⟩
    obtain ⟨cs, q1, q2, q3, q4⟩ : ∃ cs : Addr → List Str, cs t1 = ts1 ∧ cs t2 = ts2 ∧ cs p1 = fs ∧ cs p2 = gs :=
      ⟨fun x => if x = t1 then ts1 else if x = t2 then ts2 else if x = p1 then fs else gs, if_pos rfl, (if_neg d56.symm).trans (if_pos rfl),
        (if_neg d15).trans ((if_neg d16).trans (if_pos rfl)), (if_neg d25).trans ((if_neg d26).trans (if_neg d12.symm))⟩
    have off : ∀ b, b ≠ t1 → b ≠ t2 → b ≠ p1 → b ≠ p2 → b ∉ [t1, t2, p1, p2] := fun b x1 x2 x3 x4 m => by
      simp only [List.mem_cons, List.not_mem_nil, or_false] at m
      rcases m with m | m | m | m
      · exact x1 m
      · exact x2 m
      · exact x3 m
      · exact x4 m
    have nd : [t1, t2, p1, p2].Nodup := by
      refine List.nodup_cons.mpr ⟨?_, List.nodup_cons.mpr ⟨?_, List.nodup_cons.mpr ⟨?_, List.nodup_cons.mpr ⟨?_, List.nodup_nil⟩⟩⟩⟩
      · intro m
        simp only [List.mem_cons, List.not_mem_nil, or_false] at m
        rcases m with m | m | m
        · exact d56 m
        · exact d15 m.symm
        · exact d25 m.symm
      · intro m
        simp only [List.mem_cons, List.not_mem_nil, or_false] at m
        rcases m with m | m
        · exact d16 m.symm
        · exact d26 m.symm
      · intro m
        exact d12 (List.mem_singleton.mp m)
      · exact fun m => nomatch m
    refine ⟨v, [t1, t2, p1, p2], cs, rfl, upd_same, nd, off v (ne_of_none e5 hv).symm (ne_of_none e6 hv).symm (ne_of_none e1 hv).symm (ne_of_none e2 hv).symm, by show 4 ≤ 20; decide, ?_, fun H13 old new => ?_⟩
    · intro t m
      simp only [List.mem_cons, List.not_mem_nil, or_false] at m
      rcases m with m | m | m | m
      · rw [m, q1]; exact ⟨same_upd hv _ _ e5, z1⟩
      · rw [m, q2]; exact ⟨same_upd hv _ _ e6, z2⟩
      · rw [m, q3]; exact ⟨same_upd hv _ _ e1, by omega⟩
      · rw [m, q4]; exact ⟨same_upd hv _ _ e2, by omega⟩
    obtain ⟨y1, f1⟩ := new p1 (by simp)
    obtain ⟨y2, f2⟩ := new p2 (by simp)
    rw [q3] at f1
    rw [q4] at f2
    replace e3 := old _ _ (off k1 d35 d36 d13.symm d23.symm) (same_upd hv _ _ e3)
    replace e4 := old _ _ (off k2 d45 d46 d14.symm d24.symm) (same_upd hv _ _ e4)
    replace e7 := old _ _ (off t3 d57.symm d67.symm d17.symm d27.symm) (same_upd hv _ _ e7)
    replace s3 : Sto a cc H13 := by
      obtain ⟨p, st, ct, hd, lf, h1, h2, h3, ns, h4⟩ := s3
      exact ⟨p, st, ct, hd, lf, old _ _ (off a a5.symm a6.symm a1.symm a2.symm) (same_upd hv _ _ h1), h2, h3, ns, old _ _ (off cc c5.symm c6.symm c1.symm c2.symm) (same_upd hv _ _ h4)⟩
    clear off nd old new q1 q2 q3 q4 e5 e6 e1 e2
    refine ⟨true, rfl, iteF ?_⟩
    refine ⟨.ref t3, rfl, .ref k1, rfl, t3, k1, ts3, fs, rfl, e7, e3, z3, by omega, w3, m3, fun H14 sm14 => ?_⟩
    refine ⟨true, rfl, iteF ?_⟩
    replace s3 := s3.keep (Bt.ofSame sm14) (sm14 _)
    replace e3 := sm14 _ _ e3
    replace e4 := sm14 _ _ e4
    replace e7 := sm14 _ _ e7
    replace f1 := sm14 _ _ f1
    replace f2 := sm14 _ _ f2
    walk_at "rd"
    refine ⟨p1, _, rfl, .inl (.inl f1), fun c hc => ?_⟩
    have sm15 : Same H14 (upd H14 c (.lst (cutV (fs.map V.str ++ [y1]) none (some (((fs.map V.str ++ [y1]).length : Int) - 1))))) := same_upd hc
    refine ⟨.ref k1, rfl, c, k1, fs.map V.str, rfl, upd_same.trans (by rw [cut_end]), sm15 _ _ e3, by rw [List.length_map]; omega, scal_strs fs, fun H15 sm15' => ?_⟩
    replace sm15 := sm15.trans sm15'
    clear sm15'
    replace s3 := s3.keep (Bt.ofSame sm15) (sm15 _)
    replace e3 := sm15 _ _ e3
    replace e4 := sm15 _ _ e4
    replace f1 := sm15 _ _ f1
    replace f2 := sm15 _ _ f2
    refine ⟨true, rfl, iteF ?_⟩
    walk_at "rd"
    refine ⟨p2, _, rfl, .inl (.inl f2), fun c' hc' => ?_⟩
    have sm16 : Same H15 (upd H15 c' (.lst (cutV (gs.map V.str ++ [y2]) none (some (((gs.map V.str ++ [y2]).length : Int) - 1))))) := same_upd hc'
    refine ⟨.ref k2, rfl, c', k2, gs.map V.str, rfl, upd_same.trans (by rw [cut_end]), sm16 _ _ e4, by rw [List.length_map]; omega, scal_strs gs, fun H16 sm16' => ?_⟩
    replace sm16 := sm16.trans sm16'
    clear sm16'
    replace s3 := s3.keep (Bt.ofSame sm16) (sm16 _)
    replace e3 := sm16 _ _ e3
    replace e4 := sm16 _ _ e4
    replace f1 := sm16 _ _ f1
    refine ⟨true, rfl, iteF ?_⟩
    refine ⟨.ref p1, rfl, .inl ⟨rfl, _, .inl (.inl f1)⟩, p1, _, y1, rfl, rfl, f1, by simp, ?_⟩
    rw [List.dropLast_concat]
    have g1 : upd H16 p1 (.lst (fs.map V.str)) p1 = some (.lst (fs.map V.str)) := upd_same
    have g3 : upd H16 p1 (.lst (fs.map V.str)) k1 = some (.lst (fs.map V.str)) := (upd_ne d13.symm).trans e3
    have g4 : upd H16 p1 (.lst (fs.map V.str)) k2 = some (.lst (gs.map V.str)) := (upd_ne d14.symm).trans e4
    have s17 : Sto a cc (upd H16 p1 (.lst (fs.map V.str))) := s3.off a1 c1
    generalize upd H16 p1 (.lst (fs.map V.str)) = H17 at g1 g3 g4 s17 ⊢
    clear e3 e4 f1 f2 s3 e7 sm15 sm16 hc hc' sm14 hv
    refine ⟨fun σ H' => σ = [some (.ref s), some (.ref a), some (.ref p1), some (.ref p2), some (.ref k1), some (.ref k2), some (.ref t1), some (.ref t2), some (.ref t3), none, none] ∧
      Sto a cc H' ∧ H' k1 = some (.lst (fs.map V.str)) ∧ H' k2 = some (.lst (gs.map V.str)) ∧ ∃ us : List Str, H' p1 = some (.lst (us.map V.str)) ∧ us.length ≤ 400, ?_, ?_⟩
    · walk_at "rd"
      cases fs with
      | nil => exact iteF ⟨rfl, s17, g3, g4, [], g1, by decide⟩
      | cons z fs =>
        cases decide (V.int (((z :: fs).map V.str).length : Int) = V.int 400) with
        | false => exact iteF ⟨rfl, s17, g3, g4, z :: fs, g1, l1⟩
        | true =>
          refine iteT ?_
          refine ⟨.ref p1, rfl, .inl ⟨rfl, _, .inl (.inl g1)⟩, ?_⟩
          walk_at "rd"
          refine ⟨p1, _, 0, 0, .str z, rfl, rfl, g1, by decide, by decide, seqIndex_at (Int.le_refl 0) (by simp), rfl, ?_⟩
          exact ⟨rfl, s17.off a1 c1, (upd_ne d13.symm).trans g3, (upd_ne d14.symm).trans g4, fs, upd_same, by rw [List.length_cons] at l1; omega⟩
    · rintro σ H18 ⟨rfl, s18, r3, r4, us, r1, ul⟩
      refine ⟨.ref p1, rfl, .inl ⟨rfl, _, .inl (.inl r1)⟩, ?_⟩
      walk_at "rd"
      intro H19 z b19 s19 zl
      replace r1 := b19 _ _ a1 r1
      replace r3 := b19 _ _ a3 r3
      replace r4 := b19 _ _ a4 r4
      refine ⟨p1, _, .str z, rfl, rfl, r1, szt (by rw [List.length_map]; omega), ?_⟩
      have g1' : upd H19 p1 (.lst (us.map V.str ++ [.str z])) p1 = some (.lst ((us ++ [z]).map V.str)) := by rw [upd_same, List.map_append]; rfl
      replace r3 : upd H19 p1 (.lst (us.map V.str ++ [.str z])) k1 = _ := (upd_ne d13.symm).trans r3
      replace r4 : upd H19 p1 (.lst (us.map V.str ++ [.str z])) k2 = _ := (upd_ne d14.symm).trans r4
      have wl : (us ++ [z]).length ≤ 401 := by rw [List.length_append]; simp; omega
      generalize us ++ [z] = ws at g1' wl
      generalize upd H19 p1 (.lst (us.map V.str ++ [.str z])) = H20 at g1' r3 r4 ⊢
      clear r1 g1 g3 g4 s17 s18 s19 b19
      refine ⟨.ref p1, rfl, p1, ws, rfl, g1', by omega, fun H21 k9 sm21 n21 e9 => ?_⟩
      replace g1' := sm21 _ _ g1'
      replace r3 := sm21 _ _ r3
      replace r4 := sm21 _ _ r4
      refine ⟨.ref p1, rfl, p1, ws, rfl, .inl (.inl (.inl g1')), by omega, fun H22 t9 us9 sm22 n22 e10 w9 m9 z9 => ?_⟩
      replace e9 := sm22 _ _ e9
      replace r3 := sm22 _ _ r3
      replace r4 := sm22 _ _ r4
      refine ⟨.ref k9, rfl, t9, k9, us9, ws, rfl, e10, e9, z9, by omega, w9, m9, fun H23 sm23 => ?_⟩
      replace r3 := sm23 _ _ r3
      replace r4 := sm23 _ _ r4
      refine ⟨true, rfl, iteF ?_⟩
      refine ⟨.ref k2, rfl, k2, gs, rfl, .inl (.inl (.inl r4)), by omega, fun H24 t10 us10 sm24 n24 e11 w10 m10 z10 => ?_⟩
      replace r3 := sm24 _ _ r3
      replace r4 := sm24 _ _ r4
      refine ⟨.ref k2, rfl, t10, k2, us10, gs, rfl, e11, r4, z10, by omega, w10, m10, fun H25 sm25 => ?_⟩
      replace r3 := sm25 _ _ r3
      refine ⟨true, rfl, iteF ?_⟩
      refine ⟨by show 6 ≤ sizeLine; decide, fun l hl => ?_⟩
      have r5 : upd H25 l (.lst ([12, 30, 4, 9, 400, 200].map V.int)) l = some (.lst ([12, 30, 4, 9, 400, 200].map V.int)) := upd_same
      replace r3 := same_upd (o := .lst ([12, 30, 4, 9, 400, 200].map V.int)) hl _ _ r3
      refine ⟨.ref k1, rfl, k1, fs, rfl, .inl (.inl (.inl r3)), by omega, fun H26 t11 us11 sm26 n26 e12 w11 m11 z11 => ?_⟩
      replace r3 := sm26 _ _ r3
      replace r5 := sm26 _ _ r5
      refine ⟨.ref k1, rfl, t11, k1, us11, fs, rfl, e12, r3, z11, by omega, w11, m11, fun H27 sm27 => ?_⟩
      replace r5 := sm27 _ _ r5
      refine ⟨true, rfl, iteT ?_⟩
      refine ⟨.ref l, rfl, by show 6 ≤ sizeLine; decide, fun l' hl' => ?_⟩
      refine ⟨l, l', [12, 30, 4, 9, 400, 200].map V.int, rfl, same_upd hl' _ _ r5, upd_same, by decide, ?_, fun H28 _ => q H28⟩
      intro x m
      obtain ⟨i, _, e⟩ := List.mem_map.mp m
      exact .inr ⟨i, e.symm⟩
end
end K1

namespace K1
open PySem PySem.Spec PyProof.Rows L2
/-- what the top writes of a def -/
structure Wr (K : PySem.W.Frag) (x : Str) (st : Stmt) (f : Addr) (oc kV dc pm cd ct : Value) (od an : Option Addr) (sl : Array (Option Value)) : Prop where
  a : PySem.W.nsIn K mainGlobals x = some (some (.ref f))
  l : K.lookup f = some ⟨oc, od, .func (PySem.W.fnOf x x (defArgs st) (defBody st) (defScope st) .none kV dc pm an cd ct), sl⟩
  c : PySem.W.codeIn K cd x = true
  k : PySem.W.keepIn K (.ref f) = true
set_option maxHeartbeats 4000000 in
theorem all_mk {l : PySem.W.OpenLaw} {w : World} {K : PySem.W.Frag} {h : Heap} {mg : Str → Option Value} {fa : Addr} (X : K.In h) (G : h.Ns mainGlobals mg) (hfa : mg "law" = some (.ref fa))
    {f0 : Addr} {oc0 kV0 dc0 pm0 cd0 ct0 : Value} {od0 an0 : Option Addr} {sl0 : Array (Option Value)} (w0 : Wr K "_law_copy" s__law_copy f0 oc0 kV0 dc0 pm0 cd0 ct0 od0 an0 sl0)
    {f1 : Addr} {oc1 kV1 dc1 pm1 cd1 ct1 : Value} {od1 an1 : Option Addr} {sl1 : Array (Option Value)} (w1 : Wr K "_law_is_texts" s__law_is_texts f1 oc1 kV1 dc1 pm1 cd1 ct1 od1 an1 sl1)
    {f2 : Addr} {oc2 kV2 dc2 pm2 cd2 ct2 : Value} {od2 an2 : Option Addr} {sl2 : Array (Option Value)} (w2 : Wr K "_law_is_ascending" s__law_is_ascending f2 oc2 kV2 dc2 pm2 cd2 ct2 od2 an2 sl2)
    {f3 : Addr} {oc3 kV3 dc3 pm3 cd3 ct3 : Value} {od3 an3 : Option Addr} {sl3 : Array (Option Value)} (w3 : Wr K "_law_fits" s__law_fits f3 oc3 kV3 dc3 pm3 cd3 ct3 od3 an3 sl3)
    {f4 : Addr} {oc4 kV4 dc4 pm4 cd4 ct4 : Value} {od4 an4 : Option Addr} {sl4 : Array (Option Value)} (w4 : Wr K "_law_same" s__law_same f4 oc4 kV4 dc4 pm4 cd4 ct4 od4 an4 sl4)
    {f5 : Addr} {oc5 kV5 dc5 pm5 cd5 ct5 : Value} {od5 an5 : Option Addr} {sl5 : Array (Option Value)} (w5 : Wr K "_law_holders" s__law_holders f5 oc5 kV5 dc5 pm5 cd5 ct5 od5 an5 sl5)
    {f6 : Addr} {oc6 kV6 dc6 pm6 cd6 ct6 : Value} {od6 an6 : Option Addr} {sl6 : Array (Option Value)} (w6 : Wr K "_law_spoil" s__law_spoil f6 oc6 kV6 dc6 pm6 cd6 ct6 od6 an6 sl6)
    {f7 : Addr} {oc7 kV7 dc7 pm7 cd7 ct7 : Value} {od7 an7 : Option Addr} {sl7 : Array (Option Value)} (w7 : Wr K "_law_mixed" s__law_mixed f7 oc7 kV7 dc7 pm7 cd7 ct7 od7 an7 sl7)
    {f8 : Addr} {oc8 kV8 dc8 pm8 cd8 ct8 : Value} {od8 an8 : Option Addr} {sl8 : Array (Option Value)} (w8 : Wr K "_law_store" s__law_store f8 oc8 kV8 dc8 pm8 cd8 ct8 od8 an8 sl8)
    {f9 : Addr} {oc9 kV9 dc9 pm9 cd9 ct9 : Value} {od9 an9 : Option Addr} {sl9 : Array (Option Value)} (w9 : Wr K "_law_advance" s__law_advance f9 oc9 kV9 dc9 pm9 cd9 ct9 od9 an9 sl9)
    {f10 : Addr} {oc10 kV10 dc10 pm10 cd10 ct10 : Value} {od10 an10 : Option Addr} {sl10 : Array (Option Value)} (w10 : Wr K "_law_take" s__law_take f10 oc10 kV10 dc10 pm10 cd10 ct10 od10 an10 sl10)
    {f11 : Addr} {oc11 kV11 dc11 pm11 cd11 ct11 : Value} {od11 an11 : Option Addr} {sl11 : Array (Option Value)} (w11 : Wr K "_law_pick" s__law_pick f11 oc11 kV11 dc11 pm11 cd11 ct11 od11 an11 sl11)
    {f12 : Addr} {oc12 kV12 dc12 pm12 cd12 ct12 : Value} {od12 an12 : Option Addr} {sl12 : Array (Option Value)} (w12 : Wr K "_law_sign" s__law_sign f12 oc12 kV12 dc12 pm12 cd12 ct12 od12 an12 sl12)
    {f13 : Addr} {oc13 kV13 dc13 pm13 cd13 ct13 : Value} {od13 an13 : Option Addr} {sl13 : Array (Option Value)} (w13 : Wr K "_law_size" s__law_size f13 oc13 kV13 dc13 pm13 cd13 ct13 od13 an13 sl13)
    {f14 : Addr} {oc14 kV14 dc14 pm14 cd14 ct14 : Value} {od14 an14 : Option Addr} {sl14 : Array (Option Value)} (w14 : Wr K "_law_text" s__law_text f14 oc14 kV14 dc14 pm14 cd14 ct14 od14 an14 sl14)
    {f15 : Addr} {oc15 kV15 dc15 pm15 cd15 ct15 : Value} {od15 an15 : Option Addr} {sl15 : Array (Option Value)} (w15 : Wr K "_law_free_name" s__law_free_name f15 oc15 kV15 dc15 pm15 cd15 ct15 od15 an15 sl15)
    {f16 : Addr} {oc16 kV16 dc16 pm16 cd16 ct16 : Value} {od16 an16 : Option Addr} {sl16 : Array (Option Value)} (w16 : Wr K "_law_shuffled" s__law_shuffled f16 oc16 kV16 dc16 pm16 cd16 ct16 od16 an16 sl16)
    {f17 : Addr} {oc17 kV17 dc17 pm17 cd17 ct17 : Value} {od17 an17 : Option Addr} {sl17 : Array (Option Value)} (w17 : Wr K "_law_bad_word" s__law_bad_word f17 oc17 kV17 dc17 pm17 cd17 ct17 od17 an17 sl17)
    {f18 : Addr} {oc18 kV18 dc18 pm18 cd18 ct18 : Value} {od18 an18 : Option Addr} {sl18 : Array (Option Value)} (w18 : Wr K "_law_bad_name" s__law_bad_name f18 oc18 kV18 dc18 pm18 cd18 ct18 od18 an18 sl18)
    {f19 : Addr} {oc19 kV19 dc19 pm19 cd19 ct19 : Value} {od19 an19 : Option Addr} {sl19 : Array (Option Value)} (w19 : Wr K "_law_fresh" s__law_fresh f19 oc19 kV19 dc19 pm19 cd19 ct19 od19 an19 sl19)
    {f20 : Addr} {oc20 kV20 dc20 pm20 cd20 ct20 : Value} {od20 an20 : Option Addr} {sl20 : Array (Option Value)} (w20 : Wr K "_law_names" s__law_names f20 oc20 kV20 dc20 pm20 cd20 ct20 od20 an20 sl20)
    {f21 : Addr} {oc21 kV21 dc21 pm21 cd21 ct21 : Value} {od21 an21 : Option Addr} {sl21 : Array (Option Value)} (w21 : Wr K "_law_text_list" s__law_text_list f21 oc21 kV21 dc21 pm21 cd21 ct21 od21 an21 sl21)
    {f22 : Addr} {oc22 kV22 dc22 pm22 cd22 ct22 : Value} {od22 an22 : Option Addr} {sl22 : Array (Option Value)} (w22 : Wr K "_law_texts" s__law_texts f22 oc22 kV22 dc22 pm22 cd22 ct22 od22 an22 sl22)
    {f23 : Addr} {oc23 kV23 dc23 pm23 cd23 ct23 : Value} {od23 an23 : Option Addr} {sl23 : Array (Option Value)} (w23 : Wr K "ascending" s_ascending f23 oc23 kV23 dc23 pm23 cd23 ct23 od23 an23 sl23)
    {f24 : Addr} {oc24 kV24 dc24 pm24 cd24 ct24 : Value} {od24 an24 : Option Addr} {sl24 : Array (Option Value)} (w24 : Wr K "law" s_law f24 oc24 kV24 dc24 pm24 cd24 ct24 od24 an24 sl24)
    (z_int : PySem.W.nsIn K mainGlobals "int" = some none)
    (z_max : PySem.W.nsIn K mainGlobals "max" = some none)
    (z_min : PySem.W.nsIn K mainGlobals "min" = some none)
    (z_range : PySem.W.nsIn K mainGlobals "range" = some none)
    (z_reversed : PySem.W.nsIn K mainGlobals "reversed" = some none)
    (z_len : PySem.W.nsIn K mainGlobals "len" = some none)
    (z_list : PySem.W.nsIn K mainGlobals "list" = some none)
    (z_tuple : PySem.W.nsIn K mainGlobals "tuple" = some none)
    (z_str : PySem.W.nsIn K mainGlobals "str" = some none)
    (z_dict : PySem.W.nsIn K mainGlobals "dict" = some none)
    (z_bool : PySem.W.nsIn K mainGlobals "bool" = some none)
    (z_isinstance : PySem.W.nsIn K mainGlobals "isinstance" = some none)
    (z_all : PySem.W.nsIn K mainGlobals "all" = some none)
    (z_any : PySem.W.nsIn K mainGlobals "any" = some none)
    (z_sorted : PySem.W.nsIn K mainGlobals "sorted" = some none)
    (z_set : PySem.W.nsIn K mainGlobals "set" = some none)
    (z_repr : PySem.W.nsIn K mainGlobals "repr" = some none)
    {t_MOST_CHOICES : Tok} (c_MOST_CHOICES : PySem.W.nsIn K mainGlobals "MOST_CHOICES" = some (some (.int 400 t_MOST_CHOICES)))
    {t_MOST_DAMAGES : Tok} (c_MOST_DAMAGES : PySem.W.nsIn K mainGlobals "MOST_DAMAGES" = some (some (.int 200 t_MOST_DAMAGES)))
    {t_MOST_HOUSES : Tok} (c_MOST_HOUSES : PySem.W.nsIn K mainGlobals "MOST_HOUSES" = some (some (.int 12 t_MOST_HOUSES)))
    {t_MOST_LINES : Tok} (c_MOST_LINES : PySem.W.nsIn K mainGlobals "MOST_LINES" = some (some (.int 30 t_MOST_LINES)))
    {t_MOST_LOT_HOUSES : Tok} (c_MOST_LOT_HOUSES : PySem.W.nsIn K mainGlobals "MOST_LOT_HOUSES" = some (some (.int 9 t_MOST_LOT_HOUSES)))
    {t_MOST_TREES : Tok} (c_MOST_TREES : PySem.W.nsIn K mainGlobals "MOST_TREES" = some (some (.int 4 t_MOST_TREES)))
    : ∃ fd : FuncData, (∀ (s : Shared) (v : Value), BindsTo s fd ⟨[v], []⟩ [("script", v)]) ∧ ∀ base : Heap, K.In base → base.Ns mainGlobals mg → FnOk l.prog w K mg base CX0 9 fa fd ["script"] (sp_law K) := by
  have e := hfa.symm.trans (PySem.W.mg_of X G w24.a)
  cases e
  have T : Tb mg := { m_int := PySem.W.mg_none_of X G z_int, m_max := PySem.W.mg_none_of X G z_max, m_min := PySem.W.mg_none_of X G z_min, m_range := PySem.W.mg_none_of X G z_range, m_reversed := PySem.W.mg_none_of X G z_reversed, m_len := PySem.W.mg_none_of X G z_len, m_list := PySem.W.mg_none_of X G z_list, m_tuple := PySem.W.mg_none_of X G z_tuple, m_str := PySem.W.mg_none_of X G z_str, m_dict := PySem.W.mg_none_of X G z_dict, m_bool := PySem.W.mg_none_of X G z_bool, m_isinstance := PySem.W.mg_none_of X G z_isinstance, m_all := PySem.W.mg_none_of X G z_all, m_any := PySem.W.mg_none_of X G z_any, m_sorted := PySem.W.mg_none_of X G z_sorted, m_set := PySem.W.mg_none_of X G z_set, m_repr := PySem.W.mg_none_of X G z_repr }
  have F0 := fun_mk (st := s__law_copy) w0.l w0.c w0.k
  have D__law_copy : Df K mg "_law_copy" s__law_copy ["value"] _ _ := ⟨F0, F0.binds fun _ _ _ _ _ _ us hl => match us, hl with | [_], _ => rfl, PySem.W.mg_of X G w0.a⟩
  have F1 := fun_mk (st := s__law_is_texts) w1.l w1.c w1.k
  have D__law_is_texts : Df K mg "_law_is_texts" s__law_is_texts ["value"] _ _ := ⟨F1, F1.binds fun _ _ _ _ _ _ us hl => match us, hl with | [_], _ => rfl, PySem.W.mg_of X G w1.a⟩
  have F2 := fun_mk (st := s__law_is_ascending) w2.l w2.c w2.k
  have D__law_is_ascending : Df K mg "_law_is_ascending" s__law_is_ascending ["value"] _ _ := ⟨F2, F2.binds fun _ _ _ _ _ _ us hl => match us, hl with | [_], _ => rfl, PySem.W.mg_of X G w2.a⟩
  have F3 := fun_mk (st := s__law_fits) w3.l w3.c w3.k
  have D__law_fits : Df K mg "_law_fits" s__law_fits ["told", "given"] _ _ := ⟨F3, F3.binds fun _ _ _ _ _ _ us hl => match us, hl with | [_, _], _ => rfl, PySem.W.mg_of X G w3.a⟩
  have F4 := fun_mk (st := s__law_same) w4.l w4.c w4.k
  have D__law_same : Df K mg "_law_same" s__law_same ["told", "due"] _ _ := ⟨F4, F4.binds fun _ _ _ _ _ _ us hl => match us, hl with | [_, _], _ => rfl, PySem.W.mg_of X G w4.a⟩
  have F5 := fun_mk (st := s__law_holders) w5.l w5.c w5.k
  have D__law_holders : Df K mg "_law_holders" s__law_holders ["value"] _ _ := ⟨F5, F5.binds fun _ _ _ _ _ _ us hl => match us, hl with | [_], _ => rfl, PySem.W.mg_of X G w5.a⟩
  have F6 := fun_mk (st := s__law_spoil) w6.l w6.c w6.k
  have D__law_spoil : Df K mg "_law_spoil" s__law_spoil ["values"] _ _ := ⟨F6, F6.binds fun _ _ _ _ _ _ us hl => match us, hl with | [_], _ => rfl, PySem.W.mg_of X G w6.a⟩
  have F7 := fun_mk (st := s__law_mixed) w7.l w7.c w7.k
  have D__law_mixed : Df K mg "_law_mixed" s__law_mixed ["state", "turn", "many"] _ _ := ⟨F7, F7.binds fun _ _ _ _ _ _ us hl => match us, hl with | [_, _, _], _ => rfl, PySem.W.mg_of X G w7.a⟩
  have F8 := fun_mk (st := s__law_store) w8.l w8.c w8.k
  have D__law_store : Df K mg "_law_store" s__law_store ["script"] _ _ := ⟨F8, F8.binds fun _ _ _ _ _ _ us hl => match us, hl with | [_], _ => rfl, PySem.W.mg_of X G w8.a⟩
  have F9 := fun_mk (st := s__law_advance) w9.l w9.c w9.k
  have D__law_advance : Df K mg "_law_advance" s__law_advance ["store"] _ _ := ⟨F9, F9.binds fun _ _ _ _ _ _ us hl => match us, hl with | [_], _ => rfl, PySem.W.mg_of X G w9.a⟩
  have F10 := fun_mk (st := s__law_take) w10.l w10.c w10.k
  have D__law_take : Df K mg "_law_take" s__law_take ["store", "many"] _ _ := ⟨F10, F10.binds fun _ _ _ _ _ _ us hl => match us, hl with | [_, _], _ => rfl, PySem.W.mg_of X G w10.a⟩
  have F11 := fun_mk (st := s__law_pick) w11.l w11.c w11.k
  have D__law_pick : Df K mg "_law_pick" s__law_pick ["store", "items"] _ _ := ⟨F11, F11.binds fun _ _ _ _ _ _ us hl => match us, hl with | [_, _], _ => rfl, PySem.W.mg_of X G w11.a⟩
  have F12 := fun_mk (st := s__law_sign) w12.l w12.c w12.k
  have D__law_sign : Df K mg "_law_sign" s__law_sign ["store"] _ _ := ⟨F12, F12.binds fun _ _ _ _ _ _ us hl => match us, hl with | [_], _ => rfl, PySem.W.mg_of X G w12.a⟩
  have F13 := fun_mk (st := s__law_size) w13.l w13.c w13.k
  have D__law_size : Df K mg "_law_size" s__law_size ["store", "usual", "most"] _ _ := ⟨F13, F13.binds fun _ _ _ _ _ _ us hl => match us, hl with | [_, _, _], _ => rfl, PySem.W.mg_of X G w13.a⟩
  have F14 := fun_mk (st := s__law_text) w14.l w14.c w14.k
  have D__law_text : Df K mg "_law_text" s__law_text ["store", "most"] _ _ := ⟨F14, F14.binds fun _ _ _ _ _ _ us hl => match us, hl with | [_, _], _ => rfl, PySem.W.mg_of X G w14.a⟩
  have F15 := fun_mk (st := s__law_free_name) w15.l w15.c w15.k
  have D__law_free_name : Df K mg "_law_free_name" s__law_free_name ["store", "most"] _ _ := ⟨F15, F15.binds fun _ _ _ _ _ _ us hl => match us, hl with | [_, _], _ => rfl, PySem.W.mg_of X G w15.a⟩
  have F16 := fun_mk (st := s__law_shuffled) w16.l w16.c w16.k
  have D__law_shuffled : Df K mg "_law_shuffled" s__law_shuffled ["store", "items"] _ _ := ⟨F16, F16.binds fun _ _ _ _ _ _ us hl => match us, hl with | [_, _], _ => rfl, PySem.W.mg_of X G w16.a⟩
  have F17 := fun_mk (st := s__law_bad_word) w17.l w17.c w17.k
  have D__law_bad_word : Df K mg "_law_bad_word" s__law_bad_word ["store"] _ _ := ⟨F17, F17.binds fun _ _ _ _ _ _ us hl => match us, hl with | [_], _ => rfl, PySem.W.mg_of X G w17.a⟩
  have F18 := fun_mk (st := s__law_bad_name) w18.l w18.c w18.k
  have D__law_bad_name : Df K mg "_law_bad_name" s__law_bad_name ["store"] _ _ := ⟨F18, F18.binds fun _ _ _ _ _ _ us hl => match us, hl with | [_], _ => rfl, PySem.W.mg_of X G w18.a⟩
  have F19 := fun_mk (st := s__law_fresh) w19.l w19.c w19.k
  have D__law_fresh : Df K mg "_law_fresh" s__law_fresh ["name", "used"] _ _ := ⟨F19, F19.binds fun _ _ _ _ _ _ us hl => match us, hl with | [_, _], _ => rfl, PySem.W.mg_of X G w19.a⟩
  have F20 := fun_mk (st := s__law_names) w20.l w20.c w20.k
  have D__law_names : Df K mg "_law_names" s__law_names ["store", "many", "used", "most"] _ _ := ⟨F20, F20.binds fun _ _ _ _ _ _ us hl => match us, hl with | [_, _, _, _], _ => rfl, PySem.W.mg_of X G w20.a⟩
  have F21 := fun_mk (st := s__law_text_list) w21.l w21.c w21.k
  have D__law_text_list : Df K mg "_law_text_list" s__law_text_list ["store", "most"] _ _ := ⟨F21, F21.binds fun _ _ _ _ _ _ us hl => match us, hl with | [_, _], _ => rfl, PySem.W.mg_of X G w21.a⟩
  have F22 := fun_mk (st := s__law_texts) w22.l w22.c w22.k
  have D__law_texts : Df K mg "_law_texts" s__law_texts ["store"] _ _ := ⟨F22, F22.binds fun _ _ _ _ _ _ us hl => match us, hl with | [_], _ => rfl, PySem.W.mg_of X G w22.a⟩
  have F23 := fun_mk (st := s_ascending) w23.l w23.c w23.k
  have D_ascending : Df K mg "ascending" s_ascending ["names"] _ _ := ⟨F23, F23.binds fun _ _ _ _ _ _ us hl => match us, hl with | [_], _ => rfl, PySem.W.mg_of X G w23.a⟩
  have F24 := fun_mk (st := s_law) w24.l w24.c w24.k
  have D_law : Df K mg "law" s_law ["script"] _ _ := ⟨F24, F24.binds fun _ _ _ _ _ _ us hl => match us, hl with | [_], _ => rfl, PySem.W.mg_of X G w24.a⟩
  have C_MOST_CHOICES := PySem.W.mg_of X G c_MOST_CHOICES
  have C_MOST_DAMAGES := PySem.W.mg_of X G c_MOST_DAMAGES
  have C_MOST_HOUSES := PySem.W.mg_of X G c_MOST_HOUSES
  have C_MOST_LINES := PySem.W.mg_of X G c_MOST_LINES
  have C_MOST_LOT_HOUSES := PySem.W.mg_of X G c_MOST_LOT_HOUSES
  have C_MOST_TREES := PySem.W.mg_of X G c_MOST_TREES
  refine ⟨PySem.W.fnOf "law" "law" (defArgs s_law) (defBody s_law) (defScope s_law) .none kV24 dc24 pm24 an24 cd24 ct24, fun s v => .of_eq rfl, fun base _ _ => ?_⟩
  have G__law_copy0 := ok__law_copy0 (P := l.prog) (w := w) (base := base) T D__law_copy
  have G__law_copy1 := ok__law_copy1 (P := l.prog) (w := w) (base := base) T D__law_copy G__law_copy0
  have G__law_is_texts := ok__law_is_texts (P := l.prog) (w := w) (base := base) T D__law_is_texts
  have G__law_is_ascending := ok__law_is_ascending (P := l.prog) (w := w) (base := base) T D__law_is_ascending D__law_is_texts G__law_is_texts
  have G__law_fits := ok__law_fits (P := l.prog) (w := w) (base := base) T D__law_fits D__law_is_ascending G__law_is_ascending
  have G__law_same0 := ok__law_same0 (P := l.prog) (w := w) (base := base) T D__law_same
  have G__law_same1 := ok__law_same1 (P := l.prog) (w := w) (base := base) T D__law_same G__law_same0
  have G__law_holders0 := ok__law_holders0 (P := l.prog) (w := w) (base := base) T D__law_holders
  have G__law_holders1 := ok__law_holders1 (P := l.prog) (w := w) (base := base) T D__law_holders G__law_holders0
  have G__law_holders2 := ok__law_holders2 (P := l.prog) (w := w) (base := base) T D__law_holders G__law_holders1
  have G__law_spoil := ok__law_spoil (P := l.prog) (w := w) (base := base) T D__law_spoil D__law_holders G__law_holders2
  have G__law_mixed := ok__law_mixed (P := l.prog) (w := w) (base := base) T D__law_mixed
  have G__law_store := ok__law_store (P := l.prog) (w := w) (base := base) T D__law_store D__law_mixed G__law_mixed
  have G__law_advance := ok__law_advance (P := l.prog) (w := w) (base := base) T D__law_advance D__law_mixed G__law_mixed
  have G__law_take := ok__law_take (P := l.prog) (w := w) (base := base) T D__law_take D__law_advance D__law_mixed G__law_advance G__law_mixed
  have G__law_pickS := ok__law_pickS (P := l.prog) (w := w) (base := base) T D__law_pick D__law_take G__law_take
  have G__law_sign := ok__law_sign (P := l.prog) (w := w) (base := base) T D__law_sign D__law_pick G__law_pickS
  have G__law_size := ok__law_size (P := l.prog) (w := w) (base := base) T D__law_size D__law_take G__law_take
  have G__law_text := ok__law_text (P := l.prog) (w := w) (base := base) T D__law_text D__law_sign D__law_size G__law_sign G__law_size
  have G__law_free_name := ok__law_free_name (P := l.prog) (w := w) (base := base) T D__law_free_name D__law_take G__law_take
  have G__law_shuffled := ok__law_shuffled (P := l.prog) (w := w) (base := base) T D__law_shuffled D__law_take G__law_take
  have G__law_bad_word := ok__law_bad_word (P := l.prog) (w := w) (base := base) T D__law_bad_word D__law_free_name D__law_pick D__law_take G__law_free_name G__law_pickS G__law_take
  have G__law_bad_name := ok__law_bad_name (P := l.prog) (w := w) (base := base) T D__law_bad_name D__law_bad_word D__law_free_name D__law_pick D__law_size D__law_take G__law_bad_word G__law_free_name G__law_pickS G__law_size G__law_take
  have G__law_fresh := ok__law_fresh (P := l.prog) (w := w) (base := base) T D__law_fresh
  have G__law_names := ok__law_names (P := l.prog) (w := w) (base := base) T D__law_names D__law_free_name D__law_fresh D__law_pick D__law_take G__law_free_name G__law_fresh G__law_pickS G__law_take
  have G__law_pickL := ok__law_pickL (P := l.prog) (w := w) (base := base) T D__law_pick D__law_take G__law_take
  have G__law_text_list := ok__law_text_list (P := l.prog) (w := w) (base := base) T D__law_text_list D__law_bad_name D__law_names D__law_pick D__law_size D__law_text G__law_bad_name G__law_names G__law_pickL G__law_size G__law_text
  have G__law_texts := ok__law_texts (P := l.prog) (w := w) (base := base) T D__law_texts D__law_free_name D__law_shuffled D__law_size D__law_take D__law_text D__law_text_list G__law_free_name G__law_shuffled G__law_size G__law_take G__law_text G__law_text_list
  have G_ascending := ok_ascending (P := l.prog) (w := w) (base := base) T D_ascending
  exact ok_law (P := l.prog) (w := w) (base := base) T D_law D__law_copy D__law_fits D__law_same D__law_spoil D__law_store D__law_text D__law_texts D_ascending G__law_copy1 G__law_fits G__law_same1 G__law_spoil G__law_store G__law_text G__law_texts G_ascending C_MOST_CHOICES C_MOST_DAMAGES C_MOST_HOUSES C_MOST_LINES C_MOST_LOT_HOUSES C_MOST_TREES
end K1
open PySem PySem.W PyProof.Rows
set_option maxHeartbeats 0 in
theorem PySem.Challenge.cw_markshome_k01_texts_ascending_holds : PySem.Challenge.rw_markshome_k01_texts_ascending.Holds := by
  w_on; o_law; k_head; (case hw => w_witness2)
  k_fill
  refine L2.walk_of (l := PySem.Challenge.rw_markshome_k01_texts_ascending) (n := 63) (k := 9) (x := "script") (CX := fun _ => L2.CX0) (sp := fun w => K1.sp_law _) rfl (by decide) rfl ⟨rfl, by decide, by decide⟩ (fun w h Y => PySem.W.kIn_of Y) ?F (fun _ _ a ns hl _ hS => ⟨a, ns, rfl, hS, hl, fun _ => rfl⟩) (fun _ _ _ _ _ h => h)
  case F =>
    intro w mg fa h KX G hmg
    refine' K1.all_mk KX G hmg ⟨?a0, ?l0, ?c0, ?k0⟩ ⟨?a1, ?l1, ?c1, ?k1⟩ ⟨?a2, ?l2, ?c2, ?k2⟩ ⟨?a3, ?l3, ?c3, ?k3⟩ ⟨?a4, ?l4, ?c4, ?k4⟩ ⟨?a5, ?l5, ?c5, ?k5⟩ ⟨?a6, ?l6, ?c6, ?k6⟩ ⟨?a7, ?l7, ?c7, ?k7⟩ ⟨?a8, ?l8, ?c8, ?k8⟩ ⟨?a9, ?l9, ?c9, ?k9⟩ ⟨?a10, ?l10, ?c10, ?k10⟩ ⟨?a11, ?l11, ?c11, ?k11⟩ ⟨?a12, ?l12, ?c12, ?k12⟩ ⟨?a13, ?l13, ?c13, ?k13⟩ ⟨?a14, ?l14, ?c14, ?k14⟩ ⟨?a15, ?l15, ?c15, ?k15⟩ ⟨?a16, ?l16, ?c16, ?k16⟩ ⟨?a17, ?l17, ?c17, ?k17⟩ ⟨?a18, ?l18, ?c18, ?k18⟩ ⟨?a19, ?l19, ?c19, ?k19⟩ ⟨?a20, ?l20, ?c20, ?k20⟩ ⟨?a21, ?l21, ?c21, ?k21⟩ ⟨?a22, ?l22, ?c22, ?k22⟩ ⟨?a23, ?l23, ?c23, ?k23⟩ ⟨?a24, ?l24, ?c24, ?k24⟩ ?z_int ?z_max ?z_min ?z_range ?z_reversed ?z_len ?z_list ?z_tuple ?z_str ?z_dict ?z_bool ?z_isinstance ?z_all ?z_any ?z_sorted ?z_set ?z_repr ?c_MOST_CHOICES ?c_MOST_DAMAGES ?c_MOST_HOUSES ?c_MOST_LINES ?c_MOST_LOT_HOUSES ?c_MOST_TREES
    (case a0 => k_is); (case l0 => k_is); (case c0 => k_is); (case k0 => k_is)
    (case a1 => k_is); (case l1 => k_is); (case c1 => k_is); (case k1 => k_is)
    (case a2 => k_is); (case l2 => k_is); (case c2 => k_is); (case k2 => k_is)
    (case a3 => k_is); (case l3 => k_is); (case c3 => k_is); (case k3 => k_is)
    (case a4 => k_is); (case l4 => k_is); (case c4 => k_is); (case k4 => k_is)
    (case a5 => k_is); (case l5 => k_is); (case c5 => k_is); (case k5 => k_is)
    (case a6 => k_is); (case l6 => k_is); (case c6 => k_is); (case k6 => k_is)
    (case a7 => k_is); (case l7 => k_is); (case c7 => k_is); (case k7 => k_is)
    (case a8 => k_is); (case l8 => k_is); (case c8 => k_is); (case k8 => k_is)
    (case a9 => k_is); (case l9 => k_is); (case c9 => k_is); (case k9 => k_is)
    (case a10 => k_is); (case l10 => k_is); (case c10 => k_is); (case k10 => k_is)
    (case a11 => k_is); (case l11 => k_is); (case c11 => k_is); (case k11 => k_is)
    (case a12 => k_is); (case l12 => k_is); (case c12 => k_is); (case k12 => k_is)
    (case a13 => k_is); (case l13 => k_is); (case c13 => k_is); (case k13 => k_is)
    (case a14 => k_is); (case l14 => k_is); (case c14 => k_is); (case k14 => k_is)
    (case a15 => k_is); (case l15 => k_is); (case c15 => k_is); (case k15 => k_is)
    (case a16 => k_is); (case l16 => k_is); (case c16 => k_is); (case k16 => k_is)
    (case a17 => k_is); (case l17 => k_is); (case c17 => k_is); (case k17 => k_is)
    (case a18 => k_is); (case l18 => k_is); (case c18 => k_is); (case k18 => k_is)
    (case a19 => k_is); (case l19 => k_is); (case c19 => k_is); (case k19 => k_is)
    (case a20 => k_is); (case l20 => k_is); (case c20 => k_is); (case k20 => k_is)
    (case a21 => k_is); (case l21 => k_is); (case c21 => k_is); (case k21 => k_is)
    (case a22 => k_is); (case l22 => k_is); (case c22 => k_is); (case k22 => k_is)
    (case a23 => k_is); (case l23 => k_is); (case c23 => k_is); (case k23 => k_is)
    (case a24 => k_is); (case l24 => k_is); (case c24 => k_is); (case k24 => k_is)
    (case z_int => k_is)
    (case z_max => k_is)
    (case z_min => k_is)
    (case z_range => k_is)
    (case z_reversed => k_is)
    (case z_len => k_is)
    (case z_list => k_is)
    (case z_tuple => k_is)
    (case z_str => k_is)
    (case z_dict => k_is)
    (case z_bool => k_is)
    (case z_isinstance => k_is)
    (case z_all => k_is)
    (case z_any => k_is)
    (case z_sorted => k_is)
    (case z_set => k_is)
    (case z_repr => k_is)
    (case c_MOST_CHOICES => k_is)
    (case c_MOST_DAMAGES => k_is)
    (case c_MOST_HOUSES => k_is)
    (case c_MOST_LINES => k_is)
    (case c_MOST_LOT_HOUSES => k_is)
    (case c_MOST_TREES => k_is)

