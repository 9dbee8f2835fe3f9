import PyProof.Rows.All
import Wide.All
import OpenK.AllK
import Wide.FinOn
import HandS.ForExc
import HandS.Comp
import HandS.Dict
import HandS.Iter
import HandS.Text
import HandS.More
import HandS.Deep
import HandS.Wide
import HandS.Defaults
import HandS.Property
import HandS.ExcInit
import HandS.ExcField
import HandS.ExcIs
import HandS.IsInst
import HandS.TupAny
import HandS.Style
import HandS.Flow
import HandS.Evl
import PyProof.ReprRoads
import PyProof.ListStr
import HandS.HeadHook1
import HandS.Ends
import KE.KExcIs
import PyProof.InstNe
import HandS.Head0
import HandS.Head1
import HandS.Head2
import HandS.HeadEnd
import HandS.HeadHook2
import HandS.HeadHook3
import HandS.HeadHook4
import HandS.MakeKwOnly
import PyProof.StrOps2
import KE.KDictCopyH
import HandS.Nested
import PyProof.TupleOfStr
import HandS.Conv
import PyProof.CallFns
import KE.SortData
import HandS.Gcd
import HandS.SetKeys
import HandS.TryOnly
import HandS.HotCalls
import PyProof.ZipIter
import PyProof.CallType
import PyProof.Walk
import PyProof.WalkLemmas
import PyProof.RangeIter
import PyProof.RulesTry
import HandS.RepeatKit
import PyProof.ReprLen
import PySem.Challenge.RW_deedshares_k35_least_cures
import HandS.Head3
set_option Elab.async false
set_option linter.all false
set_option maxRecDepth 100000
set_option maxHeartbeats 0
section F0
/-! Own rules and wrappers over the hand layer. -/
namespace Ds
open PySem PySem.Spec PyProof.Rows L2
/-! ### powers of great ints -/
def CPowW (i j : Int) : Prop := 0 ≤ j ∧ (i.natAbs.log2 + 1 : Int) * j ≤ 134217728
theorem op_powW {X : Cx} : OpR X (binaryOp .Pow) (rI CPowW fun i j => .int (i ^ j.toNat)) := opI fun i j _ _ _ _ _ hc q => by
  refine pow_int hc.1 ?_ q
  have e : Builtin.Int.intBits i ≤ i.natAbs.log2 + 1 := by
    unfold Builtin.Int.intBits
    split <;> omega
  have e2 : ((Builtin.Int.intBits i : Nat) : Int) ≤ (i.natAbs.log2 + 1 : Int) := by omega
  have e3 := Int.mul_le_mul_of_nonneg_right e2 hc.1
  have h := hc.2
  have e4 : (2 : Int) ^ 27 = 134217728 := by decide
  omega
/-! ### a def to be called -/
def Cal (P : Program) (w : World) (K : PySem.W.Frag) (mg : Str → Option Value) (base : Heap) (CX : CXT) (k : Nat) (x : Str) (ps : List Str) (sp : Sp) : Prop :=
  ∃ f fd, FnOk P w K mg base CX k f fd ps sp ∧ mg x = some (.ref f) ∧ PySem.W.keepIn K (.ref f) = true ∧ Binds K fd ps []
section
variable {X : Cx} {CX : CXT} {k j : Nat} {x : Str} {ps : List Str} {sp : Sp} {p pos : Pos} {e : Expr} {es : List Expr} {t : TA}
theorem pe_cal (c : Cal X.prog X.w X.K X.mg X.base CX0 k x ps sp) (hr : Room j X.A) (hg : Gl X x) (ha : PA X (e :: es) t) (hj : k ≤ j := by decide) (hdb : (x == ("__debug__" : Str)) = false := by decide)
    (he : starEach (e :: es) X.env = (false, eval e X.env) :: starEach es X.env := by rfl) (hpl : (backTo pos (starEach es X.env)).any (·.1) = false := by rfl) :
    PE X (.Call (.Name x p) (e :: es) [] pos) (tCall sp [] E0 t) := by
  obtain ⟨f, fd, F, hm, kp, b⟩ := c
  exact pe_call F (hr.mono hj) hg hm kp b .nil pass0 ha hdb he hpl
end
/-! ### steps of a reading -/
section
variable {σ : L2.St} {H : Hp} {Q : VK} {D : Ends} {v x y : V} {i : Nat} {m n : Int} {t u : TS} {te tb : TE} {ta tr : TA} {c : TT} {g : TG} {r : R2} {QT : Bool → Hp → Prop} {QA : List V → Hp → Prop} {QS : L2.St → Hp → Prop}
theorem d_seq (h : t { D with nx := u D } σ H) : tSeq t u D σ H := h
theorem d_asg (h : te σ H fun x H1 => g x σ H1 D.nx) : tAsg te g D σ H := h
theorem d_gname (h : QS (σ.set i (some v)) H) : gName i v σ H QS := h
theorem d_if (h : c σ H fun b H1 => if b = true then t D σ H1 else u D σ H1) : tIfS c t u D σ H := h
theorem d_next (h : D.nx σ H) : tNext D σ H := h
theorem d_ret (h : te σ H D.rt) : tRet te D σ H := h
theorem d_test (h : te σ H fun x H1 => ∃ k, x = .bl k ∧ QT k H1) : tTest te σ H QT := h
theorem d_B (h : te σ H fun x H1 => ∃ k, x = .bl k ∧ QT k H1) : tB te σ H QT := h
theorem d_c (h : Q v H) : tC v σ H Q := h
theorem d_var (e : σ[i]? = some (some v)) (h : Q v H) : tVar i σ H Q := ⟨v, e, h⟩
theorem d_op (h : te σ H fun x H1 => tb σ H1 fun y H2 => r x y H2 Q) : tOp r te tb σ H Q := h
theorem d_rI0 {f : Int → Int → V} (h : Q (f m n) H) : rI0 f (.int m) (.int n) H Q := ⟨m, n, rfl, rfl, h⟩
theorem d_rI {C : Int → Int → Prop} {f : Int → Int → V} (hc : C m n) (h : Q (f m n) H) : rI C f (.int m) (.int n) H Q := ⟨m, n, rfl, rfl, hc, h⟩
theorem d_cons (h : te σ H fun x H1 => tr σ H1 fun xs H2 => QA (x :: xs) H2) : tCons te tr σ H QA := h
theorem d_nil (h : QA [] H) : tNil σ H QA := h
theorem d_cb {rc : List V → Hp → VK → Prop} (h : ta σ H fun vs H1 => rc vs H1 Q) : tCB rc ta σ H Q := h
theorem d_bl {b : Bool} {R : Bool → Prop} (h : R b) : ∃ k, V.bl b = .bl k ∧ R k := ⟨b, rfl, h⟩
theorem d_call {sp : Sp} {dvs : List V} {E : XK} (h : ta σ H fun vs H1 => sp (vs ++ dvs) H1 Q E) : tCall sp dvs E ta σ H Q := h
theorem d_not (h : c σ H fun b H1 => QT (!b) H1) : tNot c σ H QT := h
theorem d_ix1 {K : PySem.W.Frag} {p : Addr} {xs : List V} (hS : SqL K H p xs) (ha : atI xs m = some v) (h : Q v H) : rIxL K (.ref p) (.int m) H Q := ⟨p, xs, m, v, rfl, rfl, hS, ha, h⟩
theorem d_lst (h : ta σ H fun xs H1 => xs.length ≤ sizeLine ∧ ∀ p, H1 p = none → Q (.ref p) (upd H1 p (.lst xs))) : tLst ta σ H Q := h
theorem d_new {xs : List V} {R : Addr → Prop} (hl : xs.length ≤ 100000) (h : ∀ p, H p = none → R p) : xs.length ≤ sizeLine ∧ ∀ p, H p = none → R p := ⟨Nat.le_trans hl (by decide), h⟩
theorem d_cut {M : L2.St → Hp → Prop} (h : t { D with nx := M } σ H) (k : ∀ σ' H', M σ' H' → u D σ' H') : Evl.tCut t u D σ H := ⟨M, h, k⟩
theorem d_i1 {z : Int} {R : Int → Prop} (h : R z) : ∃ i, [V.int z] = [V.int i] ∧ R i := ⟨z, rfl, h⟩
theorem d_i2 {a b : Int} {R : Int → Int → Prop} (h : R a b) : ∃ i j, [V.int a, V.int b] = [V.int i, V.int j] ∧ R i j := ⟨a, b, rfl, h⟩
theorem d_o1 {z : Int} {R : Int → Prop} {O : Prop} (h : R z) : (∃ i, [V.int z] = [V.int i] ∧ R i) ∨ O := .inl ⟨z, rfl, h⟩
end
end Ds
end F0
section F1
namespace Ds
open PySem PySem.Spec PyProof.Rows L2
/-! ### list of a text -/
theorem call_listS {X : Cx} (hc : X.calm = true) : CallR X (.type "list") (fun xs H Q => ∃ z : Str, xs = [.str z] ∧ z.length ≤ sizeLine ∧ ∀ p, H p = none → Q (.ref p) (upd H p (.lst (z.cps.toList.map fun c => V.str ⟨#[c]⟩)))) := by
  intro pins s σ H xs us Q I r h
  obtain ⟨z, rfl, hz, q⟩ := h
  obtain ⟨u, rfl, t, rfl⟩ := vals1 r
  refine PySem.call_list_str (I.ok.hd hc) z t (hn := hz) fun h' tk acc c' hk e hi => ?_
  have len : (z.cps.toList.map fun c => V.str ⟨#[c]⟩).length = z.cps.size := by rw [List.length_map]; exact Array.length_toList
  refine ⟨.ref s.heap.objs.size, _, I.laid (t' := tk) (o := .lst (z.cps.toList.map fun c => V.str ⟨#[c]⟩)) hk (Nat.le_refl _) ⟨by rw [len]; exact hz, acc.toList, c', ?_, by rw [Array.toArray_toList]; exact e⟩, rfl, q _ (I.hok.fresh (Nat.le_refl _))⟩
  refine vals_of_idx _ _ (by rw [len, Array.length_toList]; exact hi.1) fun j u hj => ?_
  obtain ⟨c, t', hc, rfl⟩ := hi.2 j u (by rw [← Array.getElem?_toList]; exact hj)
  refine ⟨.str ⟨#[c]⟩, ?_, ⟨_, rfl⟩⟩
  rw [List.getElem?_map, Array.getElem?_toList, hc]
  rfl
/-! ### a heap beside what a def found: S may have changed, L is known -/
structure Mem (H0 : Hp) (S : List Addr) (L : List (Addr × HO)) (H : Hp) : Prop where
  fr : ∀ b o, H0 b = some o → b ∉ S → H b = some o
  here : ∀ x ∈ L, H x.1 = some x.2
  nd : (L.map (·.1)).Nodup
  ol : ∀ x ∈ L, x.1 ∈ S ∨ H0 x.1 = none
section
variable {H0 H H' : Hp} {S : List Addr} {L L' : List (Addr × HO)} {p q : Addr} {o o' : HO} {i : Nat}
theorem Mem.get (M : Mem H0 S L H) (i : Nat) {p : Addr} {o : HO} (h : L[i]? = some (p, o) := by rfl) : H p = some o := M.here (p, o) (List.mem_of_getElem? h)
theorem Mem.start (H : Hp) : Mem H [] [] H := ⟨fun _ _ e _ => e, fun x h => by simp at h, List.nodup_nil, fun x h => by simp at h⟩
theorem Mem.new (M : Mem H0 S L H) (h : H p = none) (hs : p ∉ S) : Mem H0 S (L ++ [(p, o)]) (upd H p o) := by
  refine ⟨fun b u e hb => ?_, fun x hx => ?_, ?_, fun x hx => ?_⟩
  · have q := M.fr b u e hb
    rw [upd_ne (ne_of_none q h)]
    exact q
  · rcases List.mem_append.mp hx with hx | hx
    · have q := M.here x hx
      rw [upd_ne (ne_of_none q h)]
      exact q
    · have e : x = (p, o) := by simpa using hx
      rw [e]
      exact upd_same
  · rw [List.map_append, List.nodup_append]
    refine ⟨M.nd, by simp, fun a ha b hb => ?_⟩
    have e : b = p := by simpa using hb
    subst e
    obtain ⟨x, hx, rfl⟩ := List.mem_map.mp ha
    exact ne_of_none (M.here x hx) h
  · rcases List.mem_append.mp hx with hx | hx
    · exact M.ol x hx
    · have e : x = (p, o) := by simpa using hx
      rw [e]
      refine .inr ?_
      cases e2 : H0 p with
      | none => rfl
      | some u =>
        have z := M.fr p u e2 hs
        rw [h] at z
        cases z
/-- the objects that are not known may be of S only if they stand in L -/
theorem Mem.fresh (M : Mem H0 S L H) (hS : ∀ s ∈ S, ∃ o, (s, o) ∈ L) (h : H p = none) : p ∉ S := fun hp => by
  obtain ⟨u, hu⟩ := hS p hp
  have z := M.here _ hu
  rw [show ((p, u) : Addr × HO).1 = p from rfl, h] at z
  cases z
theorem mem_set {α : Type} {l : List α} {i : Nat} {a x : α} (h : x ∈ l.set i a) : x = a ∨ ∃ j, j ≠ i ∧ l[j]? = some x := by
  obtain ⟨j, hj⟩ := List.mem_iff_getElem?.mp h
  rw [List.getElem?_set] at hj
  by_cases e : i = j
  · rw [if_pos e] at hj
    by_cases e2 : i < l.length
    · rw [if_pos e2] at hj
      exact .inl (Option.some.inj hj).symm
    · rw [if_neg e2] at hj
      cases hj
  · rw [if_neg e] at hj
    exact .inr ⟨j, fun z => e z.symm, hj⟩
theorem nodup_ne {l : List Addr} (nd : l.Nodup) {i j : Nat} {a b : Addr} (hi : l[i]? = some a) (hj : l[j]? = some b) (h : j ≠ i) : b ≠ a := fun e => by
  subst e
  obtain ⟨h1, e1⟩ := List.getElem?_eq_some_iff.mp hi
  obtain ⟨h2, e2⟩ := List.getElem?_eq_some_iff.mp hj
  exact h ((List.getElem_inj nd).mp (e2.trans e1.symm))
theorem Mem.call (M : Mem H0 S L H) (i : Nat) (h : L[i]? = some (p, o)) (k : ∀ b u, H b = some u → b ≠ p → H' b = some u) (e : H' p = some o') : Mem H0 S (L.set i (p, o')) H' := by
  have hp := M.ol (p, o) (List.mem_of_getElem? h)
  have hmap : (L.map (·.1))[i]? = some p := by rw [List.getElem?_map, h]; rfl
  refine ⟨fun b u eb hb => ?_, fun x hx => ?_, ?_, fun x hx => ?_⟩
  · refine k b u (M.fr b u eb hb) fun z => ?_
    subst z
    rcases hp with hp | hp
    · exact hb hp
    · have hp' : H0 b = none := hp
      rw [hp'] at eb
      cases eb
  · rcases mem_set hx with rfl | ⟨j, hj, hx⟩
    · exact e
    · exact k _ _ (M.here x (List.mem_of_getElem? hx)) (nodup_ne M.nd hmap (show (L.map (·.1))[j]? = some x.1 by rw [List.getElem?_map, hx]; rfl) hj)
  · have e : (L.set i (p, o')).map (·.1) = L.map (·.1) := by
      rw [List.map_set]
      refine List.ext_getElem? fun j => ?_
      rw [List.getElem?_set]
      by_cases z : i = j
      · subst z
        rw [if_pos rfl, hmap]
        obtain ⟨h1, _⟩ := List.getElem?_eq_some_iff.mp hmap
        rw [if_pos h1]
      · rw [if_neg z]
    rw [e]
    exact M.nd
  · rcases mem_set hx with rfl | ⟨j, _, hx⟩
    · exact hp
    · exact M.ol x (List.mem_of_getElem? hx)
theorem Mem.set (M : Mem H0 S L H) (i : Nat) (h : L[i]? = some (p, o)) : Mem H0 S (L.set i (p, o')) (upd H p o') :=
  M.call i h (fun b u e hb => by rw [upd_ne hb]; exact e) upd_same
theorem Mem.sub (M : Mem H0 S L H) (h : L'.Sublist L) : Mem H0 S L' H :=
  ⟨M.fr, fun x hx => M.here x (h.subset hx), M.nd.sublist (h.map _), fun x hx => M.ol x (h.subset hx)⟩
theorem Mem.ne (M : Mem H0 S L H) (i j : Nat) (hi : L[i]? = some (p, o)) (hj : L[j]? = some (q, o')) (h : j ≠ i) : q ≠ p :=
  nodup_ne M.nd (i := i) (j := j) (by rw [List.getElem?_map, hi]; rfl) (by rw [List.getElem?_map, hj]; rfl) h
/-- nothing that was known has changed -/
theorem Mem.same (M : Mem H0 [] L H) : Same H0 H := fun b o e => M.fr b o e (by simp)
end
/-! ### tuples stay -/
def TupS (H H' : Hp) : Prop := ∀ a xs, H a = some (.tup xs) → H' a = some (.tup xs)
theorem TupS.refl (H : Hp) : TupS H H := fun _ _ e => e
theorem TupS.trans {H H1 H2 : Hp} (a : TupS H H1) (b : TupS H1 H2) : TupS H H2 := fun x xs e => b x xs (a x xs e)
theorem TupS.lst {H : Hp} {p : Addr} {xs : List V} {o : HO} (h : H p = some (.lst xs)) : TupS H (upd H p o) := fun a ys e => by
  rw [upd_ne (ne_of e h (by intro z; cases z))]
  exact e
theorem TupS.new {H : Hp} {p : Addr} {o : HO} (h : H p = none) : TupS H (upd H p o) := fun a ys e => by
  rw [upd_ne (ne_of_none e h)]
  exact e
theorem TupS.same {H H' : Hp} (h : Same H H') : TupS H H' := fun a xs e => h a _ e
theorem TupS.mem {H H' : Hp} {p : Addr} {L : List (Addr × HO)} {xs : List V} (M : Mem H [p] L H') (h : H p = some (.lst xs)) : TupS H H' := fun a ys e =>
  M.fr a _ e (by
    intro z
    have e2 : a = p := by simpa using z
    rw [e2, h] at e
    cases e)
/-! ### lists of pairs of texts -/
abbrev Pr := Str × Str
def PrsAt (H : Hp) : List Addr → List Pr → Prop := Paired fun a p => H a = some (.tup [.str p.1, .str p.2])
theorem PrsAt.ts {H H' : Hp} (t : TupS H H') {as : List Addr} {ps : List Pr} (h : PrsAt H as ps) : PrsAt H' as ps := Paired.mapP h fun a p e => t a _ e
theorem PrsAt.get : ∀ {as : List Addr} {ps : List Pr} {H : Hp} {i : Nat} {a : Addr}, PrsAt H as ps → as[i]? = some a → ∃ p, ps[i]? = some p ∧ H a = some (.tup [.str p.1, .str p.2])
  | _, _, _, _, _, .nil, e => by simp at e
  | _, _, _, 0, _, .cons h _, e => by
    simp at e
    subst e
    exact ⟨_, rfl, h⟩
  | _, _, _, i + 1, _, .cons _ t, e => by
    obtain ⟨p, e1, e2⟩ := PrsAt.get t (i := i) (by simpa using e)
    exact ⟨p, by simpa using e1, e2⟩
theorem PrsAt.append : ∀ {as bs : List Addr} {ps qs : List Pr} {H : Hp}, PrsAt H as ps → PrsAt H bs qs → PrsAt H (as ++ bs) (ps ++ qs)
  | _, _, _, _, _, .nil, s => s
  | _, _, _, _, _, .cons h t, s => .cons h (PrsAt.append t s)
theorem PrsAt.take : ∀ {as : List Addr} {ps : List Pr} {H : Hp} (n : Nat), PrsAt H as ps → PrsAt H (as.take n) (ps.take n)
  | _, _, _, 0, _ => .nil
  | _, _, _, _ + 1, .nil => .nil
  | _, _, _, n + 1, .cons h t => .cons h (PrsAt.take n t)
theorem PrsAt.drop : ∀ {as : List Addr} {ps : List Pr} {H : Hp} (n : Nat), PrsAt H as ps → PrsAt H (as.drop n) (ps.drop n)
  | _, _, _, 0, h => h
  | _, _, _, _ + 1, .nil => .nil
  | _, _, _, n + 1, .cons _ t => PrsAt.drop n t
theorem PrsAt.length {as : List Addr} {ps : List Pr} {H : Hp} (h : PrsAt H as ps) : as.length = ps.length := Paired.length h
/-- as data -/
abbrev dStr (xs : List Str) : PyData := .list (xs.map .str)
abbrev dPr (p : Pr) : PyData := .tuple [.str p.1, .str p.2]
end Ds
end F1
section F2
namespace Ds
open PySem PySem.Spec PyProof.Rows L2
/-! ### t[::s] of a tuple of two, s 1 or -1 -/
section
variable {prog : Program} {w : World} {A : Around} {E : Value → Shared → Prop} {s : Shared}
theorem applied_step {sl : Addr} {vs : Value} {k : Int} {Q : Int × Int × Nat → Shared → Prop} (hs : s.heap.IsSliceOf sl .none .none vs) (ps : PySem.IsPart vs (some k)) (hk : k = 1 ∨ k = -1)
    (h : Q (if k = 1 then (0, 1, 2) else (1, -1, 2)) s) : wpAny (model prog w) A (Builtin.Slice.sliceApplied (.ref sl) (pure (2 : Int))) Q E s := by
  obtain ⟨ob, e1, e2, e3⟩ := id hs
  unfold Builtin.Slice.sliceApplied Builtin.Slice.sliceFields
  refine wpAny_bind (wpAny_bind (wpAny_field e1 e3 (x := .none) rfl ?_))
  refine wpAny_bind (wpAny_field e1 e3 (x := .none) rfl (wpAny_bind (wpAny_field e1 e3 (x := vs) rfl (wpAny_pure ?_))))
  dsimp only
  refine wpAny_bind (HT.slicePart_ ps ?_)
  rcases hk with rfl | rfl
  · show wpAny _ _ (if ((1 : Int) == 0) = true then _ else _) _ _ s
    rw [if_neg (by decide)]
    refine wpAny_bind (HT.slicePart_ .none (wpAny_bind (HT.slicePart_ .none (wpAny_bind (wpAny_pure ?_)))))
    exact wpAny_pure h
  · show wpAny _ _ (if ((-1 : Int) == 0) = true then _ else _) _ _ s
    rw [if_neg (by decide)]
    refine wpAny_bind (HT.slicePart_ .none (wpAny_bind (HT.slicePart_ .none (wpAny_bind (wpAny_pure ?_)))))
    exact wpAny_pure h
theorem item_step {t sl : Addr} {x y : Value} {vs : Value} {k : Int} {Q : Value → Shared → Prop} (ht : IsTup s.heap t #[x, y]) (hs : s.heap.IsSliceOf sl .none .none vs) (ps : PySem.IsPart vs (some k))
    (h : (k = 1 ∧ Q (.ref t) s) ∨ (k = -1 ∧ Q (.ref s.heap.objs.size) { s with heap := s.heap.push { cls := .type "tuple", data := .seq #[y, x] } })) : wpAny (model prog w) A (getItem (.ref t) (.ref sl)) Q E s := by
  obtain ⟨ob, e1, e2, e3⟩ := id hs
  have hTs : s.TypeIs (.ref sl) "slice" := ⟨ob, e1, e2⟩
  unfold getItem
  try with_reducible refine wpAny_holding ?_
  first | refine wpAny_bind (wpAny_pure ?_) | skip
  refine wpAny_bind (wpAny_sequenceKey ht.typeIs (by decide) ?_)
  refine wpAny_bind (wpAny_callSpecial?_slot (name := Str.ofString "__getitem__") ht.typeIs PyProof.Rows.slot_tuple_getitem
      (wpAny_call_entry PyProof.Rows.slot_tuple_getitem ht.typeIs entry_tuple_getitem ?_ (args_tuple_getitem _ _)) )
  show wpAny _ _ (Builtin.Tuple.tupleItemsOf (.ref t) >>= _)  _ _ s
  refine wpAny_bind (tupleItemsOf_ ht (wpAny_bind (wpAny_typeOf hTs ?_)))
  rw [if_pos (by decide)]
  refine wpAny_bind (applied_step hs ps (by rcases h with h | h <;> omega) ?_)
  rcases h with ⟨rfl, h⟩ | ⟨rfl, h⟩
  · have hex : s.TypeIs (.ref t) "tuple" := ht.typeIs
    show wpAny _ _ (Builtin.Tuple.tupleIsExact (.ref t) >>= _) _ _ s
    refine wpAny_bind ?_
    show wpAny _ _ (typeOf (.ref t) >>= fun T => pure (T == .type "tuple")) _ _ s
    refine wpAny_bind (wpAny_typeOf hex (wpAny_pure ?_))
    rw [if_pos (by decide)]
    exact wpAny_bind (wpAny_rule (wpAny_pure ⟨_, rfl, wpAny_pure h⟩))
  · show wpAny _ _ (Builtin.Tuple.tupleExact #[y, x] >>= _) _ _ s
    exact wpAny_bind (m := Builtin.Tuple.tupleExact _) (wpAny_newObj_type (wpAny_pure ⟨_, rfl, wpAny_pure h⟩) (by show 2 ≤ sizeLine; decide))
end
/-- t[::s] -/
def tStep2 (K : PySem.W.Frag) (te ts : TE) : TE := fun σ H Q => te σ H fun x H1 => ts σ H1 fun y H2 => ∃ i : Int, y = .int i ∧ ∃ (a : Addr) (u v : V), x = .ref a ∧ SqT K H2 a [u, v] ∧
  ((some i = some 1 ∧ Q (.ref a) H2) ∨ (some i = some (-1) ∧ ∀ p, H2 p = none → Q (.ref p) (upd H2 p (.tup [v, u]))))
theorem pe_sliceStep {X : Cx} {e st : Expr} {te ts : TE} {p3 pos : Pos} (he : PE X e te) (hs : PE X st ts) : PE X (.Subscript e (.Slice none none (some st) p3) pos) (tStep2 X.K te ts) := by
  refine ⟨fun pins s σ H Q I h => Subscript_ (thn (he.run pins s σ H _ I h) fun v s1 ⟨x, H1, I1, r1, q1⟩ => ?_)⟩
  refine wpAny_Slice (thn (po_none.run pins s1 σ H1 (fun o H2 => o = none ∧ H2 = H1) I1 ⟨rfl, rfl⟩) fun vl s2 ⟨l, H2, I2, pl, el, e2⟩ => ?_)
  subst el e2
  refine thn (po_none.run pins s2 σ H2 (fun o H3 => o = none ∧ H3 = H2) I2 ⟨rfl, rfl⟩) fun vu s3 ⟨u, H3, I3, pu, eu, e3⟩ => ?_
  subst eu e3
  have hst : PO X (some st) (tPart ts) := po_some hs
  refine thn (hst.run pins s3 σ H3 (fun o H4 => ∃ (a : Addr) (u v : V), x = .ref a ∧ SqT X.K H4 a [u, v] ∧ ((o = some 1 ∧ Q (.ref a) H4) ∨ (o = some (-1) ∧ ∀ p, H4 p = none → Q (.ref p) (upd H4 p (.tup [v, u]))))) I3 q1) fun vs s4 ⟨o, H4, I4, ps, a, y1, y2, ex, hx, q⟩ => ?_
  subst ex
  cases r1
  have I5 : Inv X pins σ H4 { s4 with heap := s4.heap.push { cls := .type "slice", data := .fields #[vl, vu, vs] } } := I4.kept (t' := s4.toks) fun b ob z => Heap.get?_push_of_some _ z
  obtain ⟨its, r, ht, hz⟩ := I5.tuple hx
  obtain ⟨w1, w2, rfl, rw1, rw2⟩ : ∃ w1 w2, its = [w1, w2] ∧ RelV y1 w1 ∧ RelV y2 w2 := by
    cases r with
    | cons p1 p2 => cases p2 with
      | cons p3 p4 =>
        cases p4
        exact ⟨_, _, rfl, p1, p3⟩
  cases pl
  cases pu
  show wpAny (model X.prog X.w) X.A (subscriptTail e (.Slice none none (some st) p3) (.ref a) (.ref s4.heap.objs.size)) (EP X pins σ Q) X.xe { s4 with heap := s4.heap.push { cls := .type "slice", data := .fields #[.none, .none, vs] } }
  refine tail_any (ops := [.ref a, .ref s4.heap.objs.size]) ht.typeIs (PyProof.Rows.slot_tuple_getitem.lookup) ?_ (by with_unfolding_all rfl)
  rcases q with ⟨ek, q⟩ | ⟨ek, q⟩
  · subst ek
    exact item_step ht (Heap.IsSliceOf.new _ .none .none vs) ps (.inl ⟨rfl, .ref a, H4, I5, rfl, q⟩)
  · subst ek
    refine item_step ht (Heap.IsSliceOf.new _ .none .none vs) ps (.inr ⟨rfl, .ref _, _, I5.laid (t' := s4.toks) (o := .tup [y2, y1]) (fun b ob z => Heap.get?_push_of_some _ z) (Nat.le_refl _) ?_, rfl, q _ (I5.hok.fresh (Nat.le_refl _))⟩)
    exact ⟨by show 2 ≤ sizeLine; decide, [w2, w1], .cons rw2 (.cons rw1 .nil), IsTup.new _ _⟩
/-! ### the rules with the written part said -/
section
variable {X : Cx} {K : PySem.W.Frag} {e o : Expr} {es : List Expr} {te to : TE} {t : TA} {pos p pos' apos cpos : Pos} {f : Str} {tg : Expr}
theorem pe_fldK (he : PE X e te) (hb : attributeBase e f X.env (eval e X.env) = eval e X.env := by rfl) (hK : X.K = K := by rfl) : PE X (.Attribute e f pos) (tFld K te f) := hK ▸ pe_fld he hb
theorem ps_fldK {value : Expr} {tv : TE} (ha : PE X o to) (hv : PE X value tv) (hK : X.K = K := by rfl) (hs : swapsWith value (some (.Attribute o f pos')) pos.line X.env = pure false := by rfl) : PS X (.Assign [.Attribute o f pos'] value pos) (sFld K to tv f) := hK ▸ ps_fld ha hv hs
theorem pg_tupK {k : Nat} {tt : TGs} {n : Nat} (h : PGs X es tt) (hc : X.calm = true := by rfl) (hK : X.K = K := by rfl) (hn : (assignEach es X.env).length = n := by rfl) (hst : (assignEach es X.env).findIdx? (·.1) = none := by rfl) :
    PG X (.Tuple es k pos) (gTup K n tt) := hK ▸ pg_tup hc h hn hst
theorem pi_listK (h : PE X e te) (hK : X.K = K := by rfl) : PI X tg e (iList K te) := hK ▸ pi_list h
theorem pi_enumK {elts : List Expr} {kk : Nat} {tpos : Pos} (hg : Gl X "enumerate") (hm : X.mg "enumerate" = none) (ha : PA X [e] t) (hK : X.K = K := by rfl) (hs : starEach [e] X.env = [(false, eval e X.env)] := by rfl) :
    PI X (.Tuple elts kk tpos) (.Call (.Name "enumerate" p) [e] [] pos) (iEnum K t) := hK ▸ pi_enum hg hm ha hs
theorem pe_sliceStepK {st : Expr} {ts : TE} {p3 : Pos} (he : PE X e te) (hs : PE X st ts) (hK : X.K = K := by rfl) : PE X (.Subscript e (.Slice none none (some st) p3) pos) (tStep2 K te ts) := hK ▸ pe_sliceStep he hs
theorem pe_bm0K {name : Str} {T id : String} {r : V → List V → Hp → VK → Prop} (pa : PlainAttrs T) (slot : Slot T name id) (hty : typeOf (.builtin id) = pure (.type "method_descriptor")) (hm : MtR X id r) (ho : PE X o to) (hK : X.K = K := by rfl)
    (hbase : attributeBase o name X.env (eval o X.env) = eval o X.env := by rfl) (hline : (apos.endLine == cpos.line) = true := by rfl) : PE X (.Call (.Attribute o name apos) [] [] cpos) (tBM0 K T r to) := hK ▸ pe_bm0 pa slot hty hm ho hbase hline
theorem pe_bmK {name : Str} {T id : String} {r : V → List V → Hp → VK → Prop} (pa : PlainAttrs T) (slot : Slot T name id) (hty : typeOf (.builtin id) = pure (.type "method_descriptor")) (hm : MtR X id r) (ho : PE X o to) (ha : PA X (e :: es) t) (hK : X.K = K := by rfl)
    (hbase : attributeBase o name X.env (eval o X.env) = eval o X.env := by rfl)
    (hfew : ((backTo cpos (starEach (e :: es) X.env)).all (fun x => !x.1) && (backToKw cpos (keywordEach [] X.env)).all (fun x => x.1.isSome) && decide ((e :: es).length + ([] : List Keyword).length + (if ([] : List Keyword).isEmpty then 0 else 1) < 30)) = true := by rfl)
    (hline : (apos.endLine == cpos.line) = true := by rfl) (hs : starEach (e :: es) X.env = (false, eval e X.env) :: starEach es X.env := by rfl) (hplain : (backTo cpos (starEach es X.env)).any (·.1) = false := by rfl) :
    PE X (.Call (.Attribute o name apos) (e :: es) [] cpos) (tBM K T r to t) := hK ▸ pe_bm pa slot hty hm ho ha hbase hfew hline hs hplain
theorem _root_.L2.Room.units5 {k : Nat} {A : Around} (r : Room k A) : A.units + 65 < cLine := by have := r.un; omega
end
end Ds
end F2
section F3
namespace Ds
open PySem PySem.Spec PyProof.Rows L2
/-! ### the letters -/
def letter (c : Nat) : Str := ⟨#[c]⟩
def abc : List Str := ("abcdefghijklmnopqrstuvwxyz" : Str).cps.toList.map letter
theorem abc_eq : abc = (List.range 26).map (fun i => letter (97 + i)) := by decide +kernel
theorem letter_inj {a b : Nat} (h : letter a = letter b) : a = b := by
  have e : (letter a).cps = (letter b).cps := congrArg Str.cps h
  have e2 : #[a] = #[b] := e
  simpa using e2
theorem abc_nodup : abc.Nodup := by
  rw [abc_eq, List.nodup_iff_pairwise_ne, List.pairwise_map]
  refine (List.nodup_range (n := 26)).imp ?_
  intro a b h e
  exact h (by have := letter_inj e; omega)
theorem abc_len : abc.length = 26 := by rw [abc_eq]; simp
def IsLet (x : Str) : Prop := ∃ c, 97 ≤ c ∧ c ≤ 122 ∧ x = letter c
theorem abc_let {x : Str} (h : x ∈ abc) : IsLet x := by
  rw [abc_eq, List.mem_map] at h
  obtain ⟨i, hi, rfl⟩ := h
  have := List.mem_range.mp hi
  exact ⟨97 + i, by omega, by omega, rfl⟩
/-! ### what a drawn chart is -/
structure ChartOk (W : Nat) (ns : List Str) (ls vs : List Pr) : Prop where
  lo : 1 ≤ ns.length
  hi : ns.length ≤ W
  lets : ∀ x ∈ ns, IsLet x
  nd : ns.Nodup
  ord : ∃ order : List Str, order.Perm ns ∧ ∀ p ∈ ls, ∃ i j : Nat, i < j ∧ order[i]? = some p.1 ∧ order[j]? = some p.2
  lnd : ls.Nodup
  vin : ∀ p ∈ vs, p.1 ∈ ns ∧ p.2 ∈ ns ∧ p.1 ≠ p.2
  vnd : vs.Pairwise fun p q => p ≠ q ∧ p ≠ (q.2, q.1)
  vlen : vs.length ≤ 5
/-! ### the pairs of an order -/
def tiesAt (order : List Str) (j : Nat) : List Pr := (List.range j).map fun e => (order.getD e Str.empty, order.getD j Str.empty)
def ties (order : List Str) : Nat → List Pr
  | 0 => []
  | n + 1 => ties order n ++ tiesAt order n
theorem mem_ties {order : List Str} {p : Pr} : ∀ {n : Nat}, p ∈ ties order n ↔ ∃ i j : Nat, i < j ∧ j < n ∧ p = (order.getD i Str.empty, order.getD j Str.empty)
  | 0 => by simp [ties]
  | n + 1 => by
    rw [ties, List.mem_append, mem_ties (n := n)]
    constructor
    · rintro (⟨i, j, h1, h2, e⟩ | h)
      · exact ⟨i, j, h1, by omega, e⟩
      · obtain ⟨i, hi, rfl⟩ := List.mem_map.mp h
        exact ⟨i, n, List.mem_range.mp hi, by omega, rfl⟩
    · rintro ⟨i, j, h1, h2, e⟩
      by_cases hj : j < n
      · exact .inl ⟨i, j, h1, hj, e⟩
      · have ej : j = n := by omega
        subst ej
        exact .inr (List.mem_map.mpr ⟨i, List.mem_range.mpr h1, e.symm⟩)
theorem ties_len (order : List Str) : ∀ n : Nat, (ties order n).length ≤ n * n
  | 0 => by simp [ties]
  | n + 1 => by
    have := ties_len order n
    rw [ties, List.length_append]
    have e : (tiesAt order n).length = n := by simp [tiesAt]
    rw [e]
    have e2 : (n + 1) * (n + 1) = n * n + 2 * n + 1 := by rw [Nat.add_mul, Nat.mul_add]; omega
    omega
theorem getD_some {order : List Str} {i : Nat} (h : i < order.length) : order[i]? = some (order.getD i Str.empty) := by
  rw [List.getD_eq_getElem?_getD, List.getElem?_eq_getElem h]; rfl
theorem getD_inj {order : List Str} (nd : order.Nodup) {i j : Nat} (hi : i < order.length) (hj : j < order.length) (e : order.getD i Str.empty = order.getD j Str.empty) : i = j := by
  have h1 := getD_some hi
  have h2 := getD_some hj
  rw [e] at h1
  obtain ⟨a1, e1⟩ := List.getElem?_eq_some_iff.mp h1
  obtain ⟨a2, e2⟩ := List.getElem?_eq_some_iff.mp h2
  exact (List.getElem_inj nd).mp (e1.trans e2.symm)
theorem ties_nodup {order : List Str} (nd : order.Nodup) : ∀ {n : Nat}, n ≤ order.length → (ties order n).Nodup
  | 0, _ => List.nodup_nil
  | n + 1, h => by
    rw [ties, List.nodup_append]
    refine ⟨ties_nodup nd (by omega), ?_, ?_⟩
    · unfold tiesAt
      rw [List.nodup_iff_pairwise_ne, List.pairwise_map]
      refine List.Pairwise.imp_of_mem ?_ (List.nodup_range (n := n))
      intro a b ha hb hab e
      have e1 : order.getD a Str.empty = order.getD b Str.empty := congrArg Prod.fst e
      exact hab (getD_inj nd (by have := List.mem_range.mp ha; omega) (by have := List.mem_range.mp hb; omega) e1)
    · intro a ha b hb e
      subst e
      obtain ⟨i, j, h1, h2, e1⟩ := mem_ties.mp ha
      obtain ⟨k, hk, e2⟩ := List.mem_map.mp hb
      rw [e1] at e2
      have e3 : order.getD n Str.empty = order.getD j Str.empty := congrArg Prod.snd e2
      have := getD_inj nd (by omega) (by omega) e3
      omega
theorem ties_swap {order : List Str} (nd : order.Nodup) {n : Nat} (h : n ≤ order.length) {p : Pr} (hp : p ∈ ties order n) : (p.2, p.1) ∉ ties order n := by
  intro hq
  obtain ⟨i, j, h1, h2, e1⟩ := mem_ties.mp hp
  obtain ⟨k, l, h3, h4, e2⟩ := mem_ties.mp hq
  subst e1
  have a1 : order.getD j Str.empty = order.getD k Str.empty := congrArg Prod.fst e2
  have a2 : order.getD i Str.empty = order.getD l Str.empty := congrArg Prod.snd e2
  have := getD_inj nd (by omega) (by omega) a1
  have := getD_inj nd (by omega) (by omega) a2
  omega
theorem ties_ne {order : List Str} (nd : order.Nodup) {n : Nat} (h : n ≤ order.length) {p : Pr} (hp : p ∈ ties order n) : p.1 ∈ order ∧ p.2 ∈ order ∧ p.1 ≠ p.2 := by
  obtain ⟨i, j, h1, h2, rfl⟩ := mem_ties.mp hp
  refine ⟨List.mem_of_getElem? (getD_some (by omega)), List.mem_of_getElem? (getD_some (by omega)), fun e => ?_⟩
  have := getD_inj nd (by omega) (by omega) e
  omega
theorem eraseIdx_mapS {α β : Type} (f : α → β) : ∀ (l : List α) (i : Nat), (l.map f).eraseIdx i = (l.eraseIdx i).map f
  | [], _ => rfl
  | _ :: _, 0 => rfl
  | x :: l, i + 1 => by
    rw [List.map_cons, List.eraseIdx_cons_succ, List.eraseIdx_cons_succ, List.map_cons, eraseIdx_mapS f l i]
theorem cons_erase {α : Type} : ∀ {l : List α} {i : Nat} {x : α}, l[i]? = some x → (x :: l.eraseIdx i).Perm l
  | [], _, _, h => by simp at h
  | y :: l, 0, x, h => by
    have e : y = x := by simpa using h
    subst e
    exact List.Perm.refl _
  | y :: l, i + 1, x, h => by
    rw [List.eraseIdx_cons_succ]
    exact (List.Perm.swap y x _).trans ((cons_erase (l := l) (i := i) (by simpa using h)).cons y)
theorem map_get {α β : Type} {f : α → β} {l : List α} {i : Nat} {y : β} (h : (l.map f)[i]? = some y) : ∃ z, l[i]? = some z ∧ y = f z := by
  rw [List.getElem?_map] at h
  cases q : l[i]? with
  | none => rw [q] at h; cases h
  | some z => rw [q] at h; exact ⟨z, rfl, (Option.some.inj h).symm⟩
/-! ### what lies in the lists behind k ties -/
structure Laid (T : List Pr) (k : Nat) (ls vs : List Pr) : Prop where
  lsub : ∀ p ∈ ls, p ∈ T.take k
  lnd : ls.Nodup
  vsub : ∀ p ∈ vs, p ∈ T.take k ∨ (p.2, p.1) ∈ T.take k
  vnd : vs.Pairwise fun p q => p ≠ q ∧ p ≠ (q.2, q.1)
  vlen : vs.length ≤ 5
def ins {α : Type} (xs : List α) (i : Nat) (y : α) : List α := xs.take i ++ [y] ++ xs.drop i
theorem ins_perm {α : Type} (xs : List α) (i : Nat) (y : α) : (ins xs i y).Perm (y :: xs) := by
  unfold ins
  rw [List.append_assoc]
  refine (List.perm_append_comm_assoc _ _ _).trans ?_
  rw [List.take_append_drop]
  exact List.Perm.refl _
theorem ins_len {α : Type} (xs : List α) (i : Nat) (y : α) : (ins xs i y).length = xs.length + 1 := (ins_perm xs i y).length_eq
theorem take_succ_of {α : Type} {T : List α} {k : Nat} {t : α} (h : T[k]? = some t) : T.take (k + 1) = T.take k ++ [t] := by
  rw [List.take_succ, h]; rfl
theorem not_take {T : List Pr} (nd : T.Nodup) {k : Nat} {t : Pr} (h : T[k]? = some t) : t ∉ T.take k := by
  intro hm
  obtain ⟨j, hj⟩ := List.mem_iff_getElem?.mp hm
  rw [List.getElem?_take] at hj
  by_cases hk : j < k
  · rw [if_pos hk] at hj
    obtain ⟨a1, e1⟩ := List.getElem?_eq_some_iff.mp hj
    obtain ⟨a2, e2⟩ := List.getElem?_eq_some_iff.mp h
    have := (List.getElem_inj nd).mp (e1.trans e2.symm)
    omega
  · rw [if_neg hk] at hj
    cases hj
theorem Laid.skip {T : List Pr} {k : Nat} {ls vs : List Pr} (L : Laid T k ls vs) : Laid T (k + 1) ls vs := by
  have m : ∀ {p : Pr}, p ∈ T.take k → p ∈ T.take (k + 1) := fun {p} h => by
    rw [List.take_succ]
    exact List.mem_append_left _ h
  exact ⟨fun p h => m (L.lsub p h), L.lnd, fun p h => (L.vsub p h).imp m m, L.vnd, L.vlen⟩
theorem Laid.line {T : List Pr} (nd : T.Nodup) {k : Nat} {t : Pr} (h : T[k]? = some t) {ls vs : List Pr} (L : Laid T k ls vs) (i : Nat) : (∀ p ∈ ins ls i t, p ∈ T.take (k + 1)) ∧ (ins ls i t).Nodup := by
  refine ⟨fun p hp => ?_, ?_⟩
  · rw [take_succ_of h]
    rcases List.mem_cons.mp ((ins_perm ls i t).mem_iff.mp hp) with rfl | hp
    · simp
    · exact List.mem_append_left _ (L.lsub p hp)
  · rw [(ins_perm ls i t).nodup_iff]
    exact List.nodup_cons.mpr ⟨fun hm => not_take nd h (L.lsub t hm), L.lnd⟩
theorem vsym {p q : Pr} (h : p ≠ q ∧ p ≠ (q.2, q.1)) : q ≠ p ∧ q ≠ (p.2, p.1) := by
  refine ⟨fun e => h.1 e.symm, fun e => h.2 ?_⟩
  rw [e]
theorem Laid.veil {T : List Pr} (nd : T.Nodup) (sw : ∀ p ∈ T, (p.2, p.1) ∉ T) {k : Nat} {t v : Pr} (h : T[k]? = some t) (hv : v = t ∨ v = (t.2, t.1)) {ls vs : List Pr} (L : Laid T k ls vs) (h5 : vs.length < 5) (i : Nat) :
    (∀ p ∈ ins vs i v, p ∈ T.take (k + 1) ∨ (p.2, p.1) ∈ T.take (k + 1)) ∧ (ins vs i v).Pairwise (fun p q => p ≠ q ∧ p ≠ (q.2, q.1)) ∧ (ins vs i v).length ≤ 5 := by
  have hT : t ∈ T := List.mem_of_getElem? h
  have nt : t ∉ T.take k := not_take nd h
  have ns : (t.2, t.1) ∉ T.take k := fun z => sw t hT (List.mem_of_mem_take z)
  refine ⟨fun p hp => ?_, ?_, by rw [ins_len]; omega⟩
  · rw [take_succ_of h]
    rcases List.mem_cons.mp ((ins_perm vs i v).mem_iff.mp hp) with rfl | hp
    · rcases hv with rfl | rfl
      · exact .inl (by simp)
      · exact .inr (by simp)
    · exact (L.vsub p hp).imp (fun z => List.mem_append_left _ z) fun z => List.mem_append_left _ z
  · rw [(ins_perm vs i v).pairwise_iff vsym]
    refine List.pairwise_cons.mpr ⟨fun q hq => ?_, L.vnd⟩
    have hq' := L.vsub q hq
    rcases hv with rfl | rfl
    · refine ⟨fun e => ?_, fun e => ?_⟩
      · subst e
        exact hq'.elim nt ns
      · rw [e] at nt ns
        exact hq'.elim (fun z => ns z) fun z => nt z
    · refine ⟨fun e => ?_, fun e => ?_⟩
      · rw [← e] at hq'
        exact hq'.elim ns nt
      · have e1 : t = q := by
          have a1 : t.2 = q.2 := congrArg Prod.fst e
          have a2 : t.1 = q.1 := congrArg Prod.snd e
          exact Prod.ext a2 a1
        rw [e1] at nt ns
        exact hq'.elim nt ns
theorem Laid.ok {ns order ls vs : _} {W : Nat} (h1 : 1 ≤ ns.length) (h2 : ns.length ≤ W) (hl : ∀ x ∈ ns, IsLet x) (nd : ns.Nodup) (pm : order.Perm ns) {k : Nat} (L : Laid (ties order order.length) k ls vs) : ChartOk W ns ls vs := by
  have nd' : order.Nodup := pm.nodup_iff.mpr nd
  refine ⟨h1, h2, hl, nd, ⟨order, pm, fun p hp => ?_⟩, L.lnd, fun p hp => ?_, L.vnd, L.vlen⟩
  · obtain ⟨i, j, a1, a2, rfl⟩ := mem_ties.mp (List.mem_of_mem_take (L.lsub p hp))
    exact ⟨i, j, a1, getD_some (by omega), getD_some a2⟩
  · rcases L.vsub p hp with z | z
    · obtain ⟨a, b, c⟩ := ties_ne nd' (Nat.le_refl _) (List.mem_of_mem_take z)
      exact ⟨pm.mem_iff.mp a, pm.mem_iff.mp b, c⟩
    · obtain ⟨a, b, c⟩ := ties_ne nd' (Nat.le_refl _) (List.mem_of_mem_take z)
      exact ⟨pm.mem_iff.mp b, pm.mem_iff.mp a, fun e => c e.symm⟩
end Ds
end F3
section F4
namespace Ds
open PySem PySem.Spec PyProof.Rows L2
section
variable {K : PySem.W.Frag} {σ : L2.St} {H : Hp} {Q : VK} {D : Ends} {v x y : V} {p a : Addr} {xs ys : List V} {d : Int} {QS : L2.St → Hp → Prop}
theorem d_lenS (hS : SqL K H p xs) (h : Q (.int xs.length) H) : Evl.rLenS K [V.ref p] H Q := ⟨p, xs, rfl, .inl hS, h⟩
theorem d_rng1 {ta : TA} {R : It → Hp → Prop} (h : ta σ H fun vs H1 => ∃ j : Int, vs = [.int j] ∧ -(2 ^ 62) ≤ j ∧ j < 2 ^ 62 ∧ R (Itr 0 j.toNat) H1) : iRng1 ta σ H R := h
theorem d_for {wi : TI} {g : TG} {tb : TS} (h : wi σ H fun J H1 => ∃ W : Nat → Nat → L2.St → Hp → Prop, (∃ m, W 0 m σ H1) ∧ ∀ i m σ H, W i m σ H → ((J.stop i H ∧ D.nx σ H) ∨
    (J.go i H ∧ ∃ N : L2.St → Hp → Prop, (∀ σ' H', N σ' H' → ∃ m', m' < m ∧ W (i + 1) m' σ' H') ∧ ∀ x H', J.yld i H x H' → g x σ H' fun σ2 H2 => tb { D with nx := N, ct := N, bk := D.nx } σ2 H2))) : tFor wi g tb D σ H := h
theorem ixN_nat {n : Nat} {d : Int} (h0 : 0 ≤ d) (h1 : d < n) : ixN n d = some d.toNat := by
  unfold ixN
  rw [if_pos h0, if_pos h1]
theorem inV_strs {x : Str} {xs : List Str} : inV (.str x) (xs.map V.str) = decide (x ∈ xs) := by
  induction xs with
  | nil => rfl
  | cons y ys ih =>
    rw [List.map_cons]
    show (eqV (V.str y) (V.str x) || inV (.str x) (ys.map V.str)) = _
    rw [ih]
    by_cases e : x = y
    · subst e
      simp [eqV]
    · have e2 : y ≠ x := fun z => e z.symm
      simp [eqV, e, e2]
theorem flat_strs (xs : List Str) : (xs.map V.str).all flatV = true := by
  induction xs with
  | nil => rfl
  | cons y ys ih => rw [List.map_cons, List.all_cons, ih]; rfl
end
end Ds
end F4
section F5
namespace Ds
open PySem PySem.Spec PyProof.Rows L2
/-- a text of code points -/
abbrev SOk (x : Str) : Prop := PyData.strOk x = true
theorem depth_strs : ∀ xs : List Str, PyData.depthAll (xs.map PyData.str) ≤ 1
  | [] => by simp [PyData.depthAll]
  | x :: xs => by
    have := depth_strs xs
    rw [List.map_cons]
    simp only [PyData.depthAll, PyData.depth]
    omega
theorem depth_prs : ∀ xs : List Pr, PyData.depthAll (xs.map dPr) ≤ 3
  | [] => by simp [PyData.depthAll]
  | x :: xs => by
    have := depth_prs xs
    rw [List.map_cons]
    simp only [PyData.depthAll, PyData.depth]
    omega
theorem eqvAll_strs : ∀ xs ys : List Str, PyData.eqvAll (xs.map PyData.str) (ys.map PyData.str) = decide (xs = ys)
  | [], [] => by simp [PyData.eqvAll]
  | [], y :: ys => by simp [PyData.eqvAll]
  | x :: xs, [] => by simp [PyData.eqvAll]
  | x :: xs, y :: ys => by
    rw [List.map_cons, List.map_cons, PyData.eqvAll, eqvAll_strs xs ys]
    by_cases h : x = y
    · subst h
      simp [PyData.eqv]
    · simp [PyData.eqv, h]
theorem eqv_strs (xs ys : List Str) : PyData.eqv (dStr xs) (dStr ys) = decide (xs = ys) := by
  rw [PyData.eqv, eqvAll_strs]
theorem eqv_pr (p q : Pr) : PyData.eqv (dPr p) (dPr q) = decide (p = q) := by
  obtain ⟨a, b⟩ := p
  obtain ⟨c, d⟩ := q
  simp only [PyData.eqv, PyData.eqvAll, Bool.and_true, Prod.mk.injEq, Bool.decide_and]
  have e : ∀ x y : Str, (x == y) = decide (x = y) := fun x y => by
    by_cases h : x = y
    · subst h
      simp
    · simp [h]
  rw [e, e]
theorem any_prs (p : Pr) (ps : List Pr) : ((ps.map dPr).any fun z => PyData.eqv z (dPr p)) = decide (p ∈ ps) := by
  induction ps with
  | nil => rfl
  | cons q ps ih =>
    rw [List.map_cons, List.any_cons, ih, eqv_pr]
    by_cases h : p = q
    · subst h
      simp
    · have h2 : q ≠ p := fun z => h z.symm
      simp [h, h2]
end Ds
end F5
section F6
namespace Ds
open PySem PySem.Spec PyProof.Rows L2 He
/-! ### the package's error classes: all of them have the first one's __init__ -/
def errI (K : PySem.W.Frag) : Addr := ma K (ga K "DeedError") "__init__"
structure ErrC (K : PySem.W.Frag) (mg : Str → Option Value) (x : Str) : Prop where
  cl : OexC K (ga K x)
  ini : PySem.W.findIn K (.ref (ga K x)) "__init__" = some (some (.ref (errI K)))
  noV : PySem.W.findIn K (.ref (ga K x)) "value" = some none
  gl : mg x = some (.ref (ga K x))
  xf : XfC K (ga K x)
/-- self.value = value of an exception that is being made -/
def spErrI (K : PySem.W.Frag) : Sp := fun vs H Q _ => ∃ (a C : Addr) (v : V), vs = [.ref a, v] ∧ OexC K C ∧ PySem.W.findIn K (.ref C) "value" = some none ∧ H a = some (exo a C none) ∧
  ∀ dx, H dx = none → dx ≠ a → Q .non (upd (upd H dx (exd dx [("value", v)])) a (exo a C (some dx)))
structure ErrI (P : Program) (w : World) (K : PySem.W.Frag) (mg : Str → Option Value) (base : Heap) : Prop where
  ok : ∃ fd, FnOk P w K mg base CX0 1 (errI K) fd ["self", "value"] (spErrI K) ∧ Binds K fd ["self", "value"] []
  ty : PySem.W.typeIn K (.ref (errI K)) = some (.type "function")
section
variable {X : Cx} {x : Str} {e : Expr} {ta : TA} {p pos : Pos} {k : Nat}
theorem pmk_x (I : ErrI X.prog X.w X.K X.mg X.base) (T : ErrC X.K X.mg x) (hr : Room k X.A) (hg : Gl X x) (ha : PA X [e] ta) (hk : 2 ≤ k := by decide) (hdb : (x == ("__debug__" : Str)) = false := by decide)
    (he : starEach [e] X.env = (false, eval e X.env) :: starEach [] X.env := by rfl) (hpl : (backTo pos (starEach [] X.env)).any (·.1) = false := by rfl) :
    PMk X (.Call (.Name x p) [e] [] pos) (tMkO (ga X.K x) (spErrI X.K) [] ta) := by
  obtain ⟨fd, F, b⟩ := I.ok
  exact pmk_oex T.cl T.ini I.ty F (hr.mono hk) b .nil pass0 hg T.gl ha hdb he hpl
end
section
variable {K : PySem.W.Frag} {mg : Str → Option Value} {σ : L2.St} {H : Hp} {Q : XK} {v : V} {x : Str} {D : Ends}
theorem heap_made {a dx C : Addr} {fs : List (Str × V)} (ha : H a = none) (hd : H dx = none) (hn : dx ≠ a) : upd (del (upd (upd (upd H a (exo a C none)) dx (exd dx fs)) a (exo a C (some dx))) a) dx (.xd fs) = upd H dx (.xd fs) := by
  funext b
  by_cases hb : b = dx
  · subst hb
    rw [upd_same, upd_same]
  · rw [upd_ne hb, upd_ne hb]
    by_cases hc : b = a
    · subst hc
      rw [del_same, ha]
    · rw [del_ne hc, upd_ne hc, upd_ne hb, upd_ne hc]
/-- what is left of C(v), to be raised -/
theorem d_made (T : ErrC K mg x) (h : ∀ d, H d = none → Q (.ref (ga K x)) (some d) (upd H d (.xd [("value", v)]))) :
    [v].length ≤ 1000 ∧ ∀ a, H a = none → spErrI K (.ref a :: ([v] ++ [])) (upd H a (exo a (ga K x) none))
      (fun u H2 => u = .non ∧ ∃ (d : Addr) (fs : List (Str × V)), H2 a = some (exo a (ga K x) (some d)) ∧ H2 d = some (exd d fs) ∧ H d = none ∧ Q (.ref (ga K x)) (some d) (upd (del H2 a) d (.xd fs))) (fun _ _ _ => False) := by
  refine ⟨by show 1 ≤ 1000; decide, fun a ha => ⟨a, ga K x, v, rfl, T.cl, T.noV, upd_same, fun dx hd hn => ⟨rfl, dx, [("value", v)], upd_same, ?_, ?_, ?_⟩⟩⟩
  · rw [upd_ne hn, upd_same]
  · rw [upd_ne hn] at hd
    exact hd
  · rw [upd_ne hn] at hd
    rw [heap_made ha hd hn]
    exact h dx hd
end
section
variable {X : Cx} {CX : CXT} {k j : Nat} {x : Str} {ps : List Str} {sp : Sp} {p pos : Pos} {e : Expr} {es : List Expr} {t : TA} {W : WX}
theorem pe_calX (c : Cal X.prog X.w X.K X.mg X.base (L2.CX X.prog X.w) k x ps sp) (hr : Room j X.A) (hg : Gl X x) (tk : Takes X W) (ha : PA X (e :: es) t) (hj : k ≤ j := by decide) (hdb : (x == ("__debug__" : Str)) = false := by decide)
    (he : starEach (e :: es) X.env = (false, eval e X.env) :: starEach es X.env := by rfl) (hpl : (backTo pos (starEach es X.env)).any (·.1) = false := by rfl) :
    PE X (.Call (.Name x p) (e :: es) [] pos) (tCallS sp (WE W) t) := by
  obtain ⟨f, fd, F, hm, kp, b⟩ := c
  exact pe_callS F (hr.mono hj) hg hm kp b (fun σ => passAt tk σ) ha hdb he hpl
/-- the same where the promise is asked for without an error -/
theorem pe_calN (c : Cal X.prog X.w X.K X.mg X.base (L2.CX X.prog X.w) k x ps sp) (hr : Room j X.A) (hg : Gl X x) (ha : PA X (e :: es) t) (hj : k ≤ j := by decide) (hdb : (x == ("__debug__" : Str)) = false := by decide)
    (he : starEach (e :: es) X.env = (false, eval e X.env) :: starEach es X.env := by rfl) (hpl : (backTo pos (starEach es X.env)).any (·.1) = false := by rfl) :
    PE X (.Call (.Name x p) (e :: es) [] pos) (tCall sp [] E0 t) := by
  obtain ⟨f, fd, F, hm, kp, b⟩ := c
  exact pe_call F (hr.mono hj) hg hm kp b .nil passL ha hdb he hpl
end
end Ds
end F6
section F7
namespace Ds
open PySem PySem.Spec PyProof.Rows L2 He
/-! ### what leads to what -/
inductive Leads (ps : List Pr) : Str → Str → Prop where
  | refl (a : Str) : Leads ps a a
  | step {a b c : Str} : (a, b) ∈ ps → Leads ps b c → Leads ps a c
theorem Leads.mono {ps qs : List Pr} (h : ∀ p ∈ ps, p ∈ qs) {a b : Str} (l : Leads ps a b) : Leads qs a b := by
  induction l with
  | refl a => exact .refl a
  | step e _ ih => exact .step (h _ e) ih
theorem Leads.trans {ps : List Pr} {a b c : Str} (l : Leads ps a b) (m : Leads ps b c) : Leads ps a c := by
  induction l with
  | refl a => exact m
  | step e _ ih => exact .step e (ih m)
/-- a set that holds x and is closed holds all that leads to x -/
theorem Leads.closed {ps : List Pr} {F : List Str} {x : Str} (hx : x ∈ F) (hc : ∀ a b, (a, b) ∈ ps → b ∈ F → a ∈ F) {a : Str} (l : Leads ps a x) : a ∈ F := by
  induction l with
  | refl a => exact hx
  | step e _ ih => exact hc _ _ e (ih hx)
theorem nodup_le : ∀ {l m : List Str}, l.Nodup → (∀ x ∈ l, x ∈ m) → l.length ≤ m.length
  | [], _, _, _ => Nat.zero_le _
  | x :: l, m, nd, h => by
    have hx : x ∈ m := h x (by simp)
    obtain ⟨nx, nd'⟩ := List.nodup_cons.mp nd
    have h2 : ∀ y ∈ l, y ∈ m.erase x := fun y hy => by
      have hne : y ≠ x := fun e => nx (e ▸ hy)
      exact (List.mem_erase_of_ne hne).mpr (h y (by simp [hy]))
    have := nodup_le nd' h2
    rw [List.length_erase_of_mem hx] at this
    have hp : 0 < m.length := List.length_pos_of_mem hx
    rw [List.length_cons]
    omega
open Classical in
/-- the things of ns that lead to x, in their sequence -/
noncomputable def leading (ns : List Str) (ps : List Pr) (x : Str) : List Str := ns.filter fun t => decide (Leads ps t x)
open Classical in
theorem leading_mem {ns : List Str} {ps : List Pr} {x t : Str} : t ∈ leading ns ps x ↔ t ∈ ns ∧ Leads ps t x := by
  unfold leading
  rw [List.mem_filter, decide_eq_true_eq]
open Classical in
theorem leading_eq {ns : List Str} {ps : List Pr} {x : Str} {F : List Str} (h : ∀ t ∈ ns, t ∈ F ↔ Leads ps t x) : ns.filter (fun t => decide (t ∈ F)) = leading ns ps x := by
  unfold leading
  refine List.filter_congr fun t ht => ?_
  by_cases c : t ∈ F
  · rw [decide_eq_true c, decide_eq_true ((h t ht).mp c)]
  · rw [decide_eq_false c, decide_eq_false fun z => c ((h t ht).mpr z)]
/-! ### the first that can't be had -/
def FirstBad {α : Type} (B : List α → α → Prop) (xs : List α) (x : α) : Prop := ∃ i : Nat, xs[i]? = some x ∧ B (xs.take i) x ∧ ∀ (j : Nat) (y : α), j < i → xs[j]? = some y → ¬ B (xs.take j) y
def NoBad {α : Type} (B : List α → α → Prop) (xs : List α) : Prop := ∀ (j : Nat) (y : α), xs[j]? = some y → ¬ B (xs.take j) y
theorem FirstBad.not {α : Type} {B : List α → α → Prop} {xs : List α} {x : α} (h : FirstBad B xs x) : ¬ NoBad B xs := fun n => by
  obtain ⟨i, e1, b1, _⟩ := h
  exact n i x e1 b1
def NameBad (pre : List Str) (x : Str) : Prop := ¬ IsLet x ∨ x ∈ pre
def Two (ns : List Str) (p : Pr) : Prop := p.1 ∈ ns ∧ p.2 ∈ ns ∧ p.1 ≠ p.2
def ArrowBad (ns : List Str) (pre : List Pr) (p : Pr) : Prop := ¬ Two ns p ∨ p ∈ pre ∨ Leads pre p.2 p.1
def PairBad (ns : List Str) (pre : List Pr) (p : Pr) : Prop := ¬ Two ns p ∨ p ∈ pre ∨ (p.2, p.1) ∈ pre
/-! ### a dict of texts -/
theorem letter_cps {x : Str} (h : x.length = 1) : ∃ c, x = letter c := by
  obtain ⟨a⟩ := x
  have h' : a.size = 1 := h
  obtain ⟨l⟩ := a
  match l, h' with
  | [c], _ => exact ⟨c, rfl⟩
theorem lt1 (a b : Nat) : ([a] < [b]) ↔ a < b := by
  rw [List.cons_lt_cons_iff]
  constructor
  · rintro (h | ⟨_, h⟩)
    · exact h
    · exact absurd h (List.lt_irrefl [])
  · exact .inl
theorem isLet_iff (x : Str) : IsLet x ↔ x.length = 1 ∧ ¬ (x.cps.toList < ("a" : Str).cps.toList) ∧ ¬ (("z" : Str).cps.toList < x.cps.toList) := by
  constructor
  · rintro ⟨c, h1, h2, rfl⟩
    refine ⟨rfl, ?_, ?_⟩
    · show ¬ ([c] < [97])
      rw [lt1]
      omega
    · show ¬ ([122] < [c])
      rw [lt1]
      omega
  · rintro ⟨h1, h2, h3⟩
    obtain ⟨c, rfl⟩ := letter_cps h1
    have h2' : ¬ ([c] < [97]) := h2
    have h3' : ¬ ([122] < [c]) := h3
    rw [lt1] at h2' h3'
    exact ⟨c, by omega, by omega, rfl⟩
/-! ### walks over enumerate -/
end Ds
end F7
section F8
namespace Ds
open PySem PySem.Spec PyProof.Rows L2 He
/-! ### a method of an own class, to be called by place or by name -/
structure CalM (P : Program) (w : World) (K : PySem.W.Frag) (mg : Str → Option Value) (base : Heap) (CX : CXT) (k : Nat) (C : Addr) (m : Str) (ps : List Str) (sp : Sp) : Prop where
  cl : Cls K C
  ex : ∃ f fd, FnOk P w K mg base CX k f fd ps sp ∧ Meth K C m f ∧ Binds K fd ps [] ∧ KBn K fd ps 1 ps.tail (fun us ws => us ++ ws) (fun vs zs => vs ++ zs)
section
variable {X : Cx} {CX : CXT} {k j : Nat} {C : Addr} {ps : List Str} {sp : Sp} {E : L2.St → XK} {W : WX} {m : Str} {p pos apos : Pos} {e o : Expr} {es : List Expr} {kws : List Keyword} {ta : TE} {t tk : TA} {pl : Sem Bool}
end
/-! ### a new instance of an own class -/
structure CalC (P : Program) (w : World) (K : PySem.W.Frag) (mg : Str → Option Value) (base : Heap) (CX : CXT) (k : Nat) (x : Str) (C : Addr) (ps : List Str) (sp : Sp) : Prop where
  gl : mg x = some (.ref C)
  ex : ∃ f fd, FnOk P w K mg base CX k f fd ps sp ∧ Mk K C f ∧ Binds K fd ps []
section
variable {X : Cx} {CX : CXT} {k j : Nat} {C : Addr} {ps : List Str} {sp : Sp} {x : Str} {p pos : Pos} {e : Expr} {es : List Expr} {t : TA}
theorem pe_mkN (c : CalC X.prog X.w X.K X.mg X.base (L2.CX X.prog X.w) k x C ps sp) (hr : Room j X.A) (hg : Gl X x) (ha : PA X (e :: es) t) (hj : k + 1 ≤ j := by decide) (hdb : (x == ("__debug__" : Str)) = false := by decide)
    (he : starEach (e :: es) X.env = (false, eval e X.env) :: starEach es X.env := by rfl) (hpl : (backTo pos (starEach es X.env)).any (·.1) = false := by rfl) :
    PE X (.Call (.Name x p) (e :: es) [] pos) (tMake C sp [] E0 t) := by
  obtain ⟨f, fd, F, M, b⟩ := c.ex
  exact pe_make M F (hr.mono hj) hg c.gl b .nil passL ha hdb he hpl
end
section
variable {σ : L2.St} {H : Hp} {Q : VK} {C : Addr} {m : Str} {sp : Sp} {E : L2.St → XK} {ta : TE} {t : TA}
end
end Ds
end F8
section F9
namespace Ds
open PySem PySem.Spec PyProof.Rows L2 He
/-! ### a def that shows data: nothing is being shown around its call -/
structure FnG (P : Program) (w : World) (K : PySem.W.Frag) (mg : Str → Option Value) (base : Heap) (CX : CXT) (k : Nat) (f : Addr) (fd : FuncData) (ps : List Str) (sp : Sp) : Prop where
  many : ∀ vs H Q E, sp vs H Q E → vs.length = ps.length
  does : ∀ (A : Around) (outer : List Env) (s : Shared) (H : Hp) (args : Args) (us : List Value) (vs : List V) (Q : VK) (E : XK), A.guards = some [] → Room k A → Env0 P w K mg base A outer s H → BindsTo s fd args (ps.zip us) → Vals vs us → sp vs H Q E →
    codeAny (model P w) A (.call (.ref f) args) (CR CX outer P w H s Q E) s
theorem FnG.mono {P : Program} {w : World} {K : PySem.W.Frag} {mg : Str → Option Value} {base : Heap} {CX : CXT} {j k : Nat} {f : Addr} {fd : FuncData} {ps : List Str} {sp : Sp} (F : FnG P w K mg base CX j f fd ps sp) (h : j ≤ k) : FnG P w K mg base CX k f fd ps sp :=
  ⟨F.many, fun A o s H a us vs Q E g r => F.does A o s H a us vs Q E g (r.mono h)⟩
/-- what a run of the body comes to -/
theorem ended {CX : CXT} {P : Program} {w : World} {K : PySem.W.Frag} {mg : Str → Option Value} {base : Heap} {N : List Str} {qual : Str} {sc : Scope} {f : Addr} {cd : Value} {A : Around} {outer : List Env} {s s' : Shared} {H : Hp} {Q : VK} {E : XK} {fl : Flow}
    (h : SP (cxOf CX P w K mg base N qual sc f cd A outer s H E) [] { nx := fun _ H' => Q .non H', rt := Q } fl s') :
    match fl with | .ret u => CE outer P w H s Q u s' | .next => CE outer P w H s Q Value.none s' | .brk => False | .cont => False := by
  match fl, h with
  | .ret u, ⟨v, σ', H', J, rv, q⟩ => exact ⟨v, H', J.os, J.bare, J.base, J.hok, rv, q⟩
  | .next, ⟨σ', H', J, q⟩ => exact ⟨V.non, H', J.os, J.bare, J.base, J.hok, rfl, q⟩
  | .brk, ⟨_, _, _, q⟩ => exact q.elim
  | .cont, ⟨_, _, _, q⟩ => exact q.elim
section
variable {P : Program} {w : World} {K : PySem.W.Frag} {mg : Str → Option Value} {base : Heap} {x qual : Str} {prm : Arguments} {body : List Stmt} {sc : Scope} {f : Addr} {fd : FuncData}
theorem okG {CX : CXT} {N ps : List Str} {k : Nat} {sp : Sp} (F : FunD K x qual prm body sc [] [] f fd) (S : FnScope N ps sc) (len : ∀ vs H Q E, sp vs H Q E → vs.length = ps.length)
    (hbody : ∀ (cdv : Value) (A : Around) (outer : List Env) (s : Shared) (H : Hp) (vs : List V) (Q : VK) (E : XK), (A.deeper (envOfC qual sc s.heap.objs.size f cdv)).guards = some [] → Room k (A.deeper (envOfC qual sc s.heap.objs.size f cdv)) → sp vs H Q E →
      ∃ t, PSs (cxOf CX P w K mg base N qual sc f cdv A outer s H E) body t ∧ t { nx := fun _ H' => Q .non H', rt := Q } (start N vs) H) : FnG P w K mg base CX (k + 1) f fd ps sp := by
  obtain ⟨oc, od, dV, kV, doc, pm, an, cdv, ct, osl, e, lk, hcd, _⟩ := F.ex
  subst e
  refine ⟨len, ?_⟩
  intro A outer s H args us vs Q E hg hr e0 hb r hsp
  have inK : K.In s.heap := e0.mod.kin.keeps (fun b o z => (e0.bs b o z).1)
  have nolim : s.heap.NoLimit := e0.mod.nolimit.keeps (fun b o z => (e0.bs b o z).1)
  refine codeAny_call_function hr.depth (inK _ _ lk) rfl S.co S.gen rfl (PySem.W.codeRec_of inK hcd) (hb _ _ _ _ (wpAny_newFunctionEnv_cells S.kind (fun y hy => ?_) (fun env he s1 z => ?_)))
  · rcases S.par y.1 (List.of_mem_zip (a := y.1) (b := y.2) hy).1 with q | q
    · exact Or.inl q
    · exact Or.inr ⟨q, PySem.W.cellsFrom_some _ _ _ (Or.inl q)⟩
  · cases he
    obtain ⟨t, ht, hq⟩ := hbody cdv A outer s H vs Q E hg (hr.deeper _) hsp
    have I := inv_start (CX := CX) (E := E) S hr.hd e0 (len _ _ _ _ hsp) r z
    refine ⟨nolim.keeps z.toInCall.keep, codeAny_func (wpAny_mono (ht.run [] s1 (start N vs) H _ I hq) (fun fl s' hs => ?_) (fun _ _ q => q))⟩
    have q := ended hs
    cases fl with
    | ret u => exact q
    | next => exact q
    | brk => exact (show False from q).elim
    | cont => exact (show False from q).elim
end
/-- such a def, to be called -/
def CalG (P : Program) (w : World) (K : PySem.W.Frag) (mg : Str → Option Value) (base : Heap) (CX : CXT) (k : Nat) (x : Str) (ps : List Str) (sp : Sp) : Prop :=
  ∃ f fd, FnG P w K mg base CX k f fd ps sp ∧ mg x = some (.ref f) ∧ PySem.W.keepIn K (.ref f) = true ∧ Binds K fd ps []
section
variable {X : Cx} {CX : CXT} {k j : Nat} {x : Str} {ps : List Str} {sp : Sp} {p pos : Pos} {e : Expr} {es : List Expr} {t : TA}
theorem pe_calG (c : CalG X.prog X.w X.K X.mg X.base CX0 k x ps sp) (hr : Room j X.A) (hgd : X.A.guards = some []) (hg : Gl X x) (ha : PA X (e :: es) t) (hj : k ≤ j := by decide) (hdb : (x == ("__debug__" : Str)) = false := by decide)
    (he : starEach (e :: es) X.env = (false, eval e X.env) :: starEach es X.env := by rfl) (hpl : (backTo pos (starEach es X.env)).any (·.1) = false := by rfl) :
    PE X (.Call (.Name x p) (e :: es) [] pos) (tCall sp [] E0 t) := by
  obtain ⟨f, fd, F, hm, kp, b⟩ := c
  refine ⟨fun pins s σ H Q I h => wpAny_Call_Name_kw (ld_glob I hg hm ?_ hdb)⟩
  refine PySem.W.callWith_K (h₀ := X.base) I.ok.mod.kin kp (thn (ha.run pos pins s σ H _ I h) ?_) he hpl
  intro us s1 q0
  obtain ⟨vs, H1, I1, r, q⟩ := q0
  have q' : sp vs H1 Q E0 := by rw [List.append_nil] at q; exact q
  have hl : us.length = ps.length := r.length.symm.trans (F.many _ _ _ _ q')
  have b1 := b s1 us I1.kIn (by rw [List.append_nil]; exact hl)
  rw [List.append_nil] at b1
  refine ⟨I1.kIn, wpAny_call (codeAny_mono (F.does X.A X.stack s1 H1 ⟨us, []⟩ us vs Q E0 hgd (hr.mono hj) I1.env0 b1 r q') (fun res s' hq => ?_))⟩
  match res, hq with
  | .error z, hq => exact pass0 pins σ H1 s1 z s' I1 hq
  | .ok (.ret u), hq => exact I1.after hq
end
/-! ### repr of data -/
def rReprD (K : PySem.W.Frag) : List V → Hp → VK → Prop := fun xs H Q => ∃ (a : Addr) (d : PyData), xs = [.ref a] ∧ Dp K H (.ref a) d ∧ d.showable = true ∧ d.hasDict = false ∧ d.depth ≤ 20 ∧ d.shown.length ≤ sizeLine ∧ Q (.str d.shown) H
theorem call_reprD {X : Cx} (hg : X.A.guards = some []) (hu : X.A.units + 64 < cLine) : CallR X (.builtin "repr") (rReprD X.K) := by
  intro pins s σ H xs us Q I r h
  obtain ⟨a, d, rfl, hd, h1, h2, h3, h4, q⟩ := h
  obtain ⟨u, rfl, ru⟩ := vals1 r
  obtain ⟨as, rd⟩ := Dp.reads I d (.ref a) u hd ru
  cases (show u = Value.ref a from ru)
  exact repr_of_reads' rd h1 (PyData.noDict_hsm h2) hg (by omega) (fun b o z => z) (fun h' u tk hk => ⟨.str d.shown, H, I.kept hk, ⟨_, rfl⟩, q⟩) h4
end Ds
end F9
section F10
namespace Ds
open PySem PySem.Spec PyProof.Rows L2 He
theorem same_new {H H' : Hp} {a : Addr} {o : HO} (s : Same H H') (n : H' a = none) : Same H (upd H' a o) := fun b u e => by rw [upd_ne (ne_of_none (s b u e) n)]; exact s b u e
/-! ### isinstance of the caught error that has a dict -/
section
variable {X : Cx} {a C : Addr} {oe : Obj} {cls : Value} {d : Option Addr} {pn : List (Addr × Obj)}
end
/-- what isinstance asks of a class, to be decided -/
def excB (K : PySem.W.Frag) (C : Addr) : Bool := decide (PySem.W.findIn K (.ref C) "__getattribute__" = some (some (.builtin "BaseException.__getattribute__"))) && (decide (PySem.W.findIn K (.ref C) "__getattr__" = some none) && (decide (PySem.W.subIn K (.ref C) (.type "BaseException") = some true) &&
  (PySem.W.hasDictIn K C && (decide (PySem.W.findIn K (.ref C) "__class__" = some (some (.builtin "object.__class__"))) && (decide (PySem.W.specialIn K (.builtin "object.__class__") "__get__" = some (some (.builtin "getset_descriptor.__get__"))) && (decide (PySem.W.takesIn K (.builtin "object.__class__") = some true) && decide (PySem.W.mroIn K C (.type "object") = some true)))))))
/-- the package's error classes, all of them, and what isinstance and except say of them -/
def errNames : List Str := ["DeedError", "InvalidName", "InvalidArrow", "InvalidPair", "InvalidNumber", "InvalidWeights", "InvalidDeed", "NotTold", "NothingToUndo", "TooMany", "Unreadable"]
def kitB1 (K : PySem.W.Frag) (x y : Str) : Bool := decide (PySem.W.kitOne K (.ref (ga K x)) (.ref (ga K y)) = some (x == y || y == "DeedError"))
def kitB2 (K : PySem.W.Frag) (x : Str) : Bool := decide (PySem.W.kitOne K (.ref (ga K x)) (.type "ValueError") = some true) && (decide (PySem.W.exmOne K (.ref (ga K x)) (.ref (ga K "DeedError")) = some true) && excB K (ga K x))
structure ErrAll (K : PySem.W.Frag) (mg : Str → Option Value) : Prop where
  DeedError : ErrC K mg "DeedError"
  InvalidName : ErrC K mg "InvalidName"
  InvalidArrow : ErrC K mg "InvalidArrow"
  InvalidPair : ErrC K mg "InvalidPair"
  InvalidNumber : ErrC K mg "InvalidNumber"
  InvalidWeights : ErrC K mg "InvalidWeights"
  InvalidDeed : ErrC K mg "InvalidDeed"
  NotTold : ErrC K mg "NotTold"
  NothingToUndo : ErrC K mg "NothingToUndo"
  TooMany : ErrC K mg "TooMany"
  Unreadable : ErrC K mg "Unreadable"
  k1 : ∀ x ∈ errNames, ∀ y ∈ errNames, kitB1 K x y = true
  k2 : ∀ x ∈ errNames, kitB2 K x = true
section
variable {K : PySem.W.Frag} {mg : Str → Option Value}
theorem ErrAll.is (T : ErrAll K mg) {x y : Str} (hx : x ∈ errNames) (hy : y ∈ errNames) {b : Bool} (e : (x == y || y == "DeedError") = b) : PySem.W.kitOne K (.ref (ga K x)) (.ref (ga K y)) = some b := by
  rw [← e]
  exact of_decide_eq_true (T.k1 x hx y hy)
theorem ErrAll.none (T : ErrAll K mg) {x : Str} (hx : x ∈ errNames) : ∀ ys : List Str, (∀ y ∈ ys, y ∈ errNames) → (∀ y ∈ ys, (x == y || y == "DeedError") = false) → PySem.W.kitAny K (.ref (ga K x)) (ys.map fun y => Value.ref (ga K y)) = some false
  | [], _, _ => kitAny_nil
  | y :: ys, h1, h2 => kitAny_cons (T.is hx (h1 y (by simp)) (h2 y (by simp))) (fun _ => ErrAll.none T hx ys (fun z hz => h1 z (by simp [hz])) (fun z hz => h2 z (by simp [hz]))) (fun z => nomatch z)
end
section
variable {K : PySem.W.Frag} {σ : L2.St} {H : Hp} {Q : VK} {a C dd : Addr} {fs : List (Str × V)} {c : V} {u : Value} {b : Bool}
end
end Ds
end F10
section F11
namespace Ds
open PySem PySem.Spec PyProof.Rows L2 He
/-! ### == and != by an own __eq__ -/
/-- what the class must say: an __eq__ of its own at g, no __ne__, object alone above it -/
def eqB (K : PySem.W.Frag) (C g : Addr) : Bool := match K.lookup C with
  | some ⟨.type "type", _, .cls ⟨_, _, .ref C' :: bm, ns, _, _, _, _, _, _, del⟩, sl⟩ => (match sl.toList with
    | [_, _, _, _, some (.builtin _), _] => decide (C' = C) && (decide (bm = [.type "object"]) && (!del && (PySem.W.nsOkIn K ns && (decide (PySem.W.nsIn K ns "__eq__" = some (some (.ref g))) && decide (PySem.W.nsIn K ns "__ne__" = some none)))))
    | _ => false)
  | _ => false
structure EqC (K : PySem.W.Frag) (C g : Addr) : Prop where
  cl : Cls K C
  at_ : PySem.W.findIn K (.ref C) "__eq__" = some (some (.ref g))
  fn : PySem.W.isFn K (.ref g) = true
  b : eqB K C g = true
section
variable {X : Cx} {CX : CXT} {k j : Nat} {C : Addr} {sp : Sp}
end
end Ds
end F11
section F12
namespace Ds
open PySem PySem.Spec PyProof.Rows L2 He
/-! ### what the written part says of the error classes, to be decided -/
def oexB (K : PySem.W.Frag) (C : Addr) : Bool := match K.lookup C with
  | some ⟨.type "type", _, .cls ⟨_, _, .ref C' :: bm, _, _, hd, _, _, _, _, del⟩, sl⟩ => (match sl.toList with
    | [_, _, _, _, some (.builtin n), _] => decide (C' = C) && (decide (n = "ValueError.__new__") && (!del && (hd && PySem.HandSPX.refsVE bm)))
    | _ => false)
  | _ => false
theorem oexB_ok {K : PySem.W.Frag} {C : Addr} (h : oexB K C = true) : ∃ nm q N bs bm sn sub ab col dd k0 k1 k2 k3 k5, K.lookup C = some (excClassObj nm q C N bs bm true sn sub ab col dd k0 k1 k2 k3 k5 "ValueError.__new__") ∧ PySem.HandSPX.refsVE bm = true := by
  unfold oexB at h
  split at h
  · rename_i dd a1 a2 C' bm a3 a4 hd a5 a6 a7 a8 del sl ho
    split at h
    · rename_i k0 k1 k2 k3 n k5 hs
      simp only [Bool.and_eq_true, decide_eq_true_eq, Bool.not_eq_true'] at h
      obtain ⟨rfl, rfl, rfl, rfl, hv⟩ := h
      have hsl : sl = #[k0, k1, k2, k3, some (.builtin "ValueError.__new__"), k5] := by
        obtain ⟨l⟩ := sl
        simp only at hs
        rw [hs]
      subst hsl
      exact ⟨_, _, _, _, bm, _, _, _, _, dd, k0, k1, k2, k3, k5, ho, hv⟩
    · cases h
  · cases h
def errB (K : PySem.W.Frag) (x : Str) : Bool := oexB K (ga K x) && (decide (PySem.W.findIn K (.ref (ga K x)) "__setattr__" = some (some (.builtin "object.__setattr__"))) && (decide (PySem.W.subIn K (.ref (ga K x)) (.type "BaseException") = some true) &&
  (decide (PySem.W.typeIn K (.ref (ga K x)) = some (.type "type")) && (PySem.W.keepIn K (.ref (ga K x)) && (decide (PySem.W.findIn K (.ref (ga K x)) "__init__" = some (some (.ref (errI K)))) && (decide (PySem.W.findIn K (.ref (ga K x)) "value" = some none) && xfB K (ga K x)))))))
theorem errB_ok {K : PySem.W.Frag} {mg : Str → Option Value} {x : Str} (h : errB K x = true) (g : mg x = some (.ref (ga K x))) : ErrC K mg x := by
  unfold errB at h
  simp only [Bool.and_eq_true, decide_eq_true_eq] at h
  obtain ⟨h1, h2, h3, h4, h5, h6, h7, h8⟩ := h
  exact ⟨⟨oexB_ok h1, h2, h3, h4, h5⟩, h6, h7, g, xfB_ok h8⟩
end Ds
end F12
section F13
namespace Ds
open PySem PySem.Spec PyProof.Rows L2 He
/-! ### the top: the law's guarded promise, behind the claim's caller -/
section
variable {P : Program} {w : World} {K : PySem.W.Frag} {mg mb : Str → Option Value} {k : Nat} {fa a : Addr} {fd : FuncData} {x : Str} {sp : Sp} {s₁ : Shared} {vs : List Value} {ns : List Int}
/-- the tracked heap at the top holds the script alone, or nothing -/
structure Lone (K : PySem.W.Frag) (P : Program) (w : World) (a : Addr) (h : Heap) (H : Hp) : Prop where
  at_ : ∀ b u, H b = some u → b = a ∧ K.lookup a = none ∧ ∃ ob xs, u = .frz ob (.lst xs)
  ok : HOk P w H h
theorem Lone.only {h : Heap} {H : Hp} (L : Lone K P w a h H) : Only H := by
  intro b
  match e : H b with
  | none => exact .inl rfl
  | some u =>
    obtain ⟨_, _, ob, xs, rfl⟩ := L.at_ b u e
    exact .inr ⟨ob, xs, rfl⟩
/-- what is no list stays in the base -/
theorem Lone.base {h : Heap} {H : Hp} (L : Lone K P w a h H) (ha : h.get? a = some { cls := .type "list", data := .seq vs.toArray }) {b : Addr} {m : Str → Option Value} (n : h.Ns b m) : (hidT h H).Ns b m := by
  obtain ⟨o, es, ep, e, d, r⟩ := n
  refine ⟨o, es, ep, hidT_get e ?_, d, r⟩
  match q : H b with
  | none => rfl
  | some u =>
    obtain ⟨rfl, _⟩ := L.at_ b u q
    have z : o = _ := Option.some.inj (e.symm.trans ha)
    rw [z] at d
    exact nomatch d
theorem Lone.kin {h : Heap} {H : Hp} (L : Lone K P w a h H) (X : K.In h) : K.In (hidT h H) := by
  intro b o e
  refine hidT_get (X b o e) ?_
  match q : H b with
  | none => rfl
  | some u =>
    obtain ⟨rfl, n, _⟩ := L.at_ b u q
    exact nomatch n.symm.trans e
theorem top_run {H : Hp} (L : Lone K P w a s₁.heap H) (KX : K.In s₁.heap) (hns : s₁.heap.Ns mainGlobals mg) (hb : s₁.heap.Ns builtinsNs mb) (hbb : ∀ x : Str, x ≠ "__name__" → mb x = bootBuiltins x) (hlim : s₁.heap.NoLimit) (hg : s₁.gens = #[])
    (ha : s₁.heap.get? a = some { cls := .type "list", data := .seq vs.toArray }) (hr : Room k callerA)
    (F : FnG P w K mg (hidT s₁.heap H) CX0 k fa fd [x] sp) (hbind : ∀ (s : Shared) (u : Value), BindsTo s fd ⟨[u], []⟩ [(x, u)]) (hsp : sp [.ref a] H (fun v _ => v = .bl true) fun _ _ _ => False) :
    codeAny (model P w) callerA (.call (.ref fa) ⟨[.ref a], []⟩) (fun r s' => r = .ok (.ret (.bool true)) ∧ OldK s₁.heap s'.heap ∧ s'.os = s₁.os ∧ AllBare s'.gens) s₁ := by
  obtain ⟨mc, m1, m2⟩ := hlim
  have e0 : Env0 P w K mg (hidT s₁.heap H) callerA [] s₁ H := by
    refine ⟨rfl, ⟨L.kin KX, L.base ha hns, ⟨mb, L.base ha hb, hbb⟩, ⟨mc, L.base ha m1, m2⟩⟩, fun b o => of_hidT, Nat.le_of_eq (hidT_size ..), trivial, ?_, L.ok, AllBare.of_eq hg⟩
    exact fun b q => nomatch (show b ∈ ([] : List Addr) from q)
  refine codeAny_mono (F.does callerA [] s₁ H ⟨[.ref a], []⟩ [.ref a] [.ref a] _ _ rfl hr e0 (hbind s₁ _) (Paired.cons rfl Paired.nil) hsp) ?_
  intro r s' q
  match r, q with
  | .error e, q => exact (show False from q).elim
  | .ok (.ret u), ⟨v, H', os, bare, un, hok', rv, q⟩ =>
    have ev : v = V.bl true := q
    subst ev
    cases (show u = Value.bool true from rv)
    refine ⟨rfl, OldK.of_keep ?_, os, bare⟩
    intro b o e
    match z : H b with
    | none => exact un.keep b o e z (fun q => nomatch (show b ∈ ([] : List Addr) from q)) (fun q => nomatch q)
    | some u =>
      obtain ⟨_, _, ob, xs, rfl⟩ := L.at_ b u z
      have h1 := (L.ok b _ z).1
      have h2 := (hok' b _ (un.frzs b ob _ z)).1
      rw [← Option.some.inj (h1.symm.trans e)]
      exact h2
  | .ok .next, q => exact (show False from q).elim
  | .ok .brk, q => exact (show False from q).elim
  | .ok .cont, q => exact (show False from q).elim
theorem top_law (KX : K.In s₁.heap) (hns : s₁.heap.Ns mainGlobals mg) (hb : s₁.heap.Ns builtinsNs mb) (hbb : ∀ x : Str, x ≠ "__name__" → mb x = bootBuiltins x) (hlim : s₁.heap.NoLimit) (hg : s₁.gens = #[])
    (ha : s₁.heap.get? a = some { cls := .type "list", data := .seq vs.toArray }) (hi : IntsAre vs ns) (hl : ns.length ≤ sizeLine) (hr : Room k callerA)
    (F : ∀ base : Heap, K.In base → base.Ns mainGlobals mg → FnG P w K mg base CX0 k fa fd [x] sp) (hbind : ∀ (s : Shared) (u : Value), BindsTo s fd ⟨[u], []⟩ [(x, u)])
    (hsp : ∀ H : Hp, Only H → SqL K H a (ns.map V.int) → sp [.ref a] H (fun v _ => v = .bl true) fun _ _ _ => False) :
    codeAny (model P w) callerA (.call (.ref fa) ⟨[.ref a], []⟩) (fun r s' => r = .ok (.ret (.bool true)) ∧ OldK s₁.heap s'.heap ∧ s'.os = s₁.os ∧ AllBare s'.gens) s₁ := by
  have go : ∀ H, Lone K P w a s₁.heap H → SqL K H a (ns.map V.int) → codeAny (model P w) callerA (.call (.ref fa) ⟨[.ref a], []⟩) (fun r s' => r = .ok (.ret (.bool true)) ∧ OldK s₁.heap s'.heap ∧ s'.os = s₁.os ∧ AllBare s'.gens) s₁ := fun H L S =>
    top_run L KX hns hb hbb hlim hg ha hr (F _ (L.kin KX) (L.base ha hns)) hbind (hsp H L.only S)
  have rv := vals_ints hi
  have lv := hi.length
  match q : K.lookup a with
  | some o =>
    have eo : o = _ := Option.some.inj ((KX a o q).symm.trans ha)
    rw [eo] at q
    refine go (fun _ => none) ⟨fun _ _ e => (nomatch e), fun _ _ e => (nomatch e)⟩ (.inr ⟨_, vs.toArray, _, q, rfl, rfl, rfl, ?_, ?_⟩)
    · rw [List.size_toArray, lv]
      exact hl
    · simpa using rv
  | none =>
    have sel : ∀ b u, (if b = a then some (HO.frz { cls := .type "list", data := .seq vs.toArray } (.lst (ns.map V.int))) else none) = some u → b = a ∧ u = HO.frz { cls := .type "list", data := .seq vs.toArray } (.lst (ns.map V.int)) := fun b u e => by
      by_cases c : b = a
      · rw [if_pos c] at e
        exact ⟨c, (Option.some.inj e).symm⟩
      · rw [if_neg c] at e
        exact nomatch e
    refine go (fun b => if b = a then some (.frz { cls := .type "list", data := .seq vs.toArray } (.lst (ns.map V.int))) else none) ⟨fun b u e => ?_, fun b u e => ?_⟩ (.inl (.inr ⟨_, if_pos rfl⟩))
    · obtain ⟨h1, h2⟩ := sel b u e
      exact ⟨h1, q, _, _, h2⟩
    · obtain ⟨h1, h2⟩ := sel b u e
      subst h1
      rw [h2]
      refine ⟨ha, ?_, vs, _, rv, ha⟩
      rw [List.length_map]
      exact hl
end
theorem walk_G {l : PySem.W.OpenLaw} {n k : Nat} {q : Program} {loose : List Str} {XP : (Str → Option Value) → Heap → Prop} {YP : World → Heap → Prop} {d : DefRec} {x : Str} (hn : l.most = some n) (hn2 : n ≤ sizeLine) (hdf : d.params.defaults = []) (hr : Room k callerA)
    (F : ∀ (w : World) (mg : Str → Option Value) (fa : Addr) (h : Heap), YP w h → h.Ns mainGlobals mg → mg d.name = some (.ref fa) → ∃ (K : PySem.W.Frag) (fd : FuncData) (sp : Sp), K.In h ∧ (∀ (s : Shared) (u : Value), BindsTo s fd ⟨[u], []⟩ [(x, u)]) ∧
      (∀ (H : Hp) (a : Addr) (ns : List Int), ns.length ≤ n → SqL K H a (ns.map V.int) → sp [.ref a] H (fun v _ => v = .bl true) fun _ _ _ => False) ∧ ∀ base : Heap, K.In base → base.Ns mainGlobals mg → FnG l.prog w K mg base CX0 k fa fd [x] sp) :
    PySem.W.WalkO q loose XP YP l.row.toRowW d [] (fun f vs => PySem.call f vs) :=
  Att.attach_call hn hdf fun w s₀ s₁ mg mb fa o pm cd doc a vs ns G Y _ _ _ hmg hobj hints hlen hg => by
    obtain ⟨K, fd, sp, KX, hb, hsp, hF⟩ := F w mg fa _ Y G.T.g hmg
    exact top_law KX G.T.g G.T.b G.T.builtins G.T.nolimit hg hobj hints (Nat.le_trans hlen hn2) hr hF hb fun H _ S => hsp H a ns hlen S
end Ds
end F13
section F14
namespace Ds
open PySem PySem.Spec PyProof.Rows L2 He
/-! ### a property of an own class -/
def CalP (P : Program) (w : World) (K : PySem.W.Frag) (mg : Str → Option Value) (base : Heap) (k : Nat) (C : Addr) (x : Str) (sp : Sp) : Prop :=
  Cls K C ∧ ∃ p g fd, PropOf K C x p g ∧ FnOk P w K mg base CX0 k g fd ["self"] sp ∧ Binds K fd ["self"] []
section
variable {X : Cx} {CX : CXT} {k j n : Nat} {C : Addr} {ps ks : List Str} {sp : Sp} {x : Str} {p pos : Pos} {e : Expr} {ta t tk : TE} {kws : List Keyword} {gV : List V → List V → List V}
theorem pe_propC (c : CalP X.prog X.w X.K X.mg X.base k C x sp) (hr : Room j X.A) (he : PE X e ta) (hj : k + 1 ≤ j := by decide) (hab : attributeBase e x X.env (eval e X.env) = eval e X.env := by rfl) : PE X (.Attribute e x pos) (tProp C sp [] E0 ta) := by
  obtain ⟨cl, q, g, fd, hp, F, b⟩ := c
  exact pe_prop he cl hp F (hr.mono hj) b .nil (fun _ _ _ _ _ _ _ z => z) hab
end
/-! ### a new instance by keywords alone -/
section
variable {X : Cx} {CX : CXT} {k j : Nat} {C : Addr} {ps ks : List Str} {sp : Sp} {x : Str} {p pos : Pos} {tk : TA} {kws : List Keyword} {gV : List V → List V → List V}
end
/-! ### the head: getters too -/
/-- the function of the property x of the class at C -/
def gtA (C x : Str) (K : PySem.W.Frag) : Addr := match PySem.W.recIn K (ma K (ga K C) x) "property" with
  | some (.ref g :: _) => g
  | _ => 0
def fnV (K : PySem.W.Frag) (a : Addr) : FnW := match K.lookup a with
  | some ⟨_, _, .func fd, _⟩ => some (fd.name, fd.qualname, fd.params, fd.body, fd.scope, fd.globals, fd.closure, fd.builtins)
  | _ => none
def gtB (K : PySem.W.Frag) (C x qual : Str) : Bool := PySem.W.keepIn K (.ref (gtA C x K)) && ((match K.lookup (gtA C x K) with
  | some ⟨_, _, .func fd, _⟩ => PySem.W.codeIn K fd.code qual && (dflB K fd.defaults [] && kwdB K fd.kwdefaults [])
  | _ => false) && (decide (PySem.W.findIn K (.ref (ga K C)) x = some (some (.ref (ma K (ga K C) x)))) && (decide (PySem.W.specialIn K (.ref (ma K (ga K C) x)) "__get__" = some (some (.builtin "property.__get__"))) &&
  (decide (PySem.W.takesIn K (.ref (ma K (ga K C) x)) = some true) && (match PySem.W.recIn K (ma K (ga K C) x) "property" with
  | some (.ref _ :: _) => true
  | _ => false)))))
theorem gtB_ok {K : PySem.W.Frag} {C x : Str} {d : DefD} (hb : gtB K C x d.qual = true) (e : fnV K (gtA C x K) = d.val) : ∃ fd, FunD K d.name d.qual d.params d.body d.scope [] [] (gtA C x K) fd ∧ PropOf K (ga K C) x (ma K (ga K C) x) (gtA C x K) := by
  unfold gtB at hb
  obtain ⟨kp, hb⟩ := ba hb
  obtain ⟨hc, hb⟩ := ba hb
  obtain ⟨h1, hb⟩ := ba hb
  obtain ⟨h2, hb⟩ := ba hb
  obtain ⟨h3, h4⟩ := ba hb
  have hp : PropOf K (ga K C) x (ma K (ga K C) x) (gtA C x K) := by
    refine ⟨of_decide_eq_true h1, of_decide_eq_true h2, of_decide_eq_true h3, ?_⟩
    unfold gtA
    cases q : PySem.W.recIn K (ma K (ga K C) x) "property" with
    | none => rw [q] at h4; cases h4
    | some l =>
      rw [q] at h4
      match l, h4 with
      | .ref g :: rest, _ => exact ⟨rest, rfl⟩
  unfold fnV at e
  cases q : K.lookup (gtA C x K) with
  | none => rw [q] at hc; cases hc
  | some o =>
    obtain ⟨oc, od, dt, osl⟩ := o
    rw [q] at hc e
    cases dt with
    | func fd =>
      obtain ⟨n1, n2, n3, n4, n5, n6, n7, n8, n9, n10, n11, n12, n13, n14, n15⟩ := fd
      have e2 : (some (n1, n2, n3, n4, n5, n6, n7, n15) : FnW) = some (d.name, d.qual, d.params, .stmts d.body, d.scope, mainGlobals, [], builtinsNs) := e
      simp only [Option.some.injEq, Prod.mk.injEq] at e2
      obtain ⟨g1, g2, g3, g4, g5, g6, g7, g8⟩ := e2
      subst g1 g2 g3 g4 g5 g6 g7 g8
      obtain ⟨k1, k2⟩ := ba hc
      obtain ⟨k3, k4⟩ := ba k2
      exact ⟨_, ⟨⟨oc, od, n8, n9, n10, n11, n12, n13, n14, osl, rfl, q, k1, dflB_ok k3, kwdB_ok k4⟩, kp⟩, hp⟩
    | _ => cases hc
/-- a getter: class, name, its def -/
structure GtD where
  C : Str
  x : Str
  d : DefD
abbrev AlP : Type := AlX × (List FnW × Bool)
def obsP (n : Nat) (fa : List Fa) (fn : List DefD) (ex : PySem.W.Frag → Bool) (gt : List GtD) (g : Addr → Option Obj) : AlP :=
  (obsX n fa fn [] [] ex g, (gt.map fun q => fnV (frT g (asD g n)) (gtA q.C q.x (frT g (asD g n))), gt.all fun q => gtB (frT g (asD g n)) q.C q.x q.d.qual))
def valP (fn : List DefD) (gt : List GtD) (w : World) : AlP := (valX fn [] w, (gt.map fun q => q.d.val, true))
structure SaysP (fa : List Fa) (fn : List DefD) (ex : PySem.W.Frag → Bool) (gt : List GtD) (w : World) (h : Heap) (K : PySem.W.Frag) : Prop where
  x : SaysX fa fn [] [] ex w h K
  g : ∀ q ∈ gt, fnV K (gtA q.C q.x K) = q.d.val ∧ gtB K q.C q.x q.d.qual = true
theorem map_eq_on {α β : Type} {f g : α → β} : ∀ {l : List α}, l.map f = l.map g → ∀ x ∈ l, f x = g x
  | [], _, _, h => nomatch h
  | a :: l, e, x, h => by
    rw [List.map_cons, List.map_cons] at e
    injection e with e1 e2
    rcases List.mem_cons.mp h with rfl | h
    · exact e1
    · exact map_eq_on e2 x h
def hookP (n : Nat) (fa : List Fa) (fn : List DefD) (ex : PySem.W.Frag → Bool) (gt : List GtD) : PySem.W.Hook where
  α := AlP
  obs := fun s => obsP n fa fn ex gt s.heap.get?
  val := fun w => valP fn gt w
  says := fun w h => ∃ K : PySem.W.Frag, K.In h ∧ SaysP fa fn ex gt w h K
  of := fun w s e => ⟨_, frT_in, saysX_of (congrArg (fun z : AlP => z.1) e), fun q hq => ⟨map_eq_on (congrArg (fun z : AlP => z.2.1) e) q hq, List.all_eq_true.mp (congrArg (fun z : AlP => z.2.2) e) q hq⟩⟩
  keeps := fun _ _ _ ⟨K, hK, c⟩ k => ⟨K, PySem.W.Frag.In.keeps hK k, ⟨⟨c.x.t, c.x.more, c.x.hd, c.x.out, fun p hp => k _ _ (c.x.empty p hp)⟩, c.g⟩⟩
theorem obsP_eq {n : Nat} {fa : List Fa} {fn : List DefD} {ex : PySem.W.Frag → Bool} {gt : List GtD} {g : Addr → Option Obj} {s : Shared} (h : ∀ a, g a = s.heap.get? a) : obsP n fa fn ex gt g = (hookP n fa fn ex gt).obs s := by
  have e : g = s.heap.get? := funext h
  rw [e] <;> rfl
end Ds
end F14
section F15
namespace Ds
open PySem PySem.Spec PyProof.Rows L2 He
/-! ### a text nought times or once -/
end Ds
end F15
section F16
namespace Ds
open PySem PySem.Spec PyProof.Rows L2 He
/-! ### a new instance within a try: what its __init__ raises is wished for at the slots as they stand -/
section
variable {X : Cx} {CX : CXT} {k j : Nat} {f C : Addr} {fd : FuncData} {ps ks : List Str} {sp : Sp} {E : XK} {W : WX} {x : Str} {p pos : Pos} {e : Expr} {es : List Expr} {kws : List Keyword} {t tk : TA} {gV : List V → List V → List V}
theorem run_mkG {pins : List (Addr × Obj)} {σ : L2.St} {H : Hp} {s : Shared} {Q : VK} {us ws : List Value} {kw : List (Str × Value)} {vs : List V} (M : Mk X.K C f) (F : FnOk X.prog X.w X.K X.mg X.base CX k f fd ps sp) (hr : Room (k + 1) X.A) (hx : PassesAt CX X σ E)
    (bt : ∀ (s : Shared) (o : Addr), X.K.In s.heap → BindsTo s fd ⟨.ref o :: us, kw⟩ (ps.zip (.ref o :: ws))) (I : Inv X pins σ H s) (r : Vals vs ws)
    (h : ∀ o dx, H o = none → H dx = none → dx ≠ o → sp (.ref o :: vs) (upd (upd H dx (.own o)) o (.ins C dx [])) (fun v H2 => v = .non ∧ Q (.ref o) H2) E) : wpAny (model X.prog X.w) X.A (call (.ref C) us kw) (EP X pins σ Q) X.xe s := by
  have want := h (s.heap.objs.size + 1) s.heap.objs.size (I.hok.fresh (Nat.le_add_right _ 1)) (I.hok.fresh (Nat.le_refl s.heap.objs.size)) (Nat.ne_of_lt (Nat.lt_succ_self _))
  have J := Inv.made (C := C) I
  have rr : Vals (V.ref (s.heap.objs.size + 1) :: vs) (Value.ref (s.heap.objs.size + 1) :: ws) := Paired.cons rfl r
  have body := F.run _ X.stack _ _ ⟨Value.ref (s.heap.objs.size + 1) :: us, kw⟩ (Value.ref (s.heap.objs.size + 1) :: ws) _ _ E (hr.make C us kw) (J.env0.make C us kw) (bt _ _ J.kIn) rr want
  refine wpAny_call (make_map (f := f) I.kIn M.makes M.init (beq_iff_eq.mp M.fn) (codeAny_mono body ?_))
  intro res s' hq
  match res, hq with
  | .error er, hq => exact hx pins _ _ er s' J hq
  | .ok (.ret u), hq =>
    obtain ⟨v, H', J3, rv, ev, q⟩ := J.after hq
    cases ev
    exact ⟨rv, ⟨V.ref (s.heap.objs.size + 1), H', J3, rfl, q⟩⟩
def tMkS (C : Addr) (sp : Sp) (E : L2.St → XK) (t : TA) : TE := fun σ H Q => t σ H fun vs H1 => ∀ o dx, H1 o = none → H1 dx = none → dx ≠ o → sp (.ref o :: vs) (upd (upd H1 dx (.own o)) o (.ins C dx [])) (fun v H2 => v = .non ∧ Q (.ref o) H2) (E σ)
theorem pe_mkX (c : CalC X.prog X.w X.K X.mg X.base (L2.CX X.prog X.w) k x C ps sp) (hr : Room j X.A) (hg : Gl X x) (tk : Takes X W) (ha : PA X (e :: es) t) (hj : k + 1 ≤ j := by decide) (hdb : (x == ("__debug__" : Str)) = false := by decide)
    (he : starEach (e :: es) X.env = (false, eval e X.env) :: starEach es X.env := by rfl) (hpl : (backTo pos (starEach es X.env)).any (·.1) = false := by rfl) :
    PE X (.Call (.Name x p) (e :: es) [] pos) (tMkS C sp (WE W) t) := by
  obtain ⟨f, fd, F, M, b⟩ := c.ex
  refine ⟨fun pins s σ H Q I h => wpAny_Call_Name_kw (ld_glob I hg c.gl ?_ hdb)⟩
  refine PySem.W.callWith_K (h₀ := X.base) I.ok.mod.kin M.kp (thn (ha.run pos pins s σ H _ I h) ?_) he hpl
  intro us s1 q0
  obtain ⟨vs, H1, I1, r, q⟩ := q0
  have any := q (s1.heap.objs.size + 1) s1.heap.objs.size (I1.hok.fresh (Nat.le_add_right _ 1)) (I1.hok.fresh (Nat.le_refl s1.heap.objs.size)) (Nat.ne_of_lt (Nat.lt_succ_self _))
  have hl := F.len _ _ _ _ any
  have rl := r.length
  refine ⟨I1.kIn, run_mkG (us := us) (ws := us) (kw := []) M F (hr.mono hj) (passAt tk σ) (fun s2 o hk => ?_) I1 r q⟩
  have z := b s2 (.ref o :: us) hk (by rw [List.append_nil]; simp only [List.length_cons] at hl ⊢; omega)
  rw [List.append_nil] at z
  exact z
/-- by keywords alone: the values in the parameters' order -/
structure CalCX (P : Program) (w : World) (K : PySem.W.Frag) (mg : Str → Option Value) (base : Heap) (CX : CXT) (k : Nat) (x : Str) (C : Addr) (ps ks : List Str) (g : {α : Type} → List α → List α) (sp : Sp) : Prop where
  gl : mg x = some (.ref C)
  ex : ∃ f fd, FnOk P w K mg base CX k f fd ps sp ∧ Mk K C f ∧ ∀ (s : Shared) (o : Addr) (ws : List Value), K.In s.heap → ws.length = ks.length → BindsTo s fd ⟨[.ref o], ks.zip ws⟩ (ps.zip (.ref o :: g ws))
  rel : ∀ {vs : List V} {us : List Value}, Vals vs us → Vals (g vs) (g us)
end
section
variable {σ : L2.St} {H : Hp} {Q : VK} {C : Addr} {sp : Sp} {E : L2.St → XK} {t : TA}
end
theorem ErrAll.cls {K : PySem.W.Frag} {mg : Str → Option Value} (T : ErrAll K mg) (x : Str) (hx : x ∈ errNames) : ErrC K mg x := by
  simp only [errNames, List.mem_cons, List.mem_nil_iff, or_false] at hx
  rcases hx with rfl | rfl | rfl | rfl | rfl | rfl | rfl | rfl | rfl | rfl | rfl
  · exact T.DeedError
  · exact T.InvalidName
  · exact T.InvalidArrow
  · exact T.InvalidPair
  · exact T.InvalidNumber
  · exact T.InvalidWeights
  · exact T.InvalidDeed
  · exact T.NotTold
  · exact T.NothingToUndo
  · exact T.TooMany
  · exact T.Unreadable
end Ds
end F16
section F17
/-! Dicts whose keys are pairs of a text and a bool, whose values are bools. -/
namespace Da
open PySem PySem.Spec PyProof.Rows L2 He Ds
abbrev BKey := Str × Bool
abbrev BRow := BKey × Addr × Bool
def bLf (k : BKey) : List Leaf := [.text k.1, .num (if k.2 = true then 1 else 0)]
def bV (k : BKey) : List V := [.str k.1, .bl k.2]
def bEnt (w : World) (r : BRow) : DictEntry := ⟨reduceHash (Builtin.Tuple.tupleHashOf ((bLf r.1).map fun k => k.key.hash w)), .ref r.2.1, .bool r.2.2⟩
def dbO (w : World) (a : Addr) (rows : List BRow) : HO := .ext fun h => rows.length ≤ sizeLine ∧ (a == sysModules) = false ∧
  ∃ o es ep, h.get? a = some o ∧ o.ExactDict ∧ o.data = .dict es ep ∧ es.toList = rows.map (bEnt w) ∧ (rows.map (·.1)).Nodup
/-- the keys of the rows stand in the heap -/
def BKeys (H : Hp) (rows : List BRow) : Prop := ∀ r ∈ rows, H r.2.1 = some (.tup (bV r.1))
theorem BKeys.up {H H' : Hp} {rows : List BRow} (h : BKeys H rows) (s : Same H H') : BKeys H' rows := fun r hr => s _ _ (h r hr)
section
variable {P : Program} {w : World} {H : Hp} {h : Heap} {a : Addr}
end
section
variable {X : Cx} {o i value : Expr} {pos pos' : Pos} {td ty tv : TE} {w : World}
end
end Da
end F17
section F18
/-! Data without a heap: what a value stands for, and what a program's parts do with it. -/
namespace Da
open PySem PySem.Spec PyProof.Rows L2 He Ds
/-- what a value stands for -/
inductive D where
  | non | bl (b : Bool) | int (i : Int) | str (s : Str) | lst (xs : List D) | tup (xs : List D) | dic (ks : List Key) (xs : List D) | obj (C : Str) (ns : List Str) (xs : List D) | rep (e : PyData) | dicT (ks : List (List Key)) (xs : List D) | dicB (w : World) (t : List (BKey × Bool)) | exc (a : Addr) (k : Str) (x : Addr) (d : D) | fnc (mk : Addr → NdefX.NF)
mutual
def toPy : D → Option PyData
  | .non => some .none
  | .bl b => some (.bool b)
  | .int i => some (.int i)
  | .str s => some (.str s)
  | .lst xs => (toPys xs).map .list
  | .tup xs => (toPys xs).map .tuple
  | .dic _ _ => none
  | .obj _ _ _ => none
  | .rep _ => none
  | .dicT _ _ => none
  | .dicB _ _ => none
  | .exc _ _ _ _ => none
  | .fnc _ => none
def toPys : List D → Option (List PyData)
  | [] => some []
  | x :: xs => (toPy x).bind fun y => (toPys xs).map fun ys => y :: ys
end
/- v stands for d in the heap G; F: where its lists may lie -/
mutual
inductive Dr (K : PySem.W.Frag) (G : Hp) : (Addr → Prop) → V → D → Prop
  | non {F : Addr → Prop} : Dr K G F .non .non
  | bl {F : Addr → Prop} (b : Bool) : Dr K G F (.bl b) (.bl b)
  | int {F : Addr → Prop} (i : Int) : Dr K G F (.int i) (.int i)
  | str {F : Addr → Prop} (x : Str) (h : SOk x) : Dr K G F (.str x) (.str x)
  | lst {F : Addr → Prop} {a : Addr} {xs : List V} {ds : List D} : G a = some (.lst xs) → F a → DrA K G F xs ds → Dr K G F (.ref a) (.lst ds)
  | tup {F : Addr → Prop} {a : Addr} {xs : List V} {ds : List D} : G a = some (.tup xs) → DrA K G F xs ds → Dr K G F (.ref a) (.tup ds)
  | dic {F : Addr → Prop} {a : Addr} {ks : List Key} {xs : List V} {ds : List D} : G a = some (.dK (ks.zip xs)) → ks.length = xs.length → F a → DrA K G F xs ds → Dr K G F (.ref a) (.dic ks ds)
  | obj {F : Addr → Prop} {a dx : Addr} {C : Str} {ns : List Str} {xs : List V} {ds : List D} : G a = some (.ins (ga K C) dx (ns.zip xs)) → ns.length = xs.length → DrA K G (fun _ => True) xs ds → Dr K G F (.ref a) (.obj C ns ds)
  | rep {F : Addr → Prop} (e : PyData) : Dr K G F (.str e.shown) (.rep e)
  | dicT {F : Addr → Prop} {a : Addr} {ks : List (List Key)} {xs : List V} {ds : List D} : G a = some (.dT (ks.zip xs)) → ks.length = xs.length → F a → DrA K G F xs ds → Dr K G F (.ref a) (.dicT ks ds)
  | dicB {F : Addr → Prop} {a : Addr} {w : World} {rows : List BRow} {t : List (BKey × Bool)} : G a = some (dbO w a rows) → BKeys G rows → F a → t = rows.map (fun r => (r.1, r.2.2)) → Dr K G F (.ref a) (.dicB w t)
  | exc {F : Addr → Prop} {a x : Addr} {k : Str} {v : V} {d : D} : G x = some (.xd [("value", v)]) → Dr K G (fun _ => True) v d → Dr K G F (.ref a) (.exc a k x d)
  | fnc {F : Addr → Prop} {a c : Addr} {mk : Addr → NdefX.NF} : G a = some (NdefX.FnO a (mk c)) → G (mk c).c = some (LamX.CodeO (mk c).c (mk c).qual) → Dr K G F (.ref a) (.fnc mk)
inductive DrA (K : PySem.W.Frag) (G : Hp) : (Addr → Prop) → List V → List D → Prop
  | nil {F : Addr → Prop} : DrA K G F [] []
  | cons {F : Addr → Prop} {v : V} {vs : List V} {d : D} {ds : List D} : Dr K G F v d → DrA K G F vs ds → DrA K G F (v :: vs) (d :: ds)
end
section
variable {K : PySem.W.Frag} {G G' : Hp} {F F' : Addr → Prop}
theorem seqT_same (s : Same G G') {a : Addr} {xs : List V} (h : SqT K G a xs) : SqT K G' a xs := by
  rcases h with (h | ⟨o, h⟩) | h
  · exact .inl (.inl (s _ _ h))
  · exact .inl (.inr ⟨o, s _ _ h⟩)
  · exact .inr h
mutual
theorem Dr.mono (s : Same G G') : ∀ {F F' : Addr → Prop} {v : V} {d : D}, (∀ a, F a → F' a) → Dr K G F v d → Dr K G' F' v d
  | _, _, _, _, _, .non => .non
  | _, _, _, _, _, .bl b => .bl b
  | _, _, _, _, _, .int i => .int i
  | _, _, _, _, _, .str x h => .str x h
  | _, _, _, _, f, .lst e h t => .lst (s _ _ e) (f _ h) (DrA.mono s f t)
  | _, _, _, _, f, .tup e t => .tup (s _ _ e) (DrA.mono s f t)
  | _, _, _, _, f, .dic e l h t => .dic (s _ _ e) l (f _ h) (DrA.mono s f t)
  | _, _, _, _, _, .obj e l t => .obj (s _ _ e) l (DrA.mono s (fun _ x => x) t)
  | _, _, _, _, _, .rep e => .rep e
  | _, _, _, _, f, .dicT e l h t => .dicT (s _ _ e) l (f _ h) (DrA.mono s f t)
  | _, _, _, _, f, .dicB e k h t => .dicB (s _ _ e) (k.up s) (f _ h) t
  | _, _, _, _, _, .exc e h => .exc (s _ _ e) (Dr.mono s (fun _ x => x) h)
  | _, _, _, _, _, .fnc e e2 => .fnc (s _ _ e) (s _ _ e2)
theorem DrA.mono (s : Same G G') : ∀ {F F' : Addr → Prop} {vs : List V} {ds : List D}, (∀ a, F a → F' a) → DrA K G F vs ds → DrA K G' F' vs ds
  | _, _, _, _, _, .nil => .nil
  | _, _, _, _, f, .cons h t => .cons (Dr.mono s f h) (DrA.mono s f t)
end
theorem Dr.top {v : V} {d : D} (h : Dr K G F v d) : Dr K G (fun _ => True) v d := h.mono (Same.refl G) fun _ _ => trivial
theorem DrA.top {v : List V} {d : List D} (h : DrA K G F v d) : DrA K G (fun _ => True) v d := h.mono (Same.refl G) fun _ _ => trivial
theorem Dr.up {v : V} {d : D} (h : Dr K G F v d) (s : Same G G') : Dr K G' F v d := h.mono s fun _ x => x
theorem DrA.up {v : List V} {d : List D} (h : DrA K G F v d) (s : Same G G') : DrA K G' F v d := h.mono s fun _ x => x
theorem DrA.len : ∀ {F : Addr → Prop} {vs : List V} {ds : List D}, DrA K G F vs ds → vs.length = ds.length
  | _, _, _, .nil => rfl
  | _, _, _, .cons _ t => by rw [List.length_cons, List.length_cons, DrA.len t]
theorem DrA.get : ∀ {F : Addr → Prop} {vs : List V} {ds : List D} {i : Nat} {v : V}, DrA K G F vs ds → vs[i]? = some v → ∃ d, ds[i]? = some d ∧ Dr K G F v d
  | _, _, _, _, _, .nil, e => by simp at e
  | _, _, _, 0, _, .cons h _, e => by
    simp at e
    subst e
    exact ⟨_, rfl, h⟩
  | _, _, _, i + 1, _, .cons _ t, e => by
    obtain ⟨d, e1, e2⟩ := DrA.get t (i := i) (by simpa using e)
    exact ⟨d, by simpa using e1, e2⟩
theorem DrA.get' {F : Addr → Prop} {vs : List V} {ds : List D} {i : Nat} {d : D} (h : DrA K G F vs ds) (e : ds[i]? = some d) : ∃ v, vs[i]? = some v ∧ Dr K G F v d := by
  have l := h.len
  obtain ⟨h1, _⟩ := List.getElem?_eq_some_iff.mp e
  have h2 : vs[i]? = some vs[i] := List.getElem?_eq_getElem (by omega)
  obtain ⟨d', e1, e2⟩ := h.get h2
  rw [e] at e1
  cases e1
  exact ⟨_, h2, e2⟩
theorem DrA.append : ∀ {F : Addr → Prop} {vs ws : List V} {ds es : List D}, DrA K G F vs ds → DrA K G F ws es → DrA K G F (vs ++ ws) (ds ++ es)
  | _, _, _, _, _, .nil, s => s
  | _, _, _, _, _, .cons h t, s => .cons h (DrA.append t s)
theorem DrA.take : ∀ {F : Addr → Prop} {vs : List V} {ds : List D} (n : Nat), DrA K G F vs ds → DrA K G F (vs.take n) (ds.take n)
  | _, _, _, 0, _ => .nil
  | _, _, _, _ + 1, .nil => .nil
  | _, _, _, n + 1, .cons h t => .cons h (DrA.take n t)
theorem DrA.drop : ∀ {F : Addr → Prop} {vs : List V} {ds : List D} (n : Nat), DrA K G F vs ds → DrA K G F (vs.drop n) (ds.drop n)
  | _, _, _, 0, h => h
  | _, _, _, _ + 1, .nil => .nil
  | _, _, _, n + 1, .cons _ t => DrA.drop n t
theorem DrA.set : ∀ {F : Addr → Prop} {vs : List V} {ds : List D} {v : V} {d : D} (n : Nat), DrA K G F vs ds → Dr K G F v d → DrA K G F (vs.set n v) (ds.set n d)
  | _, _, _, _, _, _, .nil, _ => .nil
  | _, _, _, _, _, 0, .cons _ t, h => .cons h t
  | _, _, _, _, _, n + 1, .cons k t, h => .cons k (DrA.set n t h)
theorem DrA.erase : ∀ {F : Addr → Prop} {vs : List V} {ds : List D} (n : Nat), DrA K G F vs ds → DrA K G F (vs.eraseIdx n) (ds.eraseIdx n)
  | _, _, _, _, .nil => .nil
  | _, _, _, 0, .cons _ t => t
  | _, _, _, n + 1, .cons h t => .cons h (DrA.erase n t)
theorem DrA.ints {F : Addr → Prop} : ∀ {xs : List Int}, DrA K G F (xs.map V.int) (xs.map D.int)
  | [] => .nil
  | x :: xs => .cons (.int x) DrA.ints
theorem DrA.bls_of {F : Addr → Prop} : ∀ {vs : List V} {xs : List Bool}, DrA K G F vs (xs.map D.bl) → vs = xs.map V.bl
  | _, [], h => by cases h; rfl
  | _, x :: xs, h => by
    cases h with
    | cons h t =>
      cases h with
      | bl _ => rw [DrA.bls_of t]; rfl
theorem omap {α β : Type} {f : α → β} {o : Option α} {b : β} (h : o.map f = some b) : ∃ a, o = some a ∧ b = f a := by
  cases o with
  | none => cases h
  | some a => exact ⟨a, rfl, (Option.some.inj h).symm⟩
mutual
/-- plain data may be asked for == and shown -/
theorem Dr.py : ∀ {F : Addr → Prop} {v : V} {d : D} {e : PyData}, Dr K G F v d → toPy d = some e → Dp K G v e ∧ e.canLay0 = true
  | _, _, _, _, .non, h => by cases h; exact ⟨.non, by simp [PyData.canLay0]⟩
  | _, _, _, _, .bl b, h => by cases h; exact ⟨.bl b, by simp [PyData.canLay0]⟩
  | _, _, _, _, .int i, h => by cases h; exact ⟨.int i, by simp [PyData.canLay0]⟩
  | _, _, _, _, .str x k, h => by cases h; exact ⟨.str x, by simpa [PyData.canLay0] using k⟩
  | _, _, _, _, .lst g _ t, h => by
    rw [toPy] at h
    obtain ⟨ys, e1, rfl⟩ := omap h
    obtain ⟨h1, h2⟩ := DrA.py t e1
    exact ⟨.lst (SqL.of g) h1, by simpa [PyData.canLay0] using h2⟩
  | _, _, _, _, .tup g t, h => by
    rw [toPy] at h
    obtain ⟨ys, e1, rfl⟩ := omap h
    obtain ⟨h1, h2⟩ := DrA.py t e1
    exact ⟨.tup (SqT.of g) h1, by simpa [PyData.canLay0] using h2⟩
  | _, _, _, _, .dic _ _ _ _, h => by rw [toPy] at h; cases h
  | _, _, _, _, .obj _ _ _, h => by rw [toPy] at h; cases h
  | _, _, _, _, .rep _, h => by rw [toPy] at h; cases h
  | _, _, _, _, .dicT _ _ _ _, h => by rw [toPy] at h; cases h
  | _, _, _, _, .dicB _ _ _ _, h => by rw [toPy] at h; cases h
  | _, _, _, _, .exc _ _, h => by rw [toPy] at h; cases h
  | _, _, _, _, .fnc _ _, h => by rw [toPy] at h; cases h
theorem DrA.py : ∀ {F : Addr → Prop} {v : List V} {d : List D} {e : List PyData}, DrA K G F v d → toPys d = some e → DpAll K G v e ∧ PyData.canLayAll0 e = true
  | _, _, _, _, .nil, h => by cases h; exact ⟨.nil, by simp [PyData.canLayAll0]⟩
  | _, _, _, _, .cons a t, h => by
    rw [toPys] at h
    obtain ⟨y, e1, h⟩ := Option.bind_eq_some_iff.mp h
    obtain ⟨ys, e2, rfl⟩ := omap h
    obtain ⟨h1, h2⟩ := Dr.py a e1
    obtain ⟨h3, h4⟩ := DrA.py t e2
    exact ⟨.cons h1 h3, by simp [PyData.canLayAll0, h2, h4]⟩
end
end
/-! ### slots -/
/-- what is known of a name: nothing; a datum (fr: its lists are the call's own); a list, a dict that the call has for itself, its items; the drawn ints, which the call changes; the instance that is being made -/
inductive Slot where
  | no | dat (fr : Bool) (d : D) | own (fr : Bool) (ds : List D) | dct (fr : Bool) (ks : List Key) (ds : List D) | dcT (fr : Bool) (ks : List (List Key)) (ds : List D) | dcB (w : World) (t : List (BKey × Bool)) | own2 (fr : Bool) (k : Option (List (List Key))) (dss : List (List D)) | pool (ns : List Int) | slf (C : Str) (ns : List Str) (ds : List D)
/-- one call: the written part, the heap that it met, what of it is data, what it may change -/
structure Cc where
  K : PySem.W.Frag
  H0 : Hp
  G0 : Hp
  IO : Addr → Prop
  io0 : ∀ p, IO p → H0 p ≠ none
def Fl (c : Cc) (fr : Bool) : Addr → Prop := fun a => fr = true → c.G0 a = none
abbrev En := Option V × Slot
/-- the lists of the call's own that stand in one -/
inductive InL (c : Cc) (G H : Hp) (fr : Bool) : List Addr → List (List D) → Prop
  | nil : InL c G H fr [] []
  | cons {a : Addr} {as : List Addr} {vs : List V} {ds : List D} {dss : List (List D)} : c.H0 a = none → G a = none → H a = some (.lst vs) → DrA c.K G (Fl c fr) vs ds → InL c G H fr as dss → InL c G H fr (a :: as) (ds :: dss)
def refs (as : List Addr) : List V := as.map V.ref
def o2 (k : Option (List (List Key))) (as : List Addr) : HO := match k with
  | none => .lst (refs as)
  | some ks => .dT (ks.zip (refs as))
def o2len (k : Option (List (List Key))) (n : Nat) : Prop := match k with
  | none => True
  | some ks => ks.length = n
/-- what stands at the address of a thing that may change -/
def Held (c : Cc) (G H : Hp) (p : Addr) : Slot → Prop
  | .own fr ds => c.H0 p = none ∧ ∃ vs, H p = some (.lst vs) ∧ DrA c.K G (Fl c fr) vs ds
  | .dct fr ks ds => c.H0 p = none ∧ ∃ vs, H p = some (.dK (ks.zip vs)) ∧ ks.length = vs.length ∧ DrA c.K G (Fl c fr) vs ds
  | .dcT fr ks ds => c.H0 p = none ∧ ∃ vs, H p = some (.dT (ks.zip vs)) ∧ ks.length = vs.length ∧ DrA c.K G (Fl c fr) vs ds
  | .dcB w t => c.H0 p = none ∧ ∃ rows, H p = some (dbO w p rows) ∧ BKeys G rows ∧ t = rows.map (fun r => (r.1, r.2.2))
  | .own2 fr k dss => c.H0 p = none ∧ ∃ as, H p = some (o2 k as) ∧ o2len k as.length ∧ InL c G H fr as dss
  | .pool ns => c.IO p ∧ H p = some (.lst (ns.map V.int))
  | .slf C ns ds => c.IO p ∧ ∃ dx vs, H p = some (.ins (ga c.K C) dx (ns.zip vs)) ∧ ns.length = vs.length ∧ DrA c.K G (fun _ => True) vs ds
  | _ => False
def isOwn : Slot → Bool
  | .no => false
  | .dat _ _ => false
  | _ => true
def SlotOk (c : Cc) (G H : Hp) (x : En) : Prop :=
  match x.2 with
  | .no => True
  | .dat fr d => ∃ v, x.1 = some v ∧ Dr c.K G (Fl c fr) v d
  | s => ∃ p, x.1 = some (.ref p) ∧ G p = none ∧ H p ≠ none ∧ Held c G H p s
def refOf : V → Option Addr
  | .ref a => some a
  | _ => none
def subs : Option HO → List Addr
  | some (.lst vs) => vs.filterMap refOf
  | some (.dT kvs) => kvs.filterMap fun kv => refOf kv.2
  | _ => []
def isNest : Slot → Bool
  | .own2 _ _ _ => true
  | _ => false
/-- the addresses that an entry has for itself -/
def ownL (H : Hp) (x : En) : List Addr :=
  if isOwn x.2 = true then (match x.1 with | some (.ref p) => p :: (if isNest x.2 = true then subs (H p) else []) | _ => []) else []
abbrev ownE (H : Hp) (E : List En) : List Addr := E.flatMap (ownL H)
theorem subs_refs : ∀ {as : List Addr}, (refs as).filterMap refOf = as
  | [] => rfl
  | a :: as => by
    show (V.ref a :: refs as).filterMap refOf = _
    rw [List.filterMap_cons]
    exact congrArg (a :: ·) subs_refs
theorem subs_zip : ∀ {ks : List (List Key)} {as : List Addr}, ks.length = as.length → (ks.zip (refs as)).filterMap (fun kv => refOf kv.2) = as
  | [], [], _ => rfl
  | k :: ks, a :: as, h => by
    show ((k, V.ref a) :: ks.zip (refs as)).filterMap (fun kv => refOf kv.2) = _
    rw [List.filterMap_cons]
    exact congrArg (a :: ·) (subs_zip (by simpa using h))
  | [], _ :: _, h => by simp at h
  | _ :: _, [], h => by simp at h
theorem subs_o2 {k : Option (List (List Key))} {as : List Addr} (h : o2len k as.length) : subs (some (o2 k as)) = as := by
  cases k with
  | none => exact subs_refs
  | some ks => exact subs_zip h
theorem ownL_flat {H H' : Hp} {x : En} (h : isNest x.2 = false) : ownL H x = ownL H' x := by unfold ownL; rw [h]; rfl
theorem ownL_self {H : Hp} {p : Addr} {s : Slot} (hs : isOwn s = true) : p ∈ ownL H (some (.ref p), s) := by unfold ownL; rw [if_pos hs]; exact List.mem_cons_self
theorem ownL_one {H : Hp} {p : Addr} {s : Slot} (hs : isOwn s = true) (hn : isNest s = false) : ownL H (some (.ref p), s) = [p] := by unfold ownL; rw [if_pos hs]; show p :: (if isNest s = true then _ else []) = _; rw [hn]; rfl
theorem ownL_none {H : Hp} {x : En} (hs : isOwn x.2 = false) : ownL H x = [] := by unfold ownL; rw [hs]; rfl
/-- the tables of code objects that may grow: their addresses, the names of what is made at a place -/
class Tabl where
  T : PySem.W.Frag → List NdefX.NTab
instance (priority := low) noTabl : Tabl := ⟨fun _ => []⟩
def TbAt (G H : Hp) (t : NdefX.NTab) : Prop := G t.1 = none ∧ ∃ ps : Array Value, H t.1 = some (.tbl ps) ∧ TriplesOk ps.toList ∧ ∀ (pos : Pos) (cv : Value), codeAmong pos ps.toList = some cv → ∃ c, cv = .ref c ∧ G c = some (LamX.CodeO c (t.2 pos.line pos.col))
def NoT (o : HO) : Prop := ∀ ps, o ≠ .tbl ps
variable [Tabl]
def TbsAt (K : PySem.W.Frag) (G H : Hp) : Prop := ∀ t ∈ Tabl.T K, TbAt G H t
theorem TbsAt.keep {K : PySem.W.Frag} {G H G' H' : Hp} (h : TbsAt K G H) (s : Same G G') (k : ∀ b, H b ≠ none → (∀ o, H b = some o → ¬ NoT o) → H' b = H b ∧ G' b = G b) : TbsAt K G' H' := fun t ht => by
  obtain ⟨h1, ps, h2, h3, h4⟩ := h t ht
  obtain ⟨k1, k2⟩ := k t.1 (by rw [h2]; intro z; cases z) fun o e z => by rw [h2] at e; cases e; exact z _ rfl
  exact ⟨by rw [k2, h1], ps, by rw [k1, h2], h3, fun pos cv e => by obtain ⟨c, e1, e2⟩ := h4 pos cv e; exact ⟨c, e1, s _ _ e2⟩⟩
theorem tbs_no {K : PySem.W.Frag} {G H : Hp} : @TbsAt noTabl K G H := fun t ht => absurd (show t ∈ ([] : List NdefX.NTab) from ht) (by simp)
/-- the tables, with what their code objects are -/
def TbsE (K : PySem.W.Frag) (H : Hp) : Prop := ∃ G, Same G H ∧ TbsAt K G H ∧ ∀ b o, G b = some o → ∃ q, o = LamX.CodeO b q
theorem TbsE.of {K : PySem.W.Frag} {G H : Hp} (s : Same G H) (h : TbsAt K G H) : TbsE K H := by
  classical
  refine ⟨fun b => if ∃ q, G b = some (LamX.CodeO b q) then G b else none, fun b o e => ?_, fun t ht => ?_, fun b o e => ?_⟩
  · dsimp only at e
    split at e
    · exact s b o e
    · cases e
  · obtain ⟨h1, ps, h2, h3, h4⟩ := h t ht
    refine ⟨?_, ps, h2, h3, fun pos cv e => ?_⟩
    · dsimp only
      rw [h1]
      exact ite_self _
    · obtain ⟨c, e1, e2⟩ := h4 pos cv e
      exact ⟨c, e1, by dsimp only; rw [if_pos ⟨_, e2⟩]; exact e2⟩
  · dsimp only at e
    split at e
    · rename_i z
      obtain ⟨q, z⟩ := z
      rw [z] at e
      exact ⟨q, (Option.some.inj e).symm⟩
    · cases e
theorem TbsE.grow {K : PySem.W.Frag} {H H' : Hp} (h : TbsE K H) (s : Same H H') : TbsE K H' := by
  obtain ⟨G, h1, h2, h3⟩ := h
  refine ⟨G, fun b o e => s b o (h1 b o e), fun t ht => ?_, h3⟩
  obtain ⟨k1, ps, k2, k3⟩ := h2 t ht
  exact ⟨k1, ps, s _ _ k2, k3⟩
theorem tbse_no {K : PySem.W.Frag} {H : Hp} : @TbsE noTabl K H := ⟨fun _ => none, (fun _ _ z => by cases z), tbs_no, fun _ _ z => by cases z⟩
theorem tbse_pool {G H : Hp} {p : Addr} {xs : List V} (s : Same G H) (h : ∀ b o, G b = some o → ∃ q, o = LamX.CodeO b q) (e : H p = some (.lst xs)) : G p = none := by
  cases q : G p with
  | none => rfl
  | some o =>
    obtain ⟨z, rfl⟩ := h p o q
    have e2 := s p _ q
    rw [e] at e2
    unfold LamX.CodeO at e2
    cases e2
/-- what stood stands, but for the X and the tables -/
structure Old (X : Addr → Prop) (H H' : Hp) : Prop where
  kp : ∀ b o, H b = some o → NoT o → ¬ X b → H' b = some o
  al : ∀ b, H b ≠ none → H' b ≠ none
theorem Old.refl {X : Addr → Prop} {H : Hp} : Old X H H := ⟨fun _ _ e _ _ => e, fun _ h => h⟩
theorem Old.of {X : Addr → Prop} {H H' : Hp} (s : Same H H') : Old X H H' := ⟨fun b o e _ _ => s b o e, fun b h z => by
  cases q : H b with
  | none => exact h q
  | some o => rw [s b o q] at z; cases z⟩
theorem Old.trans {X : Addr → Prop} {H H' H'' : Hp} (h : Old X H H') (k : Old X H' H'') : Old X H H'' := ⟨fun b o e n x => k.kp b o (h.kp b o e n x) n x, fun b z => k.al b (h.al b z)⟩
theorem Old.seq {K : PySem.W.Frag} {H H' : Hp} {a : Addr} {xs : List V} (h : Old (fun _ => False) H H') (hS : SqL K H a xs) : SqL K H' a xs := by
  rcases hS with (e | ⟨o, e⟩) | r
  · exact .inl (.inl (h.kp a _ e (fun ps z => by cases z) id))
  · exact .inl (.inr ⟨o, h.kp a _ e (fun ps z => by cases z) id⟩)
  · exact .inr r
theorem Old.free {X : Addr → Prop} {H H' : Hp} {p : Addr} (h : Old X H H') (e : H' p = none) : H p = none := by
  cases q : H p with
  | none => rfl
  | some o => exact absurd e (h.al p (by rw [q]; intro z; cases z))
theorem Old.less {H H' H'' : Hp} {p : Addr} (h : Old (fun _ => False) H H') (k : Old (fun b => b = p) H' H'') (e : H p = none) : Old (fun _ => False) H H'' :=
  ⟨fun b o eb n x => k.kp b o (h.kp b o eb n x) n (fun z => by rw [z, e] at eb; cases eb), fun b z => k.al b (h.al b z)⟩
structure Rel (c : Cc) (G H : Hp) (E : List En) : Prop where
  fr : ∀ b o, c.H0 b = some o → NoT o → ¬ c.IO b → H b = some o
  al : ∀ b, c.H0 b ≠ none → H b ≠ none
  gs : Same G H
  g0 : Same c.G0 G
  gg : ∀ b, c.H0 b ≠ none → G b = c.G0 b
  sl : ∀ x ∈ E, SlotOk c G H x
  nd : (ownE H E).Nodup
  tb : TbsAt c.K G H
theorem slot_own {c : Cc} {G H : Hp} {o : Option V} {s : Slot} (hs : isOwn s = true) : SlotOk c G H (o, s) ↔ ∃ p, o = some (.ref p) ∧ G p = none ∧ H p ≠ none ∧ Held c G H p s := by
  cases s with
  | no => cases hs
  | dat _ _ => cases hs
  | _ => exact Iff.rfl
theorem InL.mem {c : Cc} {G H : Hp} {fr : Bool} {p : Addr} : ∀ {as : List Addr} {dss : List (List D)}, InL c G H fr as dss → p ∈ as → c.H0 p = none ∧ G p = none ∧ H p ≠ none
  | _, _, .nil, h => by simp at h
  | _, _, .cons h0 g h d t, hm => by
    rcases List.mem_cons.mp hm with rfl | hm
    · exact ⟨h0, g, by rw [h]; intro z; cases z⟩
    · exact t.mem hm
theorem SlotOk.own {c : Cc} {G H : Hp} {x : En} {p : Addr} (h : SlotOk c G H x) (e : p ∈ ownL H x) : H p ≠ none ∧ G p = none := by
  obtain ⟨o, s⟩ := x
  by_cases hs : isOwn s = true
  · obtain ⟨q, rfl, h1, h2, h3⟩ := (slot_own hs).mp h
    unfold ownL at e
    rw [if_pos hs] at e
    rcases List.mem_cons.mp e with rfl | e
    · exact ⟨h2, h1⟩
    · cases s with
      | own2 fr k dss =>
        obtain ⟨_, as, h4, h5, h6⟩ := h3
        have e' : p ∈ subs (H q) := e
        rw [h4, subs_o2 h5] at e'
        exact ⟨(h6.mem e').2.2, (h6.mem e').2.1⟩
      | _ => exact absurd e (by simp [isNest])
  · rw [ownL_none (by simpa using hs)] at e
    simp at e
theorem InL.noT {c : Cc} {G H : Hp} {fr : Bool} {p : Addr} : ∀ {as : List Addr} {dss : List (List D)}, InL c G H fr as dss → p ∈ as → ∀ o, H p = some o → NoT o
  | _, _, .nil, h => by simp at h
  | _, _, .cons h0 g h d t, hm => by
    rcases List.mem_cons.mp hm with rfl | hm
    · intro o e ps z
      rw [h] at e
      cases e
      cases z
    · exact t.noT hm
theorem o2_noT {k : Option (List (List Key))} {as : List Addr} : NoT (o2 k as) := fun ps z => by cases k <;> cases z
theorem SlotOk.noT {c : Cc} {G H : Hp} {x : En} {p : Addr} (h : SlotOk c G H x) (e : p ∈ ownL H x) : ∀ o, H p = some o → NoT o := by
  obtain ⟨v, s⟩ := x
  by_cases hs : isOwn s = true
  · obtain ⟨q, rfl, h1, h2, h3⟩ := (slot_own hs).mp h
    unfold ownL at e
    rw [if_pos hs] at e
    rcases List.mem_cons.mp e with rfl | e
    · intro o eo ps z
      subst z
      cases s with
      | own fr ds => obtain ⟨_, vs, h4, _⟩ := h3; rw [h4] at eo; cases eo
      | dct fr ks ds => obtain ⟨_, vs, h4, _⟩ := h3; rw [h4] at eo; cases eo
      | dcT fr ks ds => obtain ⟨_, vs, h4, _⟩ := h3; rw [h4] at eo; cases eo
      | dcB w t => obtain ⟨_, rows, h4, _⟩ := h3; rw [h4] at eo; unfold dbO at eo; cases eo
      | own2 fr k dss => obtain ⟨_, as, h4, _⟩ := h3; rw [h4] at eo; exact o2_noT _ (Option.some.inj eo)
      | pool ns => rw [h3.2] at eo; cases eo
      | slf C ns ds => obtain ⟨_, dx, vs, h4, _⟩ := h3; rw [h4] at eo; cases eo
      | no => cases hs
      | dat _ _ => cases hs
    · cases s with
      | own2 fr k dss =>
        obtain ⟨_, as, h4, h5, h6⟩ := h3
        have e' : p ∈ subs (H q) := e
        rw [h4, subs_o2 h5] at e'
        exact h6.noT e'
      | _ => exact absurd e (by simp [isNest])
  · rw [ownL_none (by simpa using hs)] at e
    simp at e
theorem InL.keep {c : Cc} {G H G' H' : Hp} {fr : Bool} (sg : Same G G') : ∀ {as : List Addr} {dss : List (List D)}, InL c G H fr as dss → (∀ a ∈ as, H' a = H a ∧ G' a = G a) → InL c G' H' fr as dss
  | _, _, .nil, _ => .nil
  | _, _, .cons h0 g h d t, k => .cons h0 (by rw [(k _ List.mem_cons_self).2, g]) (by rw [(k _ List.mem_cons_self).1, h]) (d.up sg) (t.keep sg fun a ha => k a (List.mem_cons_of_mem _ ha))
theorem Held.keep {c : Cc} {G H G' H' : Hp} {p : Addr} {s : Slot} (h : Held c G H p s) (sg : Same G G') (e : H' p = H p) (n : isNest s = true → ∀ a ∈ subs (H p), H' a = H a ∧ G' a = G a) : Held c G' H' p s := by
  cases s with
  | own2 fr k dss =>
    obtain ⟨h1, as, h2, h3, h4⟩ := h
    refine ⟨h1, as, by rw [e, h2], h3, h4.keep sg ?_⟩
    have := n rfl
    rwa [h2, subs_o2 h3] at this
  | no => exact h
  | dat _ _ => exact h
  | own fr ds =>
    obtain ⟨h1, vs, h2, h3⟩ := h
    exact ⟨h1, vs, by rw [e, h2], h3.up sg⟩
  | dct fr ks ds =>
    obtain ⟨h1, vs, h2, hl, h3⟩ := h
    exact ⟨h1, vs, by rw [e, h2], hl, h3.up sg⟩
  | dcT fr ks ds =>
    obtain ⟨h1, vs, h2, hl, h3⟩ := h
    exact ⟨h1, vs, by rw [e, h2], hl, h3.up sg⟩
  | dcB w t =>
    obtain ⟨h1, rows, h2, hk, h3⟩ := h
    exact ⟨h1, rows, by rw [e, h2], hk.up sg, h3⟩
  | pool ns => exact ⟨h.1, by rw [e]; exact h.2⟩
  | slf C ns ds =>
    obtain ⟨h1, dx, vs, h2, hl, h3⟩ := h
    exact ⟨h1, dx, vs, by rw [e, h2], hl, h3.up sg⟩
/-- a slot stays what it is while what it stands on stays -/
theorem SlotOk.keep {c : Cc} {G H G' H' : Hp} {x : En} (h : SlotOk c G H x) (s : Same G G') (k : ∀ p ∈ ownL H x, H' p = H p ∧ G' p = G p) : SlotOk c G' H' x := by
  obtain ⟨o, t⟩ := x
  by_cases ht : isOwn t = true
  · obtain ⟨p, rfl, h1, h2, h3⟩ := (slot_own ht).mp h
    obtain ⟨k1, k2⟩ := k p (ownL_self ht)
    refine (slot_own ht).mpr ⟨p, rfl, by rw [k2, h1], by rw [k1]; exact h2, h3.keep s k1 fun hn a ha => k a ?_⟩
    unfold ownL
    rw [if_pos ht]
    refine List.mem_cons_of_mem _ ?_
    show a ∈ (if isNest t = true then _ else [])
    rw [if_pos hn]
    exact ha
  · cases t with
    | no => exact trivial
    | dat fr d =>
      obtain ⟨v, e, r⟩ := h
      exact ⟨v, e, r.up s⟩
    | _ => exact absurd rfl ht
/-- .. and what it has for itself -/
theorem ownL_keep {H H' : Hp} {x : En} (k : ∀ p ∈ ownL H x, H' p = H p) : ownL H' x = ownL H x := by
  obtain ⟨o, t⟩ := x
  by_cases ht : isOwn t = true
  · cases o with
    | none => unfold ownL; rw [if_pos ht]
    | some v => cases v with
      | ref p =>
        have e := k p (ownL_self ht)
        unfold ownL
        rw [if_pos ht, if_pos ht]
        dsimp only
        rw [e]
      | _ => unfold ownL; rw [if_pos ht]
  · rw [ownL_none (by simpa using ht), ownL_none (by simpa using ht)]
theorem ownE_keep {H H' : Hp} : ∀ {E : List En}, (∀ x ∈ E, ∀ p ∈ ownL H x, H' p = H p) → ownE H' E = ownE H E
  | [], _ => rfl
  | x :: E, k => by
    unfold ownE
    rw [List.flatMap_cons, List.flatMap_cons, ownL_keep (k x List.mem_cons_self)]
    exact congrArg _ (ownE_keep fun y hy => k y (List.mem_cons_of_mem _ hy))
theorem ownE_flat {H H' : Hp} : ∀ {E : List En}, (∀ x ∈ E, isNest x.2 = false) → ownE H E = ownE H' E
  | [], _ => rfl
  | x :: E, k => by
    unfold ownE
    rw [List.flatMap_cons, List.flatMap_cons, ownL_flat (H := H) (H' := H') (k x List.mem_cons_self)]
    exact congrArg _ (ownE_flat fun y hy => k y (List.mem_cons_of_mem _ hy))
section
variable {c : Cc} {G H G' H' : Hp} {E E' : List En}
theorem mem_own {x : En} {p : Addr} (hx : x ∈ E) (e : p ∈ ownL H x) : p ∈ ownE H E := List.mem_flatMap.mpr ⟨x, hx, e⟩
theorem Rel.sub (R : Rel c G H E) (h : ∀ x ∈ E', x ∈ E) (nd : (ownE H E').Nodup) : Rel c G H E' :=
  ⟨R.fr, R.al, R.gs, R.g0, R.gg, fun x hx => R.sl x (h x hx), nd, R.tb⟩
theorem flatMap_sub {α β : Type} {f : α → List β} {l m : List α} (h : l.Sublist m) : (l.flatMap f).Sublist (m.flatMap f) := by
  induction h with
  | slnil => exact .slnil
  | cons a _ ih => rw [List.flatMap_cons]; exact ih.trans (List.sublist_append_right _ _)
  | cons_cons a _ ih => rw [List.flatMap_cons, List.flatMap_cons]; exact (List.Sublist.refl _).append ih
theorem Rel.subl (R : Rel c G H E) (h : E'.Sublist E) : Rel c G H E' := R.sub (fun x hx => h.subset hx) (R.nd.sublist (flatMap_sub h))
theorem Rel.perm (R : Rel c G H E) (h : E'.Perm E) : Rel c G H E' := R.sub (fun x hx => h.mem_iff.mp hx) ((h.flatMap_right _).nodup_iff.mpr R.nd)
theorem Rel.tail {x : En} (R : Rel c G H (x :: E)) : Rel c G H E := R.subl (List.sublist_cons_self _ _)
/-- what others have done: more data, more objects, tables that have grown -/
theorem Rel.growN (R : Rel c G H E) (sH : ∀ b o, H b = some o → NoT o → H' b = some o) (al : ∀ b, H b ≠ none → H' b ≠ none) (tb : TbsAt c.K G' H') (sG : Same G G') (gs : Same G' H') (gg : ∀ b, H b ≠ none → G' b = G b) : Rel c G' H' E := by
  have kk : ∀ x ∈ E, ∀ p ∈ ownL H x, H' p = H p ∧ G' p = G p := fun x hx p e => by
    obtain ⟨h1, _⟩ := (R.sl x hx).own e
    have nt := (R.sl x hx).noT e
    refine ⟨?_, gg p h1⟩
    cases q : H p with
    | none => exact absurd q h1
    | some o => exact sH _ _ q (nt o q)
  refine ⟨fun b o e n hb => sH _ _ (R.fr b o e n hb) n, fun b h => al b (R.al b h), gs, R.g0.trans sG, fun b h => ?_, fun x hx => ?_, ?_, tb⟩
  · rw [gg b (R.al b h), R.gg b h]
  · exact (R.sl x hx).keep sG (kk x hx)
  · rw [ownE_keep fun x hx p e => (kk x hx p e).1]
    exact R.nd
theorem Rel.grow (R : Rel c G H E) (sH : Same H H') (sG : Same G G') (gs : Same G' H') (gg : ∀ b, H b ≠ none → G' b = G b) : Rel c G' H' E := by
  have al : ∀ b, H b ≠ none → H' b ≠ none := fun b h z => by
    cases q : H b with
    | none => exact h q
    | some o => rw [sH _ _ q] at z; cases z
  refine R.growN (fun b o e _ => sH b o e) al (R.tb.keep sG fun b hb _ => ⟨?_, gg b hb⟩) sG gs gg
  cases q : H b with
  | none => exact absurd q hb
  | some o => exact sH _ _ q
theorem Rel.growO (R : Rel c G H E) (o : Old (fun _ => False) H H') (tb : TbsAt c.K G' H') (sG : Same G G') (gs : Same G' H') (gg : ∀ b, H b ≠ none → G' b = G b) : Rel c G' H' E :=
  R.growN (fun b u e n => o.kp b u e n id) o.al tb sG gs gg
theorem Rel.h0 (R : Rel c G H E) {p : Addr} (h : H p = none) : c.H0 p = none := by
  cases q : c.H0 p with
  | none => rfl
  | some o => exact absurd h (R.al p (by rw [q]; intro z; cases z))
theorem Rel.gn (R : Rel c G H E) {p : Addr} (h : H p = none) : G p = none := R.gs.free h
theorem Rel.g0n (R : Rel c G H E) {p : Addr} (h : G p = none) : c.G0 p = none := R.g0.free h
theorem Rel.cons (R : Rel c G H E) {x : En} (h : SlotOk c G H x) (nx : (ownL H x).Nodup) (n : ∀ p ∈ ownL H x, p ∉ ownE H E) : Rel c G H (x :: E) := by
  refine ⟨R.fr, R.al, R.gs, R.g0, R.gg, fun y hy => ?_, ?_, R.tb⟩
  · rcases List.mem_cons.mp hy with rfl | hy
    · exact h
    · exact R.sl y hy
  · unfold ownE
    rw [List.flatMap_cons]
    exact List.nodup_append.mpr ⟨nx, R.nd, fun a ha b hb e => n a ha (e ▸ hb)⟩
theorem Rel.cons0 (R : Rel c G H E) {x : En} (h : SlotOk c G H x) (hs : isOwn x.2 = false) : Rel c G H (x :: E) :=
  R.cons h (by rw [ownL_none hs]; exact List.nodup_nil) fun p e => by rw [ownL_none hs] at e; simp at e
theorem Rel.dat (R : Rel c G H E) {v : V} {fr : Bool} {d : D} (h : Dr c.K G (Fl c fr) v d) : Rel c G H ((some v, .dat fr d) :: E) :=
  R.cons0 ⟨v, rfl, h⟩ rfl
theorem Rel.no (R : Rel c G H E) {o : Option V} : Rel c G H ((o, .no) :: E) := R.cons0 trivial rfl
/-- a new object that is data -/
theorem Rel.new (R : Rel c G H E) {p : Addr} {o : HO} (h : H p = none) : Rel c (upd G p o) (upd H p o) E := by
  have sG : Same G (upd G p o) := same_new (Same.refl G) (R.gn h)
  refine R.grow (same_new (Same.refl H) h) sG (fun b u e => ?_) (fun b hb => upd_ne (fun e => hb (e ▸ h)))
  by_cases hb : b = p
  · subst hb
    rw [upd_same] at e ⊢
    exact e
  · rw [upd_ne hb] at e ⊢
    exact R.gs b u e
/-- a new object that is nobody's yet -/
theorem Rel.new0 (R : Rel c G H E) {p : Addr} {o : HO} (h : H p = none) : Rel c G (upd H p o) E :=
  R.grow (same_new (Same.refl H) h) (Same.refl G) (R.gs.trans (same_new (Same.refl H) h)) fun _ _ => rfl
theorem Rel.notin (R : Rel c G H E) {p : Addr} (h : H p = none) : p ∉ ownE H E := fun hm => by
  obtain ⟨x, hx, e⟩ := List.mem_flatMap.mp hm
  exact ((R.sl x hx).own e).1 h
/-- .. the call's own -/
theorem Rel.newHeld (R : Rel c G H E) {p : Addr} {o : HO} {s : Slot} (h : H p = none) (hs : isOwn s = true) (hd : Held c G (upd H p o) p s) (hn : subs (some o) = [] ∨ isNest s = false := by exact Or.inr rfl) : Rel c G (upd H p o) ((some (.ref p), s) :: E) := by
  have R0 : Rel c G (upd H p o) E := R.new0 h
  have hp : ownL (upd H p o) (some (.ref p), s) = [p] := by
    unfold ownL
    rw [if_pos hs]
    dsimp only
    rw [upd_same]
    rcases hn with hn | hn
    · rw [hn]; simp
    · rw [hn]; rfl
  refine R0.cons ((slot_own hs).mpr ⟨p, rfl, R.gn h, (by rw [upd_same]; intro z; cases z), hd⟩) (by rw [hp]; simp) fun q e => ?_
  rw [hp, List.mem_singleton] at e
  subst e
  have e2 : ownE (upd H q o) E = ownE H E := ownE_keep fun x hx p e => upd_ne fun z => by
    subst z
    exact ((R.sl x hx).own e).1 h
  rw [e2]
  exact R.notin h
theorem Rel.newOwn (R : Rel c G H E) {p : Addr} {vs : List V} {fr : Bool} {ds : List D} (h : H p = none) (hd : DrA c.K G (Fl c fr) vs ds) : Rel c G (upd H p (.lst vs)) ((some (.ref p), .own fr ds) :: E) :=
  R.newHeld h rfl ⟨R.h0 h, vs, upd_same, hd⟩
/-- one that may change, ahead of the others -/
theorem Rel.head {o : Option V} {s : Slot} (R : Rel c G H ((o, s) :: E)) (hs : isOwn s = true) : ∃ p, o = some (.ref p) ∧ G p = none ∧ H p ≠ none ∧ Held c G H p s ∧ ∀ q ∈ ownL H (o, s), q ∉ ownE H E := by
  obtain ⟨p, rfl, h1, h2, h3⟩ := (slot_own hs).mp (R.sl _ List.mem_cons_self)
  have nd := R.nd
  unfold ownE at nd
  rw [List.flatMap_cons] at nd
  exact ⟨p, rfl, h1, h2, h3, fun q hq hm => (List.nodup_append.mp nd).2.2 q hq q hm rfl⟩
/-- own things become data -/
def updA (G H : Hp) (as : List Addr) : Hp := fun b => if b ∈ as then H b else G b
theorem Rel.freezeA {as : List Addr} {x : En} (R : Rel c G H (x :: E)) (ha : ∀ a ∈ as, c.H0 a = none ∧ a ∈ ownL H x) : Rel c (updA G H as) H E ∧ Same G (updA G H as) := by
  have own : ∀ a ∈ as, G a = none := fun a h => ((R.sl x List.mem_cons_self).own (ha a h).2).2
  have sG : Same G (updA G H as) := fun b o e => by
    unfold updA
    by_cases h : b ∈ as
    · rw [own b h] at e; cases e
    · rw [if_neg h]; exact e
  have nd := R.nd
  unfold ownE at nd
  rw [List.flatMap_cons] at nd
  have tb : TbsAt c.K (updA G H as) H := R.tb.keep sG fun b _ ht => ⟨rfl, by
    unfold updA
    refine if_neg fun h => ?_
    have n := (R.sl x List.mem_cons_self).noT (ha b h).2
    obtain ⟨h1, _⟩ := (R.sl x List.mem_cons_self).own (ha b h).2
    cases q : H b with
    | none => exact h1 q
    | some o => exact ht o q (n o q)⟩
  refine ⟨⟨R.fr, R.al, fun b o z => ?_, R.g0.trans sG, fun b hb => ?_, fun y hy => ?_, R.tail.nd, tb⟩, sG⟩
  · unfold updA at z
    by_cases h : b ∈ as
    · rw [if_pos h] at z; exact z
    · rw [if_neg h] at z; exact R.gs b o z
  · have h : b ∉ as := fun h => hb (ha b h).1
    show (if b ∈ as then _ else _) = _
    rw [if_neg h, R.gg b hb]
  · refine (R.sl y (List.mem_cons_of_mem _ hy)).keep sG fun q eq => ⟨rfl, ?_⟩
    have h : q ∉ as := fun h => (List.nodup_append.mp nd).2.2 q (ha q h).2 q (mem_own hy eq) rfl
    show (if q ∈ as then _ else _) = _
    rw [if_neg h]
theorem Rel.freezeO {p : Addr} {s : Slot} {u : HO} (R : Rel c G H ((some (.ref p), s) :: E)) (hs : isOwn s = true) (e : H p = some u) (h0 : c.H0 p = none) : Rel c (upd G p u) H E ∧ Same G (upd G p u) := by
  have h := R.freezeA (as := [p]) fun a ha => by
    rw [List.mem_singleton] at ha
    subst ha
    exact ⟨h0, ownL_self hs⟩
  have eq : updA G H [p] = upd G p u := by
    funext b
    unfold updA upd
    by_cases hb : b = p
    · subst hb; rw [if_pos List.mem_cons_self, if_pos rfl, e]
    · rw [if_neg (by simpa using hb), if_neg hb]
  rw [eq] at h
  exact h
theorem Rel.freeze {p : Addr} {vs : List V} {fr : Bool} {ds : List D} (R : Rel c G H ((some (.ref p), .own fr ds) :: E)) (e : H p = some (.lst vs)) : Rel c (upd G p (.lst vs)) H E ∧ Same G (upd G p (.lst vs)) ∧ Dr c.K (upd G p (.lst vs)) (Fl c fr) (.ref p) (.lst ds) := by
  obtain ⟨q, eq, h1, h2, ⟨h3, vs', h4, h5⟩, h6⟩ := R.head rfl
  cases eq
  rw [e] at h4
  cases h4
  obtain ⟨R', sG⟩ := R.freezeO rfl e h3
  exact ⟨R', sG, .lst upd_same (fun _ => R.g0n h1) (h5.up sG)⟩
/-- own things change: those of one entry alone -/
theorem Rel.mutA {x x' : En} {H' : Hp} (R : Rel c G H (x :: E)) (k : ∀ b, H' b ≠ H b → b ∈ ownL H x ∨ H b = none) (al : ∀ b, H b ≠ none → H' b ≠ none) (hio : ∀ b ∈ ownL H x, H' b ≠ H b → c.IO b ∨ c.H0 b = none) (ok : SlotOk c G H' x') (nx : (ownL H' x').Nodup) (nn : ∀ p ∈ ownL H' x', p ∈ ownL H x ∨ H p = none) : Rel c G H' (x' :: E) := by
  have nd := R.nd
  unfold ownE at nd
  rw [List.flatMap_cons] at nd
  have dis : ∀ y ∈ E, ∀ p ∈ ownL H y, H' p = H p := fun y hy p hp => Classical.byContradiction fun z => by
    rcases k p z with h | h
    · exact (List.nodup_append.mp nd).2.2 p h p (mem_own hy hp) rfl
    · exact ((R.sl y (List.mem_cons_of_mem _ hy)).own hp).1 h
  have hx : ∀ b, H b ≠ none → H' b ≠ H b → b ∈ ownL H x := fun b h z => (k b z).elim id fun y => absurd y h
  have tb : TbsAt c.K G H' := R.tb.keep (Same.refl G) fun b hb ht => ⟨Classical.byContradiction fun z => by
    rcases k b z with h | h
    · have n := (R.sl x List.mem_cons_self).noT h
      cases q : H b with
      | none => exact hb q
      | some o => exact ht o q (n o q)
    · exact hb h, rfl⟩
  refine ⟨fun b o e n hb => ?_, fun b hb => al b (R.al b hb), fun b u z => ?_, R.g0, R.gg, fun y hy => ?_, ?_, tb⟩
  · have h1 := R.fr b o e n hb
    by_cases q : H' b = H b
    · rw [q]; exact h1
    · rcases hio b (hx b (by rw [h1]; intro z; cases z) q) q with h | h
      · exact absurd h hb
      · rw [h] at e; cases e
  · have h1 := R.gs b u z
    by_cases q : H' b = H b
    · rw [q]; exact h1
    · have := ((R.sl x List.mem_cons_self).own (hx b (by rw [h1]; intro z; cases z) q)).2
      rw [this] at z; cases z
  · rcases List.mem_cons.mp hy with rfl | hy
    · exact ok
    · exact (R.sl y (List.mem_cons_of_mem _ hy)).keep (Same.refl G) fun p hp => ⟨dis y hy p hp, rfl⟩
  · unfold ownE
    rw [List.flatMap_cons]
    have e2 : E.flatMap (ownL H') = ownE H E := ownE_keep dis
    rw [e2]
    refine List.nodup_append.mpr ⟨nx, R.tail.nd, fun a ha b hb e => ?_⟩
    subst e
    rcases nn a ha with h | h
    · exact (List.nodup_append.mp nd).2.2 a h a hb rfl
    · exact R.tail.notin h hb
/-- an own thing changes -/
theorem Rel.mutO {p : Addr} {s s' : Slot} {u : HO} (R : Rel c G H ((some (.ref p), s) :: E)) (hs : isOwn s = true) (hs' : isOwn s' = true) (hio : c.IO p ∨ c.H0 p = none) (h : Held c G (upd H p u) p s') (hn : isNest s' = false := by rfl) : Rel c G (upd H p u) ((some (.ref p), s') :: E) := by
  obtain ⟨q, eq, h1, h2, h3, h4⟩ := R.head hs
  cases eq
  refine R.mutA (fun b z => ?_) (fun b z => ?_) (fun b _ z => ?_) ((slot_own hs').mpr ⟨p, rfl, h1, (by rw [upd_same]; intro z; cases z), h⟩) (by rw [ownL_one hs' hn]; simp) fun b hb => ?_
  · by_cases e : b = p
    · subst e; exact .inl (ownL_self hs)
    · exact absurd (upd_ne e) z
  · by_cases e : b = p
    · subst e; rw [upd_same]; intro y; cases y
    · rw [upd_ne e]; exact z
  · by_cases e : b = p
    · subst e; exact hio
    · exact absurd (upd_ne e) z
  · rw [ownL_one hs' hn, List.mem_singleton] at hb
    subst hb
    exact .inl (ownL_self hs)
theorem Rel.mut {p : Addr} {vs : List V} {fr fr' : Bool} {ds ds' : List D} (R : Rel c G H ((some (.ref p), .own fr ds) :: E)) (h : DrA c.K G (Fl c fr') vs ds') : Rel c G (upd H p (.lst vs)) ((some (.ref p), .own fr' ds') :: E) := by
  obtain ⟨q, eq, h1, h2, ⟨h3, h5⟩, h4⟩ := R.head rfl
  cases eq
  exact R.mutO rfl rfl (.inr h3) ⟨h3, vs, upd_same, h⟩
end
end Da
end F18
section F19
namespace Da
open PySem PySem.Spec PyProof.Rows L2 He Ds
variable [Tabl]
/-! ### what a part comes to -/
inductive Res (α : Type) where
  | no | er (k : Str) (d : D) (ρ : List Slot) | ok (a : α) (ρ : List Slot)
abbrev M (α : Type) := List Slot → Res α
def mb {α β : Type} (m : M α) (f : α → M β) : M β := fun ρ => match m ρ with
  | .no => .no
  | .er k d ρ' => .er k d ρ'
  | .ok a ρ' => f a ρ'
def mp {α : Type} (a : α) : M α := fun ρ => .ok a ρ
def mno {α : Type} : M α := fun _ => .no
def mo {α : Type} (o : Option α) : M α := match o with
  | none => mno
  | some a => mp a
section
variable {α β : Type} {c : Cc} {G G' H H' : Hp} {σ : L2.St} {T : List En} {W : WX} {P P' : α → List Slot → Hp → Hp → Prop}
def Post (c : Cc) (G : Hp) (T : List En) (σ : L2.St) (W : WX) (P : α → List Slot → Hp → Hp → Prop) : Res α → Prop
  | .no => False
  | .er k d ρ' => σ.length = ρ'.length → ∀ v x G' H', Rel c G' H' (σ.zip ρ' ++ T) → Same G G' → Dr c.K G' (fun _ => True) v d → G' x = some (.xd [("value", v)]) → W (.ref (ga c.K k)) (some x) σ H'
  | .ok a ρ' => σ.length = ρ'.length → ∀ G' H', Rel c G' H' (σ.zip ρ' ++ T) → Same G G' → P a ρ' G' H'
theorem Post.later {r : Res α} (h : Post c G T σ W P r) (s : Same G G') : Post c G' T σ W P r := by
  cases r with
  | no => exact h
  | er k d ρ' => exact fun hl v x G2 H2 R s2 => h hl v x G2 H2 R (s.trans s2)
  | ok a ρ' => exact fun hl G2 H2 R s2 => h hl G2 H2 R (s.trans s2)
theorem Post.imp {r : Res α} (h : Post c G T σ W P r) (f : ∀ a ρ' G' H', σ.length = ρ'.length → Rel c G' H' (σ.zip ρ' ++ T) → Same G G' → P a ρ' G' H' → P' a ρ' G' H') : Post c G T σ W P' r := by
  cases r with
  | no => exact h
  | er k d ρ' => exact h
  | ok a ρ' => exact fun hl G2 H2 R s2 => f _ _ _ _ hl R s2 (h hl G2 H2 R s2)
theorem Post.bind {m : M α} {f : α → M β} {P : β → List Slot → Hp → Hp → Prop} {ρ : List Slot} (h : Post c G T σ W P (mb m f ρ)) : Post c G T σ W (fun a ρ' G' H' => Post c G' T σ W P (f a ρ')) (m ρ) := by
  unfold mb at h
  cases e : m ρ with
  | no => rw [e] at h; exact h
  | er k d ρ' => rw [e] at h; exact h
  | ok a ρ' => rw [e] at h; exact fun hl G2 H2 R s2 => h.later s2
/-- the same place, other things beside -/
theorem Post.beside {r : Res α} {T' : List En} (h : Post c G T σ W P r) (t : ∀ ρ', (σ.zip ρ' ++ T).Sublist (σ.zip ρ' ++ T')) : Post c G T' σ W P r := by
  cases r with
  | no => exact h
  | er k d ρ' => exact fun hl v x G2 H2 R s2 => h hl v x G2 H2 (R.subl (t ρ')) s2
  | ok a ρ' => exact fun hl G2 H2 R s2 => h hl G2 H2 (R.subl (t ρ')) s2
end
/-! ### judgements -/
/-- an expression whose value is kept -/
def DE (K : PySem.W.Frag) (W : WX) (te : TE) (m : M (Bool × D)) : Prop :=
  ∀ (c : Cc) (G H : Hp) (σ : L2.St) (ρ : List Slot) (T : List En) (Q : VK), c.K = K → σ.length = ρ.length → Rel c G H (σ.zip ρ ++ T) →
    Post c G T σ W (fun a _ G' H' => ∀ v, Dr c.K G' (Fl c a.1) v a.2 → Q v H') (m ρ) → te σ H Q
/-- what a value is that is only looked at: its items are data -/
def Itm (c : Cc) (G H : Hp) (fr : Bool) (v : V) (d : D) : Prop :=
  Dr c.K H (fun _ => True) v d ∧ match d with
    | .lst ds => ∃ p vs, v = .ref p ∧ H p = some (.lst vs) ∧ DrA c.K G (Fl c fr) vs ds
    | .tup ds => ∃ p vs, v = .ref p ∧ SqT c.K H p vs ∧ DrA c.K G (Fl c fr) vs ds
    | .dic ks ds => ∃ p vs, v = .ref p ∧ H p = some (.dK (ks.zip vs)) ∧ ks.length = vs.length ∧ DrA c.K G (Fl c fr) vs ds
    | .dicT ks ds => ∃ p vs, v = .ref p ∧ H p = some (.dT (ks.zip vs)) ∧ ks.length = vs.length ∧ DrA c.K G (Fl c fr) vs ds
    | .dicB w t => ∃ p rows, v = .ref p ∧ H p = some (dbO w p rows) ∧ BKeys G rows ∧ t = rows.map (fun r => (r.1, r.2.2))
    | .obj C ns ds => ∃ p dx vs, v = .ref p ∧ H p = some (.ins (ga c.K C) dx (ns.zip vs)) ∧ ns.length = vs.length ∧ DrA c.K G (fun _ => True) vs ds
    | _ => True
abbrev Look := List Slot → Option (Bool × D)
def Lk (c : Cc) (T : List En) (σ : L2.St) (G' : Hp) (f : Look) (v : V) : Prop :=
  ∀ G'' H'' ρ'' fr d, Rel c G'' H'' (σ.zip ρ'' ++ T) → σ.length = ρ''.length → Same G' G'' → f ρ'' = some (fr, d) → Itm c G'' H'' fr v d
/-- an expression whose value is only looked at -/
def DB (K : PySem.W.Frag) (W : WX) (te : TE) (m : M Look) : Prop :=
  ∀ (c : Cc) (G H : Hp) (σ : L2.St) (ρ : List Slot) (T : List En) (Q : VK), c.K = K → σ.length = ρ.length → Rel c G H (σ.zip ρ ++ T) →
    Post c G T σ W (fun f _ G' H' => ∀ v, Lk c T σ G' f v → Q v H') (m ρ) → te σ H Q
/-- an expression that makes a list -/
def DL (K : PySem.W.Frag) (W : WX) (te : TE) (m : M (Bool × List D)) : Prop :=
  ∀ (c : Cc) (G H : Hp) (σ : L2.St) (ρ : List Slot) (T : List En) (Q : VK), c.K = K → σ.length = ρ.length → Rel c G H (σ.zip ρ ++ T) →
    Post c G T σ W (fun a ρ' G' H' => ∀ p vs H2, Rel c G' H2 ((some (.ref p), .own a.1 a.2) :: (σ.zip ρ' ++ T)) → H2 p = some (.lst vs) → Q (.ref p) H2) (m ρ) → te σ H Q
/-- a test -/
def DT (K : PySem.W.Frag) (W : WX) (tt : TT) (m : M Bool) : Prop :=
  ∀ (c : Cc) (G H : Hp) (σ : L2.St) (ρ : List Slot) (T : List En) (Q : Bool → Hp → Prop), c.K = K → σ.length = ρ.length → Rel c G H (σ.zip ρ ++ T) →
    Post c G T σ W (fun b _ _ H' => Q b H') (m ρ) → tt σ H Q
/-- arguments: each a datum, or a thing of the call's own -/
def DA (K : PySem.W.Frag) (W : WX) (ta : TA) (m : M (List Slot)) : Prop :=
  ∀ (c : Cc) (G H : Hp) (σ : L2.St) (ρ : List Slot) (T : List En) (Q : List V → Hp → Prop), c.K = K → σ.length = ρ.length → Rel c G H (σ.zip ρ ++ T) →
    Post c G T σ W (fun ss ρ' G' H' => ∀ vs, vs.length = ss.length → Rel c G' H' ((vs.map some).zip ss ++ (σ.zip ρ' ++ T)) → Q vs H') (m ρ) → ta σ H Q
section
variable {K : PySem.W.Frag} {W : WX} {c : Cc} {G H : Hp} {σ : L2.St} {ρ : List Slot} {T : List En}
/-! ### slots by their place -/
theorem zip_get {i : Nat} {s : Slot} (hl : σ.length = ρ.length) (e : ρ[i]? = some s) : ∃ o, σ[i]? = some o ∧ (σ.zip ρ)[i]? = some (o, s) := by
  obtain ⟨h1, h2⟩ := List.getElem?_eq_some_iff.mp e
  have h3 : σ[i]? = some σ[i] := List.getElem?_eq_getElem (by omega)
  exact ⟨_, h3, by rw [List.getElem?_zip_eq_some]; exact ⟨h3, e⟩⟩
theorem zip_mem {i : Nat} {s : Slot} {o : Option V} (e : (σ.zip ρ)[i]? = some (o, s)) : (o, s) ∈ σ.zip ρ ++ T := List.mem_append_left _ (List.mem_of_getElem? e)
/-- the rest, when the i-th is taken out -/
def rest (σ : L2.St) (ρ : List Slot) (T : List En) (i : Nat) : List En := (σ.zip ρ).eraseIdx i ++ T
theorem Rel.out {i : Nat} {s : Slot} {o : Option V} (R : Rel c G H (σ.zip ρ ++ T)) (e : (σ.zip ρ)[i]? = some (o, s)) : Rel c G H ((o, s) :: rest σ ρ T i) :=
  R.perm ((cons_erase e).append_right T)
theorem set_perm {α : Type} : ∀ {l : List α} {i : Nat} {x : α}, i < l.length → (l.set i x).Perm (x :: l.eraseIdx i)
  | [], _, _, h => by simp at h
  | y :: l, 0, x, _ => by exact List.Perm.refl _
  | y :: l, i + 1, x, h => by
    rw [List.set_cons_succ, List.eraseIdx_cons_succ]
    exact ((set_perm (l := l) (i := i) (x := x) (by simpa using h)).cons y).trans (List.Perm.swap x y _)
theorem zip_set {α β : Type} : ∀ {l : List α} {m : List β} {i : Nat} {a : α} {b : β}, (l.set i a).zip (m.set i b) = (l.zip m).set i (a, b)
  | [], m, i, a, b => by simp
  | x :: l, [], i, a, b => by simp
  | x :: l, y :: m, 0, a, b => by simp
  | x :: l, y :: m, i + 1, a, b => by simp [zip_set]
theorem Rel.back {i : Nat} {s : Slot} {o : Option V} (hl : σ.length = ρ.length) (hi : i < σ.length) (R : Rel c G H ((o, s) :: rest σ ρ T i)) : Rel c G H ((σ.set i o).zip (ρ.set i s) ++ T) := by
  rw [zip_set]
  refine R.perm ((set_perm ?_).append_right T)
  rw [List.length_zip]
  omega
theorem set_self {α : Type} : ∀ {l : List α} {i : Nat} {x : α}, l[i]? = some x → l.set i x = l
  | [], _, _, h => by simp at h
  | y :: l, 0, x, h => by
    have e : y = x := by simpa using h
    rw [e]; rfl
  | y :: l, i + 1, x, h => by
    rw [List.set_cons_succ, set_self (by simpa using h)]
theorem Rel.back' {i : Nat} {s : Slot} {o : Option V} (hl : σ.length = ρ.length) (e : σ[i]? = some o) (R : Rel c G H ((o, s) :: rest σ ρ T i)) : Rel c G H (σ.zip (ρ.set i s) ++ T) := by
  have h := Rel.back hl (List.getElem?_eq_some_iff.mp e).1 R
  rwa [set_self e] at h
/-! ### names and constants -/
def mVar (i : Nat) : M (Bool × D) := fun ρ => match ρ[i]? with
  | some (.dat fr d) => .ok (fr, d) ρ
  | _ => .no
theorem de_var (i : Nat) : DE K W (tVar i) (mVar i) := by
  intro c G H σ ρ T Q hK hl R h
  unfold mVar at h
  cases e : ρ[i]? with
  | none => rw [e] at h; exact h.elim
  | some s =>
    rw [e] at h
    cases s with
    | dat fr d =>
      obtain ⟨o, e1, e2⟩ := zip_get hl e
      obtain ⟨v, ev, r⟩ := R.sl _ (zip_mem (T := T) e2)
      cases ev
      exact ⟨v, e1, h hl G H R (Same.refl G) v r⟩
    | _ => exact h.elim
theorem itm_dat {c : Cc} {G H : Hp} {fr : Bool} {v : V} {d : D} (s : Same G H) (r : Dr c.K G (Fl c fr) v d) : Itm c G H fr v d := by
  refine ⟨r.top.up s, ?_⟩
  cases r with
  | lst h _ t => exact ⟨_, _, rfl, s _ _ h, t⟩
  | tup h t => exact ⟨_, _, rfl, seqT_same s (SqT.of h), t⟩
  | dic h l _ t => exact ⟨_, _, rfl, s _ _ h, l, t⟩
  | obj h l t => exact ⟨_, _, _, rfl, s _ _ h, l, t⟩
  | dicT h l _ t => exact ⟨_, _, rfl, s _ _ h, l, t⟩
  | dicB h k _ t => exact ⟨_, _, rfl, s _ _ h, k, t⟩
  | _ => exact trivial
/-- what is kept may be looked at -/
def mE (m : M (Bool × D)) : M Look := mb m fun a => mp fun _ => some a
theorem DE.b {te : TE} {m : M (Bool × D)} (h : DE K W te m) : DB K W te (mE m) := by
  intro c G H σ ρ T Q hK hl R p
  refine h c G H σ ρ T Q hK hl R (Post.imp (Post.bind p) fun a ρ' G' H' hl' R' s q v r => ?_)
  refine q hl' G' H' R' (Same.refl G') v fun G'' H'' ρ'' fr d R'' _ s'' e => ?_
  cases e
  exact itm_dat R''.gs (r.up s'')
def lookV (i : Nat) : Look := fun ρ => match ρ[i]? with
  | some (.dat fr d) => some (fr, d)
  | some (.own fr ds) => some (fr, .lst ds)
  | some (.dct fr ks ds) => some (fr, .dic ks ds)
  | some (.dcT fr ks ds) => some (fr, .dicT ks ds)
  | some (.dcB w t) => some (true, .dicB w t)
  | some (.pool ns) => some (true, .lst (ns.map D.int))
  | _ => none
def isSet : Slot → Bool
  | .no => false
  | _ => true
def mLook (i : Nat) : M Look := fun ρ => if (match ρ[i]? with | some s => isSet s | none => false) = true then .ok (lookV i) ρ else .no
theorem db_var (i : Nat) : DB K W (tVar i) (mLook i) := by
  intro c G H σ ρ T Q hK hl R h
  unfold mLook at h
  cases e : ρ[i]? with
  | none => rw [e, if_neg (by decide)] at h; exact h.elim
  | some s =>
    rw [e] at h
    dsimp only at h
    obtain ⟨o, e1, e2⟩ := zip_get hl e
    by_cases hs : isSet s = true
    · rw [if_pos hs] at h
      have hv : ∃ v, o = some v := by
        have k := R.sl _ (zip_mem (T := T) e2)
        cases s with
        | no => cases hs
        | dat fr d => obtain ⟨v, ev, _⟩ := k; exact ⟨v, ev⟩
        | _ => obtain ⟨p, ev, _⟩ := k; exact ⟨_, ev⟩
      obtain ⟨v, rfl⟩ := hv
      refine ⟨v, e1, h hl G H R (Same.refl G) v fun G'' H'' ρ'' fr d R'' hl'' _ ef => ?_⟩
      unfold lookV at ef
      cases e' : ρ''[i]? with
      | none => rw [e'] at ef; cases ef
      | some s' =>
        rw [e'] at ef
        obtain ⟨o', e1', e2'⟩ := zip_get hl'' e'
        have eo : o' = some v := Option.some.inj (e1'.symm.trans e1)
        subst eo
        have k := R''.sl _ (zip_mem (T := T) e2')
        cases s' with
        | dat fr d =>
          cases ef
          obtain ⟨v', ev, r⟩ := k
          cases ev
          exact itm_dat R''.gs r
        | own fr ds =>
          cases ef
          obtain ⟨p, ev, _, _, _, vs, h1, h2⟩ := k
          cases ev
          exact ⟨.lst h1 trivial (h2.top.up R''.gs), p, vs, rfl, h1, h2⟩
        | dct fr ks ds =>
          cases ef
          obtain ⟨p, ev, _, _, _, vs, h1, hl, h2⟩ := k
          cases ev
          exact ⟨.dic h1 hl trivial (h2.top.up R''.gs), p, vs, rfl, h1, hl, h2⟩
        | dcT fr ks ds =>
          cases ef
          obtain ⟨p, ev, _, _, _, vs, h1, hl, h2⟩ := k
          cases ev
          exact ⟨.dicT h1 hl trivial (h2.top.up R''.gs), p, vs, rfl, h1, hl, h2⟩
        | dcB w t =>
          cases ef
          obtain ⟨p, ev, _, _, _, rows, h1, hk, h2⟩ := k
          cases ev
          exact ⟨.dicB h1 (hk.up R''.gs) trivial h2, p, rows, rfl, h1, hk, h2⟩
        | pool ns =>
          cases ef
          obtain ⟨p, ev, _, _, _, h1⟩ := k
          cases ev
          exact ⟨.lst h1 trivial DrA.ints, p, _, rfl, h1, DrA.ints⟩
        | _ => cases ef
    · rw [if_neg hs] at h
      exact h.elim
theorem de_c {v : V} {d : D} (h : ∀ K G F, Dr K G F v d) : DE K W (tC v) (mp (true, d)) := by
  intro c G H σ ρ T Q hK hl R p
  exact p hl G H R (Same.refl G) v (h _ _ _)
theorem de_int {i : Int} : DE K W (tC (.int i)) (mp (true, .int i)) := de_c fun _ _ _ => .int i
theorem de_bl {b : Bool} : DE K W (tC (.bl b)) (mp (true, .bl b)) := de_c fun _ _ _ => .bl b
theorem de_non : DE K W (tC .non) (mp (true, .non)) := de_c fun _ _ _ => .non
theorem de_str {x : Str} (h : PyData.strOk x = true := by decide +kernel) : DE K W (tC (.str x)) (mp (true, .str x)) := de_c fun _ _ _ => .str x h
/-! ### operators whose answer is no object -/
def Scal (v : V) (d : D) : Prop := ∀ K G F, Dr K G F v d
theorem Scal.int (i : Int) : Scal (.int i) (.int i) := fun _ _ _ => .int i
theorem Scal.bl (b : Bool) : Scal (.bl b) (.bl b) := fun _ _ _ => .bl b
def OpS (K : PySem.W.Frag) (r : R2) (f : D → D → Option D) : Prop :=
  ∀ (c : Cc) (G H : Hp) (f1 f2 : Bool) (x y : V) (a b d : D) (Q : VK), c.K = K → Itm c G H f1 x a → Itm c G H f2 y b → f a b = some d → (∀ v, Scal v d → Q v H) → r x y H Q
def mOp (f : D → D → Option D) (ma mc : M Look) : M (Bool × D) := mb ma fun fa => mb mc fun fb => fun ρ => match fa ρ, fb ρ with
  | some a, some b => (match f a.2 b.2 with | some d => .ok (true, d) ρ | none => .no)
  | _, _ => .no
theorem de_op {r : R2} {f : D → D → Option D} {ta tb : TE} {ma mc : M Look} (hr : OpS K r f) (ha : DB K W ta ma) (hb : DB K W tb mc) : DE K W (tOp r ta tb) (mOp f ma mc) := by
  intro c G H σ ρ T Q hK hl R p
  refine ha c G H σ ρ T _ hK hl R (Post.imp (Post.bind p) fun fa ρ1 G1 H1 hl1 R1 s1 q1 x lx => ?_)
  refine hb c G1 H1 σ ρ1 T _ hK hl1 R1 (Post.imp (Post.bind q1) fun fb ρ2 G2 H2 hl2 R2 s2 q2 y ly => ?_)
  cases e1 : fa ρ2 with
  | none => rw [e1] at q2; exact q2.elim
  | some a => cases e2 : fb ρ2 with
    | none => rw [e1, e2] at q2; exact q2.elim
    | some b => cases e3 : f a.2 b.2 with
      | none =>
        rw [e1, e2] at q2
        dsimp only at q2
        rw [e3] at q2
        exact q2.elim
      | some d =>
        rw [e1, e2] at q2
        dsimp only at q2
        rw [e3] at q2
        exact hr c G2 H2 a.1 b.1 x y a.2 b.2 d Q hK (lx G2 H2 ρ2 _ _ R2 hl2 s2 e1) (ly G2 H2 ρ2 _ _ R2 hl2 (Same.refl G2) e2) e3 fun v hv => q2 hl2 G2 H2 R2 (Same.refl G2) v (hv _ _ _)
/-- one argument -/
def UnS (K : PySem.W.Frag) (r : V → Hp → VK → Prop) (f : D → Option D) : Prop :=
  ∀ (c : Cc) (G H : Hp) (f1 : Bool) (x : V) (a d : D) (Q : VK), c.K = K → Itm c G H f1 x a → f a = some d → (∀ v, Scal v d → Q v H) → r x H Q
def mUn (f : D → Option D) (ma : M Look) : M (Bool × D) := mb ma fun fa => fun ρ => match fa ρ with
  | some a => (match f a.2 with | some d => .ok (true, d) ρ | none => .no)
  | none => .no
theorem un_core {r : V → Hp → VK → Prop} {f : D → Option D} {ta te : TE} {ma : M Look} (hr : UnS K r f) (ha : DB K W ta ma) (he : ∀ σ H Q, ta σ H (fun x H1 => r x H1 Q) → te σ H Q) : DE K W te (mUn f ma) := by
  intro c G H σ ρ T Q hK hl R p
  refine he _ _ _ (ha c G H σ ρ T _ hK hl R (Post.imp (Post.bind p) fun fa ρ1 G1 H1 hl1 R1 s1 q1 x lx => ?_))
  cases e1 : fa ρ1 with
  | none => rw [e1] at q1; exact q1.elim
  | some a => cases e3 : f a.2 with
    | none =>
      rw [e1] at q1
      dsimp only at q1
      rw [e3] at q1
      exact q1.elim
    | some d =>
      rw [e1] at q1
      dsimp only at q1
      rw [e3] at q1
      exact hr c G1 H1 a.1 x a.2 d Q hK (lx G1 H1 ρ1 _ _ R1 hl1 (Same.refl G1) e1) e3 fun v hv => q1 hl1 G1 H1 R1 (Same.refl G1) v (hv _ _ _)
theorem de_un {r : V → Hp → VK → Prop} {f : D → Option D} {ta : TE} {ma : M Look} (hr : UnS K r f) (ha : DB K W ta ma) : DE K W (tUn r ta) (mUn f ma) := un_core hr ha fun _ _ _ h => h
/-- a built-in of one argument -/
theorem de_b1 {rc : List V → Hp → VK → Prop} {f : D → Option D} {ta : TE} {ma : M Look} (hr : UnS K (fun x H Q => rc [x] H Q) f) (ha : DB K W ta ma) : DE K W (tCB rc (tCons ta tNil)) (mUn f ma) :=
  un_core hr ha fun σ H Q h => h
end
end Da
end F19
section F20
namespace Da
open PySem PySem.Spec PyProof.Rows L2 He Ds
variable [Tabl]
/-! ### operands -/
def mBin {β : Type} (k : Bool × D → Bool × D → M β) (ma mc : M Look) : M β := mb ma fun fa => mb mc fun fb => fun ρ => match fa ρ, fb ρ with
  | some a, some b => k a b ρ
  | _, _ => .no
def mOne {β : Type} (k : Bool × D → M β) (ma : M Look) : M β := mb ma fun fa => fun ρ => match fa ρ with
  | some a => k a ρ
  | none => .no
section
variable {K : PySem.W.Frag} {W : WX} {c : Cc} {G H : Hp} {σ : L2.St} {ρ : List Slot} {T : List En}
theorem bin_core {β : Type} {k : Bool × D → Bool × D → M β} {P : β → List Slot → Hp → Hp → Prop} {r' : V → V → Hp → Prop} {ta tb : TE} {ma mc : M Look} (ha : DB K W ta ma) (hb : DB K W tb mc) (hK : c.K = K) (hl : σ.length = ρ.length) (R : Rel c G H (σ.zip ρ ++ T))
    (p : Post c G T σ W P (mBin k ma mc ρ)) (fin : ∀ a b x y G2 H2 ρ2, σ.length = ρ2.length → Rel c G2 H2 (σ.zip ρ2 ++ T) → Same G G2 → Itm c G2 H2 a.1 x a.2 → Itm c G2 H2 b.1 y b.2 → Post c G2 T σ W P (k a b ρ2) → r' x y H2) : ta σ H fun x H1 => tb σ H1 fun y H2 => r' x y H2 := by
  refine ha c G H σ ρ T _ hK hl R (Post.imp (Post.bind p) fun fa ρ1 G1 H1 hl1 R1 s1 q1 x lx => ?_)
  refine hb c G1 H1 σ ρ1 T _ hK hl1 R1 (Post.imp (Post.bind q1) fun fb ρ2 G2 H2 hl2 R2 s2 q2 y ly => ?_)
  cases e1 : fa ρ2 with
  | none => rw [e1] at q2; exact q2.elim
  | some a => cases e2 : fb ρ2 with
    | none => rw [e1, e2] at q2; exact q2.elim
    | some b =>
      rw [e1, e2] at q2
      exact fin a b x y G2 H2 ρ2 hl2 R2 (s1.trans s2) (lx G2 H2 ρ2 _ _ R2 hl2 s2 e1) (ly G2 H2 ρ2 _ _ R2 hl2 (Same.refl G2) e2) q2
theorem one_core {β : Type} {k : Bool × D → M β} {P : β → List Slot → Hp → Hp → Prop} {r' : V → Hp → Prop} {ta : TE} {ma : M Look} (ha : DB K W ta ma) (hK : c.K = K) (hl : σ.length = ρ.length) (R : Rel c G H (σ.zip ρ ++ T))
    (p : Post c G T σ W P (mOne k ma ρ)) (fin : ∀ a x G2 H2 ρ2, σ.length = ρ2.length → Rel c G2 H2 (σ.zip ρ2 ++ T) → Same G G2 → Itm c G2 H2 a.1 x a.2 → Post c G2 T σ W P (k a ρ2) → r' x H2) : ta σ H fun x H1 => r' x H1 := by
  refine ha c G H σ ρ T _ hK hl R (Post.imp (Post.bind p) fun fa ρ1 G1 H1 hl1 R1 s1 q1 x lx => ?_)
  cases e1 : fa ρ1 with
  | none => rw [e1] at q1; exact q1.elim
  | some a =>
    rw [e1] at q1
    exact fin a x G1 H1 ρ1 hl1 R1 s1 (lx G1 H1 ρ1 _ _ R1 hl1 (Same.refl G1) e1) q1
end
/-! ### what has no list in it is everybody's -/
mutual
def flatD : D → Bool
  | .non => true
  | .bl _ => true
  | .int _ => true
  | .str _ => true
  | .tup xs => flatDs xs
  | .lst _ => false
  | .dic _ _ => false
  | .obj _ _ _ => true
  | .rep _ => true
  | .dicT _ _ => false
  | .dicB _ _ => false
  | .exc _ _ _ _ => false
  | .fnc _ => true
def flatDs : List D → Bool
  | [] => true
  | x :: xs => flatD x && flatDs xs
end
section
variable {K : PySem.W.Frag} {G : Hp}
mutual
theorem Dr.flat : ∀ {F F' : Addr → Prop} {v : V} {d : D}, flatD d = true → Dr K G F v d → Dr K G F' v d
  | _, _, _, _, _, .non => .non
  | _, _, _, _, _, .bl b => .bl b
  | _, _, _, _, _, .int i => .int i
  | _, _, _, _, _, .str x h => .str x h
  | _, _, _, _, h, .lst _ _ _ => by simp [flatD] at h
  | _, _, _, _, h, .tup e t => .tup e (DrA.flat (by simpa [flatD] using h) t)
  | _, _, _, _, h, .dic _ _ _ _ => by simp [flatD] at h
  | _, _, _, _, _, .obj e l t => .obj e l t
  | _, _, _, _, _, .rep e => .rep e
  | _, _, _, _, h, .dicT _ _ _ _ => by simp [flatD] at h
  | _, _, _, _, h, .dicB _ _ _ _ => by simp [flatD] at h
  | _, _, _, _, h, .exc _ _ => by simp [flatD] at h
  | _, _, _, _, _, .fnc e e2 => .fnc e e2
theorem DrA.flat : ∀ {F F' : Addr → Prop} {v : List V} {d : List D}, flatDs d = true → DrA K G F v d → DrA K G F' v d
  | _, _, _, _, _, .nil => .nil
  | _, _, _ :: _, d :: ds, h, .cons a t => by
    have h' : (flatD d && flatDs ds) = true := by simpa [flatDs] using h
    rw [Bool.and_eq_true] at h'
    exact .cons (Dr.flat h'.1 a) (DrA.flat h'.2 t)
end
theorem Dr.fl {c : Cc} {fr : Bool} {v : V} {d : D} (h : Dr K G (Fl c fr) v d) : Dr K G (Fl c (fr || flatD d)) v d := by
  cases fr with
  | true => exact h
  | false => cases e : flatD d with
    | true => exact h.flat e
    | false => exact h
theorem DrA.fl {c : Cc} {fr : Bool} {v : List V} {d : List D} (h : DrA K G (Fl c fr) v d) : DrA K G (Fl c (fr || flatDs d)) v d := by
  cases fr with
  | true => exact h
  | false => cases e : flatDs d with
    | true => exact h.flat e
    | false => exact h
theorem Dr.tr {c : Cc} {v : V} {d : D} (h : Dr K G (fun _ => True) v d) : Dr K G (Fl c (flatD d)) v d := by
  cases e : flatD d with
  | true => exact h.flat e
  | false => exact h.mono (Same.refl G) fun _ _ z => nomatch z
theorem DrA.low {c : Cc} {f g : Bool} {v : List V} {d : List D} (h : DrA K G (Fl c f) v d) : DrA K G (Fl c (f && g)) v d := h.mono (Same.refl G) fun a k z => k (by rw [Bool.and_eq_true] at z; exact z.1)
theorem DrA.low' {c : Cc} {f g : Bool} {v : List V} {d : List D} (h : DrA K G (Fl c g) v d) : DrA K G (Fl c (f && g)) v d := h.mono (Same.refl G) fun a k z => k (by rw [Bool.and_eq_true] at z; exact z.2)
theorem Dr.low {c : Cc} {f g : Bool} {v : V} {d : D} (h : Dr K G (Fl c f) v d) : Dr K G (Fl c (f && g)) v d := h.mono (Same.refl G) fun a k z => k (by rw [Bool.and_eq_true] at z; exact z.1)
theorem Dr.low' {c : Cc} {f g : Bool} {v : V} {d : D} (h : Dr K G (Fl c g) v d) : Dr K G (Fl c (f && g)) v d := h.mono (Same.refl G) fun a k z => k (by rw [Bool.and_eq_true] at z; exact z.2)
end
/-! ### ints and texts -/
section
variable {K : PySem.W.Frag}
def dI (C : Int → Int → Bool) (g : Int → Int → D) (a b : D) : Option D := match a, b with
  | .int i, .int j => if C i j = true then some (g i j) else none
  | _, _ => none
theorem ops_int {C : Int → Int → Prop} {Cb : Int → Int → Bool} {f : Int → Int → V} {g : Int → Int → D} (hc : ∀ i j, Cb i j = true → C i j) (hs : ∀ i j, Scal (f i j) (g i j)) : OpS K (rI C f) (dI Cb g) := by
  intro c G H f1 f2 x y a b d Q hK ia ib e q
  unfold dI at e
  split at e
  · rename_i i j
    split at e
    · rename_i h
      cases e
      cases ia.1
      cases ib.1
      exact ⟨i, j, rfl, rfl, hc i j h, q _ (hs i j)⟩
    · cases e
  · cases e
def dI0 (g : Int → Int → D) : D → D → Option D := dI (fun _ _ => true) g
theorem ops_int0 {f : Int → Int → V} {g : Int → Int → D} (hs : ∀ i j, Scal (f i j) (g i j)) : OpS K (rI0 f) (dI0 g) := by
  intro c G H f1 f2 x y a b d Q hK ia ib e q
  obtain ⟨i, j, h1, h2, _, h3⟩ := ops_int (C := fun _ _ => True) (f := f) (fun _ _ _ => trivial) hs c G H f1 f2 x y a b d Q hK ia ib e q
  exact ⟨i, j, h1, h2, h3⟩
def dAdd := dI0 fun i j => .int (i + j)
def dSub := dI0 fun i j => .int (i - j)
def dMul := dI (fun i j => decide (i.natAbs.log2 + j.natAbs.log2 < 1000000)) fun i j => .int (i * j)
def dFdiv := dI (fun _ j => decide (0 < j) && decide (j.natAbs.log2 < 9000)) fun i j => .int (i / j)
def dMod := dI (fun _ j => decide (0 < j)) fun i j => .int (i % j)
def dPow := dI (fun i j => decide (0 ≤ j) && decide ((i.natAbs.log2 + 1 : Int) * j ≤ 134217728)) fun i j => .int (i ^ j.toNat)
def dLt := dI0 fun i j => .bl (decide (i < j))
def dLe := dI0 fun i j => .bl (decide (i ≤ j))
def dGt := dI0 fun i j => .bl (decide (j < i))
theorem s_add : OpS K (rI0 fun i j => .int (i + j)) dAdd := ops_int0 fun _ _ => .int _
theorem s_sub : OpS K (rI0 fun i j => .int (i - j)) dSub := ops_int0 fun _ _ => .int _
theorem s_mul : OpS K (rI CMulW fun i j => .int (i * j)) dMul := ops_int (fun i j h => (show i.natAbs.log2 + j.natAbs.log2 < 1000000 from of_decide_eq_true h)) fun _ _ => .int _
theorem s_fdiv : OpS K (rI CDivW fun i j => .int (i / j)) dFdiv := ops_int (fun _ _ h => by
  rw [Bool.and_eq_true] at h
  exact ⟨of_decide_eq_true h.1, of_decide_eq_true h.2⟩) fun _ _ => .int _
theorem s_mod : OpS K (rI (fun _ j => 0 < j) fun i j => .int (i % j)) dMod := ops_int (fun _ _ h => of_decide_eq_true h) fun _ _ => .int _
theorem s_pow : OpS K (rI CPowW fun i j => .int (i ^ j.toNat)) dPow := ops_int (fun _ _ h => by
  rw [Bool.and_eq_true] at h
  exact ⟨of_decide_eq_true h.1, of_decide_eq_true h.2⟩) fun _ _ => .int _
theorem s_lt : OpS K (rI0 fun i j => .bl (decide (i < j))) dLt := ops_int0 fun _ _ => .bl _
theorem s_le : OpS K (rI0 fun i j => .bl (decide (i ≤ j))) dLe := ops_int0 fun _ _ => .bl _
theorem s_gt : OpS K (rI0 fun i j => .bl (decide (j < i))) dGt := ops_int0 fun _ _ => .bl _
def dNeg (a : D) : Option D := match a with
  | .int i => some (.int (-i))
  | _ => none
theorem s_neg : UnS K (rU fun i => .int (-i)) dNeg := by
  intro c G H f1 x a d Q hK ia e q
  unfold dNeg at e
  split at e
  · cases e
    cases ia.1
    exact ⟨_, rfl, q _ (.int _)⟩
  · cases e
def dStrO (g : Str → Str → D) (a b : D) : Option D := match a, b with
  | .str i, .str j => some (g i j)
  | _, _ => none
theorem ops_str {f : Str → Str → V} {g : Str → Str → D} (hs : ∀ i j, Scal (f i j) (g i j)) : OpS K (fun x y H Q => ∃ i j, x = .str i ∧ y = .str j ∧ Q (f i j) H) (dStrO g) := by
  intro c G H f1 f2 x y a b d Q hK ia ib e q
  unfold dStrO at e
  split at e
  · cases e
    cases ia.1
    cases ib.1
    exact ⟨_, _, rfl, rfl, q _ (hs _ _)⟩
  · cases e
def dLeS := dStrO fun i j => .bl (!decide (j.cps.toList < i.cps.toList))
theorem s_leS : OpS K (fun x y H Q => ∃ i j, x = .str i ∧ y = .str j ∧ Q (.bl (!decide (j.cps.toList < i.cps.toList))) H) dLeS := ops_str fun _ _ => .bl _
/-! ### == of data -/
def dEqv (a b : D) : Option Bool := match toPy a, toPy b with
  | some x, some y => if x.depth ≤ 60 ∧ y.depth ≤ 60 then some (PyData.eqv x y) else none
  | _, _ => none
def dEq (a b : D) : Option D := (dEqv a b).map .bl
def dNe (a b : D) : Option D := (dEqv a b).map fun z => .bl (!z)
theorem dEqv_of {a b : D} {z : Bool} (h : dEqv a b = some z) : ∃ x y, toPy a = some x ∧ toPy b = some y ∧ x.depth ≤ 60 ∧ y.depth ≤ 60 ∧ z = PyData.eqv x y := by
  unfold dEqv at h
  split at h
  · rename_i x y e1 e2
    split at h
    · rename_i hd
      exact ⟨x, y, e1, e2, hd.1, hd.2, (Option.some.inj h).symm⟩
    · cases h
  · cases h
theorem shaped_of {x : PyData} (h1 : x.canLay0 = true) (h2 : x.depth ≤ 60) : SeqAt.shaped x = true := by
  unfold SeqAt.shaped
  rw [h1, decide_eq_true (by omega)]
  rfl
theorem s_eq : OpS K (rEqD K) dEq := by
  intro c G H f1 f2 x y a b d Q hK ia ib e q
  subst hK
  obtain ⟨z, hz, rfl⟩ := omap e
  obtain ⟨p1, p2, e1, e2, h1, h2, rfl⟩ := dEqv_of hz
  obtain ⟨r1, l1⟩ := ia.1.py e1
  obtain ⟨r2, l2⟩ := ib.1.py e2
  exact ⟨p1, p2, r1, r2, shaped_of l1 h1, shaped_of l2 h2, q _ (.bl _)⟩
theorem s_ne : OpS K (rNeD K) dNe := by
  intro c G H f1 f2 x y a b d Q hK ia ib e q
  subst hK
  obtain ⟨z, hz, rfl⟩ := omap e
  obtain ⟨p1, p2, e1, e2, h1, h2, rfl⟩ := dEqv_of hz
  obtain ⟨r1, l1⟩ := ia.1.py e1
  obtain ⟨r2, l2⟩ := ib.1.py e2
  exact ⟨p1, p2, r1, r2, shaped_of l1 h1, shaped_of l2 h2, q _ (.bl _)⟩
/-- x in a list -/
def dAny (a b : D) : Option Bool := match a, b with
  | a, .lst bs => (match toPy a, toPys bs with
    | some x, some ys => if x.depth ≤ 60 ∧ (PyData.list ys).depth ≤ 60 then some (ys.any fun z => PyData.eqv z x) else none
    | _, _ => none)
  | _, _ => none
def dIn (a b : D) : Option D := (dAny a b).map .bl
def dNotIn (a b : D) : Option D := (dAny a b).map fun z => .bl (!z)
theorem dAny_of {a b : D} {z : Bool} (h : dAny a b = some z) : ∃ x ys, toPy a = some x ∧ toPy b = some (.list ys) ∧ x.depth ≤ 60 ∧ (PyData.list ys).depth ≤ 60 ∧ z = ys.any fun z => PyData.eqv z x := by
  unfold dAny at h
  split at h
  · rename_i bs
    split at h
    · rename_i x ys e1 e2
      split at h
      · rename_i hd
        exact ⟨x, ys, e1, by rw [toPy, e2]; rfl, hd.1, hd.2, (Option.some.inj h).symm⟩
      · cases h
    · cases h
  · cases h
theorem s_in : OpS K (rInD K) dIn := by
  intro c G H f1 f2 x y a b d Q hK ia ib e q
  subst hK
  obtain ⟨z, hz, rfl⟩ := omap e
  obtain ⟨p1, p2, e1, e2, h1, h2, rfl⟩ := dAny_of hz
  obtain ⟨r1, l1⟩ := ia.1.py e1
  obtain ⟨r2, l2⟩ := ib.1.py e2
  exact ⟨p1, p2, r1, r2, shaped_of l1 h1, shaped_of l2 h2, q _ (.bl _)⟩
theorem s_notIn : OpS K (rNotInD K) dNotIn := by
  intro c G H f1 f2 x y a b d Q hK ia ib e q
  subst hK
  obtain ⟨z, hz, rfl⟩ := omap e
  obtain ⟨p1, p2, e1, e2, h1, h2, rfl⟩ := dAny_of hz
  obtain ⟨r1, l1⟩ := ia.1.py e1
  obtain ⟨r2, l2⟩ := ib.1.py e2
  exact ⟨p1, p2, r1, r2, shaped_of l1 h1, shaped_of l2 h2, q _ (.bl _)⟩
/-- scalars as values -/
def toV : D → Option V
  | .non => some .non
  | .bl b => some (.bl b)
  | .int i => some (.int i)
  | .str s => some (.str s)
  | _ => none
def toVs : List D → Option (List V)
  | [] => some []
  | x :: xs => (toV x).bind fun v => (toVs xs).map fun vs => v :: vs
theorem toV_eq {G : Hp} {F : Addr → Prop} {v u : V} {d : D} (h : Dr K G F v d) (e : toV d = some u) : v = u ∧ flatV v = true := by
  cases h <;> first | (cases e; exact ⟨rfl, rfl⟩) | cases e
theorem toVs_eq {G : Hp} {F : Addr → Prop} : ∀ {v u : List V} {d : List D}, DrA K G F v d → toVs d = some u → v = u ∧ v.all flatV = true
  | _, _, _, .nil, e => by cases e; exact ⟨rfl, rfl⟩
  | _, _, _, .cons h t, e => by
    rw [toVs] at e
    obtain ⟨y, e1, e⟩ := Option.bind_eq_some_iff.mp e
    obtain ⟨ys, e2, rfl⟩ := omap e
    obtain ⟨rfl, h2⟩ := toV_eq h e1
    obtain ⟨rfl, h3⟩ := toVs_eq t e2
    exact ⟨rfl, by rw [List.all_cons, h2, h3]; rfl⟩
def dAnyT (a b : D) : Option Bool := match a, b with
  | a, .tup bs => (match toV a, toVs bs with
    | some x, some ys => some (inV x ys)
    | _, _ => none)
  | _, _ => none
def dInT (a b : D) : Option D := (dAnyT a b).map .bl
theorem s_anyT {neg : Bool} : OpS K (rIn K neg) fun a b => (dAnyT a b).map fun z => .bl (if neg then !z else z) := by
  intro c G H f1 f2 x y a b d Q hK ia ib e q
  subst hK
  obtain ⟨z, hz, rfl⟩ := omap e
  unfold dAnyT at hz
  split at hz
  · rename_i bs
    split at hz
    · rename_i u us e1 e2
      cases hz
      obtain ⟨rfl, h1⟩ := toV_eq ia.1 e1
      obtain ⟨p, vs, rfl, h2, h3⟩ := ib.2
      obtain ⟨rfl, h4⟩ := toVs_eq h3 e2
      exact ⟨p, vs, rfl, .inr h2, h1, h4, q _ (.bl _)⟩
    · cases hz
  · cases hz
theorem s_inT : OpS K (rIn K false) dInT := s_anyT (neg := false)
/-- x is None -/
def isNon : D → Bool
  | .non => true
  | _ => false
def dIsN (a b : D) : Option D := match b with
  | .non => some (.bl (isNon a))
  | _ => none
theorem non_dec {G : Hp} {F : Addr → Prop} {v : V} {d : D} (h : Dr K G F v d) : decide (v = .non) = isNon d := by cases h <;> rfl
theorem s_isN : OpS K (fun x y H Q => y = .non ∧ Q (.bl (decide (x = .non))) H) dIsN := by
  intro c G H f1 f2 x y a b d Q hK ia ib e q
  unfold dIsN at e
  split at e
  · cases e
    cases ib.1
    refine ⟨rfl, ?_⟩
    rw [non_dec ia.1]
    exact q _ (.bl _)
  · cases e
/-! ### built-ins of one argument -/
def dLen (a : D) : Option D := match a with
  | .lst xs => some (.int (xs.length : Nat))
  | .tup xs => some (.int (xs.length : Nat))
  | _ => none
theorem s_len : UnS K (fun x H Q => Evl.rLenS K [x] H Q) dLen := by
  intro c G H f1 x a d Q hK ia e q
  subst hK
  unfold dLen at e
  split at e
  · cases e
    obtain ⟨p, vs, rfl, h, t⟩ := ia.2
    exact ⟨p, vs, rfl, .inl (SqL.of h), by rw [t.len]; exact q _ (.int _)⟩
  · cases e
    obtain ⟨p, vs, rfl, h, t⟩ := ia.2
    exact ⟨p, vs, rfl, .inr h, by rw [t.len]; exact q _ (.int _)⟩
  · cases e
def dLenS (a : D) : Option D := match a with
  | .str x => if x.length ≤ 1000000 then some (.int (x.length : Nat)) else none
  | _ => none
theorem s_lenS : UnS K (fun x H Q => (fun xs (H : Hp) (Q : VK) => ∃ z : Str, xs = [V.str z] ∧ z.length ≤ sizeLine ∧ Q (.int z.length) H) [x] H Q) dLenS := by
  intro c G H f1 x a d Q hK ia e q
  unfold dLenS at e
  split at e
  · split at e
    · rename_i h
      cases e
      cases ia.1
      exact ⟨_, rfl, Nat.le_trans h (by decide), q _ (.int _)⟩
    · cases e
  · cases e
def toBls : List D → Option (List Bool)
  | [] => some []
  | .bl b :: xs => (toBls xs).map fun bs => b :: bs
  | _ :: _ => none
theorem toBls_eq : ∀ {ds : List D} {bs : List Bool}, toBls ds = some bs → ds = bs.map D.bl
  | [], _, h => by cases h; rfl
  | .bl b :: xs, _, h => by
    rw [toBls] at h
    obtain ⟨ys, e, rfl⟩ := omap h
    rw [toBls_eq e]; rfl
  | .non :: _, _, h => by cases h
  | .int _ :: _, _, h => by cases h
  | .str _ :: _, _, h => by cases h
  | .lst _ :: _, _, h => by cases h
  | .tup _ :: _, _, h => by cases h
  | .dic _ _ :: _, _, h => by cases h
  | .obj _ _ _ :: _, _, h => by cases h
  | .rep _ :: _, _, h => by cases h
def dAnyB (a : D) : Option D := match a with
  | .lst xs => (toBls xs).map fun bs => .bl (bs.any id)
  | _ => none
def dAllB (a : D) : Option D := match a with
  | .lst xs => (toBls xs).map fun bs => .bl (bs.all id)
  | _ => none
theorem s_any : UnS K (fun x H Q => rAny K [x] H Q) dAnyB := by
  intro c G H f1 x a d Q hK ia e q
  subst hK
  unfold dAnyB at e
  split at e
  · obtain ⟨bs, e1, rfl⟩ := omap e
    obtain ⟨p, vs, rfl, h, t⟩ := ia.2
    rw [toBls_eq e1] at t
    rw [t.bls_of] at h
    exact ⟨p, bs, rfl, SqL.of h, q _ (.bl _)⟩
  · cases e
theorem s_all : UnS K (fun x H Q => rAll K [x] H Q) dAllB := by
  intro c G H f1 x a d Q hK ia e q
  subst hK
  unfold dAllB at e
  split at e
  · obtain ⟨bs, e1, rfl⟩ := omap e
    obtain ⟨p, vs, rfl, h, t⟩ := ia.2
    rw [toBls_eq e1] at t
    rw [t.bls_of] at h
    exact ⟨p, bs, rfl, SqL.of h, q _ (.bl _)⟩
  · cases e
def dInt (a : D) : Option D := match a with
  | .int i => some (.int i)
  | .bl b => some (.int (if b then 1 else 0))
  | _ => none
theorem s_int : UnS K (fun x H Q => (fun xs (H : Hp) (Q : VK) => (∃ i, xs = [V.int i] ∧ Q (.int i) H) ∨ ∃ k, xs = [V.bl k] ∧ Q (.int (if k then 1 else 0)) H) [x] H Q) dInt := by
  intro c G H f1 x a d Q hK ia e q
  unfold dInt at e
  split at e
  · cases e
    cases ia.1
    exact .inl ⟨_, rfl, q _ (.int _)⟩
  · cases e
    cases ia.1
    exact .inr ⟨_, rfl, q _ (.int _)⟩
  · cases e
def dMin2 := dI0 fun i j => .int (if j < i then j else i)
end
end Da
end F20
section F21
namespace Da
open PySem PySem.Spec PyProof.Rows L2 He Ds
variable [Tabl]
section
variable {K : PySem.W.Frag} {W : WX} {c : Cc} {G H : Hp} {σ : L2.St} {ρ : List Slot} {T : List En}
/-! ### arguments -/
theorem mid_in {A B : List En} {x : En} (R : Rel c G H (x :: (A ++ B))) : Rel c G H (A ++ x :: B) := R.perm List.perm_middle
theorem mid_out {A B : List En} {x : En} (R : Rel c G H (A ++ x :: B)) : Rel c G H (x :: (A ++ B)) := R.perm List.perm_middle.symm
theorem Post.more {α : Type} {P : α → List Slot → Hp → Hp → Prop} {r : Res α} {x : En} (h : Post c G T σ W P r) : Post c G (x :: T) σ W P r :=
  h.beside fun ρ' => (List.sublist_cons_self x T).append_left _
def maCons (me : M Slot) (ma : M (List Slot)) : M (List Slot) := mb me fun s => mb ma fun ss => mp (s :: ss)
def mDat (m : M (Bool × D)) : M Slot := mb m fun a => mp (.dat a.1 a.2)
def mOwn (m : M (Bool × List D)) : M Slot := mb m fun a => mp (.own a.1 a.2)
/-- one argument -/
def DS1 (K : PySem.W.Frag) (W : WX) (te : TE) (m : M Slot) : Prop :=
  ∀ (c : Cc) (G H : Hp) (σ : L2.St) (ρ : List Slot) (T : List En) (Q : VK), c.K = K → σ.length = ρ.length → Rel c G H (σ.zip ρ ++ T) →
    Post c G T σ W (fun s ρ' G' H' => ∀ v H2, Rel c G' H2 ((some v, s) :: (σ.zip ρ' ++ T)) → Q v H2) (m ρ) → te σ H Q
theorem DE.s {te : TE} {m : M (Bool × D)} (h : DE K W te m) : DS1 K W te (mDat m) := by
  intro c G H σ ρ T Q hK hl R p
  refine h c G H σ ρ T Q hK hl R (Post.imp (Post.bind p) fun a ρ' G' H' hl' R' s q v r => ?_)
  subst hK
  exact q hl' G' H' R' (Same.refl G') v H' (R'.dat r)
theorem DL.s {te : TE} {m : M (Bool × List D)} (h : DL K W te m) : DS1 K W te (mOwn m) := by
  intro c G H σ ρ T Q hK hl R p
  refine h c G H σ ρ T Q hK hl R (Post.imp (Post.bind p) fun a ρ' G' H' hl' R' s q p vs H2 R2 _ => ?_)
  exact q hl' G' H' R' (Same.refl G') (.ref p) H2 R2
theorem da_nil : DA K W tNil (mp []) := fun c G H σ ρ T Q hK hl R p => p hl G H R (Same.refl G) [] rfl R
theorem da_cons {te : TE} {ta : TA} {me : M Slot} {ma : M (List Slot)} (he : DS1 K W te me) (ha : DA K W ta ma) : DA K W (tCons te ta) (maCons me ma) := by
  intro c G H σ ρ T Q hK hl R p
  refine he c G H σ ρ T _ hK hl R (Post.imp (Post.bind p) fun s ρ1 G1 H1 hl1 R1 s1 q1 v H2 R2 => ?_)
  refine ha c G1 H2 σ ρ1 ((some v, s) :: T) _ hK hl1 (mid_in R2) (Post.imp (Post.bind q1).more fun ss ρ2 G2 H3 hl2 R3 s2 q2 vs hv R4 => ?_)
  refine q2 hl2 G2 H3 (R3.subl ((List.sublist_cons_self _ T).append_left _)) (Same.refl G2) (v :: vs) (by rw [List.length_cons, List.length_cons, hv]) ?_
  show Rel c G2 H3 ((some v, s) :: ((vs.map some).zip ss ++ (σ.zip ρ2 ++ T)))
  rw [← List.append_assoc] at R4 ⊢
  exact mid_out R4
/-- arguments that are data, all of them -/
def dats : List Slot → Option (Bool × List D)
  | [] => some (true, [])
  | .dat fr d :: ss => (dats ss).map fun r => ((fr || flatD d) && r.1, d :: r.2)
  | _ :: _ => none
theorem dats_ok : ∀ {vs : List V} {ss : List Slot} {E : List En} {fr : Bool} {ds : List D}, Rel c G H ((vs.map some).zip ss ++ E) → vs.length = ss.length → dats ss = some (fr, ds) → DrA c.K G (Fl c fr) vs ds ∧ ds.length = vs.length
  | [], [], _, _, _, _, _, e => by cases e; exact ⟨.nil, rfl⟩
  | v :: vs, .dat f d :: ss, E, fr, ds, R, hl, e => by
    rw [dats] at e
    obtain ⟨r, e1, e2⟩ := omap e
    cases e2
    obtain ⟨v', ev, h1⟩ := R.sl (some v, .dat f d) List.mem_cons_self
    cases ev
    obtain ⟨h2, h3⟩ := dats_ok (R.subl (List.sublist_cons_self _ _)) (by simpa using hl) (show dats ss = some (r.1, r.2) from e1)
    exact ⟨.cons h1.fl.low h2.low', by simp [h3]⟩
  | [], _ :: _, _, _, _, _, hl, _ => by simp at hl
  | _ :: _, [], _, _, _, _, hl, _ => by simp at hl
  | _ :: _, .no :: _, _, _, _, _, _, e => by cases e
  | _ :: _, .own _ _ :: _, _, _, _, _, _, e => by cases e
  | _ :: _, .dct _ _ _ :: _, _, _, _, _, _, e => by cases e
  | _ :: _, .dcT _ _ _ :: _, _, _, _, _, _, e => by cases e
  | _ :: _, .pool _ :: _, _, _, _, _, _, e => by cases e
  | _ :: _, .slf _ _ _ :: _, _, _, _, _, _, e => by cases e
theorem Rel.drop {A E : List En} (R : Rel c G H (A ++ E)) : Rel c G H E := R.subl (List.sublist_append_right A E)
def mDats {β : Type} (ma : M (List Slot)) (k : Bool × List D → M β) : M β := mb ma fun ss => match dats ss with
  | some r => k r
  | none => mno
theorem dats_core {β : Type} {P : β → List Slot → Hp → Hp → Prop} {ta : TA} {ma : M (List Slot)} {k : Bool × List D → M β} {r' : List V → Hp → Prop} (ha : DA K W ta ma) (hK : c.K = K) (hl : σ.length = ρ.length) (R : Rel c G H (σ.zip ρ ++ T))
    (p : Post c G T σ W P (mDats ma k ρ)) (fin : ∀ fr ds vs G2 H2 ρ2, σ.length = ρ2.length → Rel c G2 H2 (σ.zip ρ2 ++ T) → Same G G2 → DrA c.K G2 (Fl c fr) vs ds → ds.length = vs.length → Post c G2 T σ W P (k (fr, ds) ρ2) → r' vs H2) : ta σ H r' := by
  refine ha c G H σ ρ T _ hK hl R (Post.imp (Post.bind p) fun ss ρ1 G1 H1 hl1 R1 s1 q1 vs hv R2 => ?_)
  cases e : dats ss with
  | none => rw [e] at q1; exact q1.elim
  | some r =>
    rw [e] at q1
    obtain ⟨h1, h2⟩ := dats_ok R2 hv (show dats ss = some (r.1, r.2) from e)
    exact fin r.1 r.2 vs G1 H1 ρ1 hl1 R1 s1 h1 h2 q1
/-! ### new tuples and lists -/
def mTup (ma : M (List Slot)) : M (Bool × D) := mDats ma fun r => if r.2.length ≤ 1000 then mp (r.1, .tup r.2) else mno
theorem de_tup {ta : TA} {ma : M (List Slot)} (ha : DA K W ta ma) : DE K W (tTup ta) (mTup ma) := by
  intro c G H σ ρ T Q hK hl R p
  refine dats_core ha hK hl R p fun fr ds vs G2 H2 ρ2 hl2 R2 s2 hd hn q => ?_
  dsimp only at q
  split at q
  · rename_i h
    refine ⟨by rw [← hn]; exact Nat.le_trans h (by decide), fun p np => ?_⟩
    subst hK
    have sG : Same G2 (upd G2 p (.tup vs)) := same_new (Same.refl G2) (R2.gn np)
    exact q hl2 _ _ (R2.new np) sG _ (.tup upd_same (hd.up sG))
  · exact q.elim
def mLst (ma : M (List Slot)) : M (Bool × List D) := mDats ma fun r => if r.2.length ≤ 1000 then mp r else mno
theorem Rel.lst {fr : Bool} {ds : List D} {vs : List V} {Q : VK} {E : List En} (R : Rel c G H E) (hd : DrA c.K G (Fl c fr) vs ds) (q : ∀ p vs H2, Rel c G H2 ((some (.ref p), .own fr ds) :: E) → H2 p = some (.lst vs) → Q (.ref p) H2) : ∀ p, H p = none → Q (.ref p) (upd H p (.lst vs)) :=
  fun p np => q p vs _ (R.newOwn np hd) upd_same
theorem dl_lst {ta : TA} {ma : M (List Slot)} (ha : DA K W ta ma) : DL K W (tLst ta) (mLst ma) := by
  intro c G H σ ρ T Q hK hl R p
  refine dats_core ha hK hl R p fun fr ds vs G2 H2 ρ2 hl2 R2 s2 hd hn q => ?_
  dsimp only at q
  split at q
  · rename_i h
    exact ⟨by rw [← hn]; exact Nat.le_trans h (by decide), R2.lst hd (q hl2 G2 H2 R2 (Same.refl G2))⟩
  · exact q.elim
/-- a list that is made and not changed any more -/
def mKeep (m : M (Bool × List D)) : M (Bool × D) := mb m fun a => mp (a.1, .lst a.2)
theorem DL.e {te : TE} {m : M (Bool × List D)} (h : DL K W te m) : DE K W te (mKeep m) := by
  intro c G H σ ρ T Q hK hl R p
  refine h c G H σ ρ T Q hK hl R (Post.imp (Post.bind p) fun a ρ' G' H' hl' R' s q p vs H2 R2 e => ?_)
  subst hK
  obtain ⟨R3, sG, hd⟩ := R2.freeze e
  exact q hl' _ _ R3 sG _ hd
def mCatK (a b : Bool × D) : M (Bool × List D) := match a, b with
  | (f, .lst xs), (g, .lst ys) => if xs.length + ys.length ≤ 1000000 then mp ((f || flatDs xs) && (g || flatDs ys), xs ++ ys) else mno
  | _, _ => mno
theorem dl_cat {ta tb : TE} {ma mc : M Look} (ha : DB K W ta ma) (hb : DB K W tb mc) : DL K W (tOp rCat ta tb) (mBin mCatK ma mc) := by
  intro c G H σ ρ T Q hK hl R p
  refine bin_core ha hb hK hl R p fun a b x y G2 H2 ρ2 hl2 R2 s2 ia ib q => ?_
  obtain ⟨f, a⟩ := a
  obtain ⟨g, b⟩ := b
  cases a with
  | lst xs => cases b with
    | lst ys =>
      unfold mCatK at q
      dsimp only at q
      by_cases h : xs.length + ys.length ≤ 1000000
      · rw [if_pos h] at q
        obtain ⟨l, vs, rfl, e1, t1⟩ := ia.2
        obtain ⟨m, ws, rfl, e2, t2⟩ := ib.2
        exact ⟨l, m, vs, ws, rfl, rfl, e1, e2, by rw [t1.len, t2.len]; exact Nat.le_trans h (by decide), R2.lst (t1.fl.low.append t2.fl.low') (q hl2 G2 H2 R2 (Same.refl G2))⟩
      · rw [if_neg h] at q
        exact q.elim
    | _ => exact False.elim q
  | _ => exact False.elim q
def mListK (a : Bool × D) : M (Bool × List D) := match a with
  | (f, .lst xs) => mp (f || flatDs xs, xs)
  | (f, .tup xs) => mp (f || flatDs xs, xs)
  | _ => mno
theorem dl_list {ta : TE} {ma : M Look} (ha : DB K W ta ma) : DL K W (tCB (Evl.rListS K) (tCons ta tNil)) (mOne mListK ma) := by
  intro c G H σ ρ T Q hK hl R p
  refine one_core (ta := ta) ha hK hl R p fun a x G2 H2 ρ2 hl2 R2 s2 ia q => ?_
  subst hK
  obtain ⟨f, a⟩ := a
  cases a with
  | lst xs =>
    obtain ⟨l, vs, rfl, e1, t1⟩ := ia.2
    exact ⟨l, vs, rfl, .inl (SqL.of e1), R2.lst t1.fl (q hl2 G2 H2 R2 (Same.refl G2))⟩
  | tup xs =>
    obtain ⟨l, vs, rfl, e1, t1⟩ := ia.2
    exact ⟨l, vs, rfl, .inr e1, R2.lst t1.fl (q hl2 G2 H2 R2 (Same.refl G2))⟩
  | _ => exact False.elim q
/-- list of a text -/
def signs (z : Str) : List D := z.cps.toList.map fun c => .str ⟨#[c]⟩
def mListSK (a : Bool × D) : M (Bool × List D) := match a with
  | (_, .str z) => if z.length ≤ 100000 then mp (true, signs z) else mno
  | _ => mno
theorem signs_ok {F : Addr → Prop} {z : Str} (h : SOk z) : DrA K G F (z.cps.toList.map fun c => V.str ⟨#[c]⟩) (signs z) := by
  have h1 : z.cps.all (· < 0x110000) = true := h
  have h2 : ∀ x ∈ z.cps.toList, x < 0x110000 := fun x hx => by
    have := Array.all_eq_true_iff_forall_mem.mp h1 x (Array.mem_toList_iff.mp hx)
    exact of_decide_eq_true this
  unfold signs
  generalize z.cps.toList = l at h2
  induction l with
  | nil => exact .nil
  | cons x xs ih => exact .cons (.str _ (by
      show (#[x] : Array Nat).all (· < 0x110000) = true
      have := h2 x (by simp)
      simpa using this)) (ih fun y hy => h2 y (by simp [hy]))
theorem dl_listS {ta : TE} {ma : M Look} (ha : DB K W ta ma) : DL K W (tCB (fun xs H Q => ∃ z : Str, xs = [.str z] ∧ z.length ≤ sizeLine ∧ ∀ p, H p = none → Q (.ref p) (upd H p (.lst (z.cps.toList.map fun c => V.str ⟨#[c]⟩)))) (tCons ta tNil)) (mOne mListSK ma) := by
  intro c G H σ ρ T Q hK hl R p
  refine one_core (ta := ta) ha hK hl R p fun a x G2 H2 ρ2 hl2 R2 s2 ia q => ?_
  obtain ⟨f, a⟩ := a
  cases a with
  | str z =>
    unfold mListSK at q
    dsimp only at q
    by_cases h : z.length ≤ 100000
    · rw [if_pos h] at q
      cases ia.1 with
      | str _ hz => exact ⟨z, rfl, Nat.le_trans h (by decide), R2.lst (signs_ok hz) (q hl2 G2 H2 R2 (Same.refl G2))⟩
    · rw [if_neg h] at q
      exact q.elim
  | _ => exact False.elim q
/-- [::-1] of a list -/
def mRevK (a : Bool × D) : M (Bool × List D) := match a with
  | (f, .lst xs) => mp (f || flatDs xs, xs.reverse)
  | _ => mno
/-! ### subscripts -/
theorem atI_dr {F : Addr → Prop} {vs : List V} {ds : List D} {i : Int} {d : D} (t : DrA K G F vs ds) (e : atI ds i = some d) : ∃ v, atI vs i = some v ∧ Dr K G F v d := by
  unfold atI at e ⊢
  rw [t.len]
  cases q : ixN ds.length i with
  | none => rw [q] at e; cases e
  | some j =>
    rw [q] at e
    obtain ⟨v, h1, h2⟩ := t.get' (show ds[j]? = some d from e)
    exact ⟨v, h1, h2⟩
def mIxL (a b : Bool × D) : M (Bool × D) := match a, b with
  | (f, .lst xs), (_, .int i) => (match atI xs i with | some d => mp (f || flatD d, d) | none => mno)
  | _, _ => mno
def mIxT (a b : Bool × D) : M (Bool × D) := match a, b with
  | (f, .tup xs), (_, .int i) => (match atI xs i with | some d => mp (f || flatD d, d) | none => mno)
  | _, _ => mno
theorem de_ixL {ta tb : TE} {ma mc : M Look} (ha : DB K W ta ma) (hb : DB K W tb mc) : DE K W (tOp (rIxL K) ta tb) (mBin mIxL ma mc) := by
  intro c G H σ ρ T Q hK hl R p
  refine bin_core ha hb hK hl R p fun a b x y G2 H2 ρ2 hl2 R2 s2 ia ib q => ?_
  subst hK
  obtain ⟨f, a⟩ := a
  obtain ⟨g, b⟩ := b
  cases a with
  | lst xs => cases b with
    | int i =>
      unfold mIxL at q
      dsimp only at q
      cases e : atI xs i with
      | none => rw [e] at q; exact q.elim
      | some d =>
        rw [e] at q
        obtain ⟨l, vs, rfl, e1, t1⟩ := ia.2
        cases ib.1
        obtain ⟨v, h3, h4⟩ := atI_dr t1 e
        exact ⟨l, vs, i, v, rfl, rfl, SqL.of e1, h3, q hl2 G2 H2 R2 (Same.refl G2) v h4.fl⟩
    | _ => exact False.elim q
  | _ => exact False.elim q
theorem de_ixT {ta tb : TE} {ma mc : M Look} (ha : DB K W ta ma) (hb : DB K W tb mc) : DE K W (tOp (rIxT K) ta tb) (mBin mIxT ma mc) := by
  intro c G H σ ρ T Q hK hl R p
  refine bin_core ha hb hK hl R p fun a b x y G2 H2 ρ2 hl2 R2 s2 ia ib q => ?_
  subst hK
  obtain ⟨f, a⟩ := a
  obtain ⟨g, b⟩ := b
  cases a with
  | tup xs => cases b with
    | int i =>
      unfold mIxT at q
      dsimp only at q
      cases e : atI xs i with
      | none => rw [e] at q; exact q.elim
      | some d =>
        rw [e] at q
        obtain ⟨l, vs, rfl, e1, t1⟩ := ia.2
        cases ib.1
        obtain ⟨v, h3, h4⟩ := atI_dr t1 e
        exact ⟨l, vs, i, v, rfl, rfl, e1, h3, q hl2 G2 H2 R2 (Same.refl G2) v h4.fl⟩
    | _ => exact False.elim q
  | _ => exact False.elim q
/-- slices -/
def DO (K : PySem.W.Frag) (W : WX) (t : TO) (m : M (Option Int)) : Prop :=
  ∀ (c : Cc) (G H : Hp) (σ : L2.St) (ρ : List Slot) (T : List En) (Q : Option Int → Hp → Prop), c.K = K → σ.length = ρ.length → Rel c G H (σ.zip ρ ++ T) →
    Post c G T σ W (fun o _ _ H' => Q o H') (m ρ) → t σ H Q
theorem do_none : DO K W tNoPart (mp none) := fun c G H σ ρ T Q hK hl R p => p hl G H R (Same.refl G)
def mPart (m : M (Bool × D)) : M (Option Int) := mb m fun a => match a.2 with
  | .int i => mp (some i)
  | _ => mno
theorem do_some {te : TE} {m : M (Bool × D)} (h : DE K W te m) : DO K W (tPart te) (mPart m) := by
  intro c G H σ ρ T Q hK hl R p
  refine h c G H σ ρ T _ hK hl R (Post.imp (Post.bind p) fun a ρ' G' H' hl' R' s q v r => ?_)
  obtain ⟨f, d⟩ := a
  dsimp only at q r
  cases r <;> first | exact ⟨_, rfl, q hl' G' H' R' (Same.refl G')⟩ | exact q.elim
def mSl {β : Type} (k : Bool × D → Option Int → Option Int → M β) (ma : M Look) (ml mh : M (Option Int)) : M β := mb ma fun fa => mb ml fun lo => mb mh fun hi => fun ρ => match fa ρ with
  | some a => k a lo hi ρ
  | none => .no
theorem sl_core {β : Type} {k : Bool × D → Option Int → Option Int → M β} {P : β → List Slot → Hp → Hp → Prop} {r' : V → Option Int → Option Int → Hp → Prop} {ta : TE} {tl th : TO} {ma : M Look} {ml mh : M (Option Int)} (ha : DB K W ta ma) (h1 : DO K W tl ml) (h2 : DO K W th mh) (hK : c.K = K) (hl : σ.length = ρ.length) (R : Rel c G H (σ.zip ρ ++ T))
    (p : Post c G T σ W P (mSl k ma ml mh ρ)) (fin : ∀ a x lo hi G2 H2 ρ2, σ.length = ρ2.length → Rel c G2 H2 (σ.zip ρ2 ++ T) → Same G G2 → Itm c G2 H2 a.1 x a.2 → Post c G2 T σ W P (k a lo hi ρ2) → r' x lo hi H2) : ta σ H fun x H1 => tl σ H1 fun lo H2 => th σ H2 fun hi H3 => r' x lo hi H3 := by
  refine ha c G H σ ρ T _ hK hl R (Post.imp (Post.bind p) fun fa ρ1 G1 H1 hl1 R1 s1 q1 x lx => ?_)
  refine h1 c G1 H1 σ ρ1 T _ hK hl1 R1 (Post.imp (Post.bind q1) fun lo ρ2 G2 H2 hl2 R2 s2 q2 => ?_)
  refine h2 c G2 H2 σ ρ2 T _ hK hl2 R2 (Post.imp (Post.bind q2) fun hi ρ3 G3 H3 hl3 R3 s3 q3 => ?_)
  cases e1 : fa ρ3 with
  | none => rw [e1] at q3; exact q3.elim
  | some a =>
    rw [e1] at q3
    exact fin a x lo hi G3 H3 ρ3 hl3 R3 ((s1.trans s2).trans s3) (lx G3 H3 ρ3 _ _ R3 hl3 (s2.trans s3) e1) q3
def cutD (xs : List D) (lo hi : Option Int) : List D := (xs.drop (HT.sIx xs.length 0 lo)).take (HT.sIx xs.length xs.length hi - HT.sIx xs.length 0 lo)
theorem cut_dr {F : Addr → Prop} {vs : List V} {ds : List D} {lo hi : Option Int} (t : DrA K G F vs ds) : DrA K G F (cutV vs lo hi) (cutD ds lo hi) := by
  unfold cutV cutD
  rw [t.len]
  exact (t.drop _).take _
def mSlL (a : Bool × D) (lo hi : Option Int) : M (Bool × List D) := match a with
  | (f, .lst xs) => mp (f || flatDs xs, cutD xs lo hi)
  | _ => mno
theorem dl_slice {ta : TE} {tl th : TO} {ma : M Look} {ml mh : M (Option Int)} (ha : DB K W ta ma) (h1 : DO K W tl ml) (h2 : DO K W th mh) : DL K W (tSl (rSlL K) ta tl th) (mSl mSlL ma ml mh) := by
  intro c G H σ ρ T Q hK hl R p
  refine sl_core ha h1 h2 hK hl R p fun a x lo hi G2 H2 ρ2 hl2 R2 s2 ia q => ?_
  subst hK
  obtain ⟨f, a⟩ := a
  cases a with
  | lst xs =>
    obtain ⟨l, vs, rfl, e1, t1⟩ := ia.2
    exact ⟨l, vs, rfl, SqL.of e1, R2.lst (cut_dr t1.fl) (q hl2 G2 H2 R2 (Same.refl G2))⟩
  | _ => exact False.elim q
end
end Da
end F21
section F22
namespace Da
open PySem PySem.Spec PyProof.Rows L2 He Ds
variable [Tabl]
section
variable {K : PySem.W.Frag} {W : WX} {c : Cc} {G H : Hp} {σ : L2.St} {ρ : List Slot} {T : List En}
/-! ### t[::s] of a tuple of two -/
def step2 (a : Bool × D) (s : D) : Option (Bool × D) := match a.2, s with
  | .tup [x, y], .int i => if i = 1 then some a else if i = -1 then some (a.1, .tup [y, x]) else none
  | _, _ => none
theorem step2_inv {a r : Bool × D} {s : D} (h : step2 a s = some r) : ∃ x y i, a.2 = .tup [x, y] ∧ s = .int i ∧ ((i = 1 ∧ r = a) ∨ (i = -1 ∧ r = (a.1, .tup [y, x]))) := by
  unfold step2 at h
  split at h
  · rename_i x y i e
    refine ⟨x, y, i, e, rfl, ?_⟩
    by_cases e1 : i = 1
    · rw [if_pos e1] at h
      exact .inl ⟨e1, (Option.some.inj h).symm⟩
    · rw [if_neg e1] at h
      by_cases e2 : i = -1
      · rw [if_pos e2] at h
        exact .inr ⟨e2, (Option.some.inj h).symm⟩
      · rw [if_neg e2] at h
        cases h
  · cases h
def mStep2 (me ms : M (Bool × D)) : M (Bool × D) := mb me fun a => mb ms fun s => mo (step2 a s.2)
theorem de_step2 {te ts : TE} {me ms : M (Bool × D)} (he : DE K W te me) (hs : DE K W ts ms) : DE K W (tStep2 K te ts) (mStep2 me ms) := by
  intro c G H σ ρ T Q hK hl R p
  refine he c G H σ ρ T _ hK hl R (Post.imp (Post.bind p) fun a ρ1 G1 H1 hl1 R1 s1 q1 v r => ?_)
  refine hs c G1 H1 σ ρ1 T _ hK hl1 R1 (Post.imp (Post.bind q1) fun s ρ2 G2 H2 hl2 R2 s2 q2 w r2 => ?_)
  subst hK
  cases e : step2 a s.2 with
  | none => rw [e] at q2; exact q2.elim
  | some z =>
    rw [e] at q2
    obtain ⟨x, y, i, e1, e2, e3⟩ := step2_inv e
    obtain ⟨f, a⟩ := a
    obtain ⟨g, b⟩ := s
    dsimp only at e1 e2
    subst e1 e2
    have r' := r.up s2
    cases r2
    cases r with
    | tup ht t => cases t with
      | cons h1 t => cases t with
        | cons h2 t =>
          cases t
          refine ⟨i, rfl, _, _, _, rfl, seqT_same (s2.trans R2.gs) (SqT.of ht), ?_⟩
          rcases e3 with ⟨rfl, rfl⟩ | ⟨rfl, rfl⟩
          · exact .inl ⟨rfl, q2 hl2 G2 H2 R2 (Same.refl G2) _ r'⟩
          · refine .inr ⟨rfl, fun p np => ?_⟩
            have sG : ∀ o, Same G2 (upd G2 p o) := fun o => same_new (Same.refl G2) (R2.gn np)
            exact q2 hl2 _ _ (R2.new np) (sG _) _ (.tup upd_same (.cons ((h2.up s2).up (sG _)) (.cons ((h1.up s2).up (sG _)) .nil)))
/-! ### truth -/
def truD : D → Option Bool
  | .non => some false
  | .bl b => some b
  | .int i => some (i != 0)
  | .str s => if s.length ≤ 1000000 then some ((s.length : Int) != 0) else none
  | .lst xs => some (!xs.isEmpty)
  | .tup xs => some (!xs.isEmpty)
  | .dic ks _ => some (!ks.isEmpty)
  | .obj _ _ _ => none
  | .rep _ => none
  | .dicT _ _ => none
  | .dicB _ _ => none
  | .exc _ _ _ _ => none
  | .fnc _ => none
theorem empty_of {F : Addr → Prop} {vs : List V} {ds : List D} (t : DrA K G F vs ds) : (!vs.isEmpty) = !ds.isEmpty := by cases t <;> rfl
theorem tru_of {v : V} {f : Bool} {d : D} {k : Bool} (h : Itm c G H f v d) (e : truD d = some k) : TruV c.K v H k := by
  cases d with
  | non => cases h.1; cases e; exact rfl
  | bl b => cases h.1; cases e; exact rfl
  | int i => cases h.1; cases e; exact rfl
  | str s =>
    cases h.1
    by_cases hs : s.length ≤ 1000000
    · have e' : some ((s.length : Int) != 0) = some k := by rw [← e]; exact (if_pos hs).symm
      cases e'
      exact ⟨Nat.le_trans hs (by decide), rfl⟩
    · have e' : (none : Option Bool) = some k := by rw [← e]; exact (if_neg hs).symm
      cases e'
  | lst xs =>
    cases e
    obtain ⟨p, vs, rfl, h1, t⟩ := h.2
    exact .inl ⟨vs, SqL.of h1, (empty_of t).symm⟩
  | tup xs =>
    cases e
    obtain ⟨p, vs, rfl, h1, t⟩ := h.2
    exact .inr (.inl ⟨vs, h1, (empty_of t).symm⟩)
  | dic ks xs =>
    cases e
    obtain ⟨p, vs, rfl, h1, hl, t⟩ := h.2
    refine .inr (.inr ⟨_, h1, ?_⟩)
    cases ks with
    | nil => rfl
    | cons k ks => cases vs with
      | nil => simp at hl
      | cons v vs => rfl
  | obj _ _ _ => cases e
  | rep _ => cases e
  | dicT _ _ => cases e
  | dicB _ _ => cases e
  | exc _ _ _ _ => cases e
  | fnc _ => cases e
def mBl (a : Bool × D) : M Bool := match a.2 with
  | .bl b => mp b
  | _ => mno
theorem bl_core {Q : Bool → Hp → Prop} {f : Bool} {d : D} {v : V} {F : Addr → Prop} (hl : σ.length = ρ.length) (R : Rel c G H (σ.zip ρ ++ T)) (r : Dr c.K G F v d) (q : Post c G T σ W (fun b _ _ H' => Q b H') (mBl (f, d) ρ)) : ∃ k, v = .bl k ∧ Q k H := by
  cases d with
  | bl b =>
    cases r
    exact ⟨b, rfl, q hl G H R (Same.refl G)⟩
  | _ => exact False.elim q
def mT (m : M (Bool × D)) : M Bool := mb m mBl
theorem dt_b {te : TE} {m : M (Bool × D)} (h : DE K W te m) : DT K W (tB te) (mT m) := by
  intro c G H σ ρ T Q hK hl R p
  exact h c G H σ ρ T _ hK hl R (Post.imp (Post.bind p) fun a ρ' G' H' hl' R' s q v r => bl_core hl' R' r q)
theorem dt_t {te : TE} {m : M (Bool × D)} (h : DE K W te m) : DT K W (tTest te) (mT m) := by
  intro c G H σ ρ T Q hK hl R p
  exact h c G H σ ρ T _ hK hl R (Post.imp (Post.bind p) fun a ρ' G' H' hl' R' s q v r => bl_core hl' R' r q)
def mTru (m : M Look) : M Bool := mOne (fun a => mo (truD a.2)) m
theorem dt_tru {te : TE} {m : M Look} (h : DB K W te m) : DT K W (fun σ H Q => te σ H fun x H' => ∃ k, TruV K x H' k ∧ Q k H') (mTru m) := by
  intro c G H σ ρ T Q hK hl R p
  refine one_core (ta := te) h hK hl R p fun a x G2 H2 ρ2 hl2 R2 s2 ia q => ?_
  subst hK
  cases e : truD a.2 with
  | none => rw [e] at q; exact q.elim
  | some k =>
    rw [e] at q
    exact ⟨k, tru_of ia e, q hl2 G2 H2 R2 (Same.refl G2)⟩
def mAnd (a b : M Bool) : M Bool := mb a fun k => if k = true then b else mp false
def mOr (a b : M Bool) : M Bool := mb a fun k => if k = true then mp true else b
def mNot (a : M Bool) : M Bool := mb a fun k => mp (!k)
theorem dt_and {t u : TT} {a b : M Bool} (ha : DT K W t a) (hb : DT K W u b) : DT K W (tAnd t u) (mAnd a b) := by
  intro c G H σ ρ T Q hK hl R p
  refine ha c G H σ ρ T _ hK hl R (Post.imp (Post.bind p) fun k ρ1 G1 H1 hl1 R1 s1 q => ?_)
  cases k with
  | true => exact iteT (hb c G1 H1 σ ρ1 T Q hK hl1 R1 q)
  | false => exact iteF (q hl1 G1 H1 R1 (Same.refl G1))
theorem dt_or {t u : TT} {a b : M Bool} (ha : DT K W t a) (hb : DT K W u b) : DT K W (tOr t u) (mOr a b) := by
  intro c G H σ ρ T Q hK hl R p
  refine ha c G H σ ρ T _ hK hl R (Post.imp (Post.bind p) fun k ρ1 G1 H1 hl1 R1 s1 q => ?_)
  cases k with
  | true => exact iteT (q hl1 G1 H1 R1 (Same.refl G1))
  | false => exact iteF (hb c G1 H1 σ ρ1 T Q hK hl1 R1 q)
theorem dt_not {t : TT} {a : M Bool} (ha : DT K W t a) : DT K W (tNot t) (mNot a) := by
  intro c G H σ ρ T Q hK hl R p
  exact ha c G H σ ρ T _ hK hl R (Post.imp (Post.bind p) fun k ρ1 G1 H1 hl1 R1 s1 q => q hl1 G1 H1 R1 (Same.refl G1))
theorem dt_yes : DT K W tYes (mp true) := fun c G H σ ρ T Q hK hl R p => p hl G H R (Same.refl G)
/-! ### and, or, not, if-else as values -/
def mAndV (a b : M (Bool × D)) : M (Bool × D) := mb a fun x => match x.2 with
  | .bl true => b
  | .bl false => mp (true, .bl false)
  | _ => mno
def mOrV (a b : M (Bool × D)) : M (Bool × D) := mb a fun x => match x.2 with
  | .bl true => mp (true, .bl true)
  | .bl false => b
  | _ => mno
def mNotV (a : M (Bool × D)) : M (Bool × D) := mb a fun x => match x.2 with
  | .bl k => mp (true, .bl (!k))
  | _ => mno
theorem de_and {ta tb : TE} {a b : M (Bool × D)} (ha : DE K W ta a) (hb : DE K W tb b) : DE K W (tAndV ta tb) (mAndV a b) := by
  intro c G H σ ρ T Q hK hl R p
  refine ha c G H σ ρ T _ hK hl R (Post.imp (Post.bind p) fun x ρ1 G1 H1 hl1 R1 s1 q v r => ?_)
  obtain ⟨f, x⟩ := x
  cases x with
  | bl k =>
    cases r
    cases k with
    | true => exact ⟨true, rfl, iteT (hb c G1 H1 σ ρ1 T Q hK hl1 R1 q)⟩
    | false => exact ⟨false, rfl, iteF (q hl1 G1 H1 R1 (Same.refl G1) _ (.bl _))⟩
  | _ => exact False.elim q
def mNotT (m : M Look) : M (Bool × D) := mOne (fun a => mo ((truD a.2).map fun k => (true, .bl (!k)))) m
def mIf {α : Type} (t : M Bool) (a b : M α) : M α := mb t fun k => if k = true then a else b
theorem de_if {t : TT} {ta tb : TE} {m : M Bool} {a b : M (Bool × D)} (ht : DT K W t m) (ha : DE K W ta a) (hb : DE K W tb b) : DE K W (tIf t ta tb) (mIf m a b) := by
  intro c G H σ ρ T Q hK hl R p
  refine ht c G H σ ρ T _ hK hl R (Post.imp (Post.bind p) fun k ρ1 G1 H1 hl1 R1 s1 q => ?_)
  cases k with
  | true => exact iteT (ha c G1 H1 σ ρ1 T Q hK hl1 R1 q)
  | false => exact iteF (hb c G1 H1 σ ρ1 T Q hK hl1 R1 q)
theorem scal_bl (K : PySem.W.Frag) {v : V} {k : Bool} (h : Scal v (.bl k)) : v = .bl k := by
  cases h K (fun _ => none) (fun _ => True)
  rfl
/-- a < b < c -/
def chK (f g : D → D → Option D) (fb : Look) (md : M Look) (a b : Bool × D) : M (Bool × D) := match f a.2 b.2 with
  | some (.bl true) => mb md fun fd => fun ρ => match fb ρ, fd ρ with
    | some b', some d => (match g b'.2 d.2 with | some z => .ok (true, z) ρ | none => .no)
    | _, _ => .no
  | some (.bl false) => mp (true, .bl false)
  | _ => mno
def mChain (f g : D → D → Option D) (ma mc md : M Look) : M (Bool × D) := mb ma fun fa => mb mc fun fb => fun ρ => match fa ρ, fb ρ with
  | some a, some b => chK f g fb md a b ρ
  | _, _ => .no
theorem de_chain {r r' : R2} {f g : D → D → Option D} {ta tb tc : TE} {ma mc md : M Look} (hr : OpS K r f) (hr' : OpS K r' g) (ha : DB K W ta ma) (hb : DB K W tb mc) (hd : DB K W tc md) : DE K W (tChain r r' ta tb tc) (mChain f g ma mc md) := by
  intro c G H σ ρ T Q hK hl R p
  refine ha c G H σ ρ T _ hK hl R (Post.imp (Post.bind p) fun fa ρ1 G1 H1 hl1 R1 s1 q1 x lx => ?_)
  refine hb c G1 H1 σ ρ1 T _ hK hl1 R1 (Post.imp (Post.bind q1) fun fb ρ2 G2 H2 hl2 R2 s2 q2 y ly => ?_)
  cases e1 : fa ρ2 with
  | none => rw [e1] at q2; exact q2.elim
  | some a => cases e2 : fb ρ2 with
    | none => rw [e1, e2] at q2; exact q2.elim
    | some b =>
      rw [e1, e2] at q2
      have q3 : Post c G2 T σ W (fun a _ G' H' => ∀ v, Dr c.K G' (Fl c a.1) v a.2 → Q v H') (chK f g fb md a b ρ2) := q2
      cases e3 : f a.2 b.2 with
      | none => unfold chK at q3; rw [e3] at q3; exact q3.elim
      | some d =>
        refine hr c G2 H2 a.1 b.1 x y a.2 b.2 d _ hK (lx G2 H2 ρ2 _ _ R2 hl2 s2 e1) (ly G2 H2 ρ2 _ _ R2 hl2 (Same.refl G2) e2) e3 fun v hv => ?_
        unfold chK at q3
        rw [e3] at q3
        cases d with
        | bl k =>
          cases scal_bl K hv
          cases k with
          | true =>
            refine ⟨true, rfl, iteT ?_⟩
            refine hd c G2 H2 σ ρ2 T _ hK hl2 R2 (Post.imp (Post.bind q3) fun fd ρ3 G3 H3 hl3 R3 s3 q4 w lw => ?_)
            cases e4 : fb ρ3 with
            | none => rw [e4] at q4; exact q4.elim
            | some b' => cases e5 : fd ρ3 with
              | none => rw [e4, e5] at q4; exact q4.elim
              | some d' =>
                rw [e4, e5] at q4
                dsimp only at q4
                cases e6 : g b'.2 d'.2 with
                | none => rw [e6] at q4; exact q4.elim
                | some z =>
                  rw [e6] at q4
                  exact hr' c G3 H3 b'.1 d'.1 y w b'.2 d'.2 z Q hK (ly G3 H3 ρ3 _ _ R3 hl3 s3 e4) (lw G3 H3 ρ3 _ _ R3 hl3 (Same.refl G3) e5) e6 fun v hv => q4 hl3 G3 H3 R3 (Same.refl G3) v (hv _ _ _)
          | false => exact ⟨false, rfl, iteF (q3 hl2 G2 H2 R2 (Same.refl G2) _ (.bl _))⟩
        | _ => exact False.elim q3
end
end Da
end F22
section F23
namespace Da
open PySem PySem.Spec PyProof.Rows L2 He Ds
variable [Tabl]
/-! ### what a def comes to -/
inductive Out where
  | no | er (k : Str) (d : D) | ok (fr : Bool) (d : D)
/-- .. one that changes the drawn ints, which it is passed first -/
inductive OutP where
  | no | ok (fr : Bool) (d : D) (ns : List Int)
/-- .. an __init__ -/
inductive OutI where
  | no | er (k : Str) (d : D) | ok (ns : List Str) (ds : List D)
def OkAt (K : PySem.W.Frag) (G H : Hp) (E : XK) (k : Str) (d : D) (hh : Hp → Prop) : Prop :=
  ∀ v x G' H', hh H' → TbsAt K G' H' → Same G G' → Same G' H' → (∀ b, H b ≠ none → G' b = G b) → Dr K G' (fun _ => True) v d → G' x = some (.xd [("value", v)]) → E (.ref (ga K k)) (some x) H'
/-- the promise of a def that changes nothing -/
def spD (K : PySem.W.Frag) (f : List D → Out) : Sp := fun us H Q E => ∃ G ds, Same G H ∧ TbsAt K G H ∧ DrA K G (fun _ => True) us ds ∧ match f ds with
  | .no => False
  | .ok fr d => ∀ v G' H', Old (fun _ => False) H H' → TbsAt K G' H' → Same G G' → Same G' H' → (∀ b, H b ≠ none → G' b = G b) → Dr K G' (fun a => fr = true → G a = none) v d → Q v H'
  | .er k d => OkAt K G H E k d (Old (fun _ => False) H)
def spP (K : PySem.W.Frag) (f : List Int → List D → OutP) : Sp := fun us H Q _ => ∃ p vs ns G ds, us = .ref p :: vs ∧ H p = some (.lst (ns.map V.int)) ∧ G p = none ∧ Same G H ∧ TbsAt K G H ∧ DrA K G (fun _ => True) vs ds ∧ match f ns ds with
  | .no => False
  | .ok fr d ns' => ∀ v G' H', Old (fun b => b = p) H H' → TbsAt K G' H' → H' p = some (.lst (ns'.map V.int)) → Same G G' → Same G' H' → (∀ b, H b ≠ none → G' b = G b) → Dr K G' (fun a => fr = true → G a = none) v d → Q v H'
def spI (K : PySem.W.Frag) (C : Str) (f : List D → OutI) : Sp := fun us H Q E => ∃ o dx vs G ds, us = .ref o :: vs ∧ H o = some (.ins (ga K C) dx []) ∧ G o = none ∧ Same G H ∧ TbsAt K G H ∧ DrA K G (fun _ => True) vs ds ∧ match f ds with
  | .no => False
  | .ok ns es => ∀ G' H' dx' ws, Old (fun b => b = o) H H' → TbsAt K G' H' → H' o = some (.ins (ga K C) dx' (ns.zip ws)) → ns.length = ws.length → Same G G' → Same G' H' → (∀ b, H b ≠ none → G' b = G b) → DrA K G' (fun _ => True) ws es → Q .non H'
  | .er k d => OkAt K G H E k d (Old (fun b => b = o) H)
theorem tcall_nil {sp : Sp} {E : XK} {t : TA} {σ : L2.St} {H : Hp} {Q : VK} (h : t σ H fun vs H1 => sp vs H1 Q E) : tCall sp [] E t σ H Q := by
  show t σ H fun vs H1 => sp (vs ++ []) H1 Q E
  have e : (fun (vs : List V) (H1 : Hp) => sp (vs ++ []) H1 Q E) = fun vs H1 => sp vs H1 Q E := by
    funext vs H1
    rw [List.append_nil]
  rw [e]
  exact h
section
variable {K : PySem.W.Frag} {W : WX} {c : Cc} {G H : Hp} {σ : L2.St} {ρ : List Slot} {T : List En}
def mCallX (f : List D → Out) (ma : M (List Slot)) : M (Bool × D) := mDats ma fun r => fun ρ => match f r.2 with
  | .ok fr d => .ok (fr || flatD d, d) ρ
  | .er k d => .er k d ρ
  | .no => .no
def mCall (f : List D → Out) (ma : M (List Slot)) : M (Bool × D) := mDats ma fun r => fun ρ => match f r.2 with
  | .ok fr d => .ok (fr || flatD d, d) ρ
  | _ => .no
theorem fresh_in {E : List En} {fr : Bool} {v : V} {d : D} {G' : Hp} (R : Rel c G H E) (h : Dr c.K G' (fun a => fr = true → G a = none) v d) : Dr c.K G' (Fl c (fr || flatD d)) v d :=
  Dr.fl (h.mono (Same.refl G') fun a k z => R.g0n (k z))
theorem spd_of {f : List D → Out} {F0 : Addr → Prop} {ds : List D} {vs : List V} {Q : VK} {E' : XK} {E : List En} (R : Rel c G H E) (hd : DrA c.K G F0 vs ds) (q : match f ds with
    | .no => False
    | .ok fr d => ∀ v G' H', Rel c G' H' E → Same G G' → Dr c.K G' (Fl c (fr || flatD d)) v d → Q v H'
    | .er k d => ∀ v x G' H', Rel c G' H' E → Same G G' → Dr c.K G' (fun _ => True) v d → G' x = some (.xd [("value", v)]) → E' (.ref (ga c.K k)) (some x) H') : spD c.K f vs H Q E' := by
  refine ⟨G, ds, R.gs, R.tb, hd.top, ?_⟩
  cases e : f ds with
  | no => rw [e] at q; exact q
  | ok fr d =>
    rw [e] at q
    exact fun v G' H' sH tb sG gs gg h => q v G' H' (R.growO sH tb sG gs gg) sG (fresh_in R h)
  | er k d =>
    rw [e] at q
    exact fun v x G' H' sH tb sG gs gg h hx => q v x G' H' (R.growO sH tb sG gs gg) sG h hx
theorem de_callX {f : List D → Out} {ta : TA} {ma : M (List Slot)} (ha : DA K W ta ma) : DE K W (tCallS (spD K f) (WE W) ta) (mCallX f ma) := by
  intro c G H σ ρ T Q hK hl R p
  refine dats_core ha hK hl R p fun fr ds vs G2 H2 ρ2 hl2 R2 s2 hd hn q => ?_
  subst hK
  refine spd_of R2 hd ?_
  cases e : f ds with
  | no => dsimp only at q; rw [e] at q; exact q.elim
  | ok fr' d =>
    dsimp only at q
    rw [e] at q
    exact fun v G' H' R' sG h => q hl2 G' H' R' sG v h
  | er k d =>
    dsimp only at q
    rw [e] at q
    exact fun v x G' H' R' sG h hx => q hl2 v x G' H' R' sG h hx
theorem de_call {f : List D → Out} {ta : TA} {ma : M (List Slot)} (ha : DA K W ta ma) : DE K W (tCall (spD K f) [] E0 ta) (mCall f ma) := by
  intro c G H σ ρ T Q hK hl R p
  refine dats_core ha hK hl R p fun fr ds vs G2 H2 ρ2 hl2 R2 s2 hd hn q => ?_
  subst hK
  rw [List.append_nil]
  refine spd_of R2 hd ?_
  cases e : f ds with
  | no => dsimp only at q; rw [e] at q; exact q.elim
  | ok fr' d =>
    dsimp only at q
    rw [e] at q
    exact fun v G' H' R' sG h => q hl2 G' H' R' sG v h
  | er k d =>
    dsimp only at q
    rw [e] at q
    exact q.elim
/-! ### calls that change the drawn ints -/
theorem Rel.callMut {p : Addr} {s s' : Slot} {u : HO} {E : List En} {G' H' : Hp} (R : Rel c G H ((some (.ref p), s) :: E)) (hs : isOwn s = true) (hs' : isOwn s' = true) (hio : c.IO p ∨ c.H0 p = none) (k : Old (fun b => b = p) H H') (tb : TbsAt c.K G' H') (e : H' p = some u)
    (sG : Same G G') (gs : Same G' H') (gg : ∀ b, H b ≠ none → G' b = G b) (h : Held c G (upd H p u) p s') (hn : isNest s' = false := by rfl) : Rel c G' H' ((some (.ref p), s') :: E) := by
  refine (R.mutO hs hs' hio h hn).growN (fun b o eb nt => ?_) (fun b hb => ?_) tb sG gs fun b hb => ?_
  · by_cases z : b = p
    · subst z
      rw [upd_same] at eb
      rw [e]
      exact eb
    · rw [upd_ne z] at eb
      exact k.kp b o eb nt z
  · by_cases z : b = p
    · subst z; rw [e]; intro y; cases y
    · rw [upd_ne z] at hb
      exact k.al b hb
  · by_cases z : b = p
    · subst z
      obtain ⟨q, eq, _, h2, _, _⟩ := R.head hs
      cases eq
      exact gg b h2
    · rw [upd_ne z] at hb
      exact gg b hb
def mCallP (i : Nat) (f : List Int → List D → OutP) (ma : M (List Slot)) : M (Bool × D) := mDats ma fun r => fun ρ => match ρ[i]? with
  | some (.pool ns) => (match f ns r.2 with
    | .ok fr d ns' => .ok (fr || flatD d, d) (ρ.set i (.pool ns'))
    | .no => .no)
  | _ => .no
theorem callP_core {i : Nat} {f : List Int → List D → OutP} {ta : TA} {ma : M (List Slot)} {Q : VK} (ha : DA K W ta ma) (hK : c.K = K) (hl : σ.length = ρ.length) (R : Rel c G H (σ.zip ρ ++ T)) (hi : ∃ p ns, σ[i]? = some (some (V.ref p)) ∧ ρ[i]? = some (.pool ns))
    (p : Post c G T σ W (fun a _ G' H' => ∀ v, Dr c.K G' (Fl c a.1) v a.2 → Q v H') (mCallP i f ma ρ)) (E : XK) : (tCons (tVar i) ta) σ H fun vs H1 => spP K f vs H1 Q E := by
  obtain ⟨p0, ns0, e1, e2⟩ := hi
  refine ⟨.ref p0, e1, ?_⟩
  refine dats_core ha hK hl R p fun fr ds vs G2 H2 ρ2 hl2 R2 s2 hd hn q => ?_
  subst hK
  dsimp only at q
  cases e : ρ2[i]? with
  | none => rw [e] at q; exact q.elim
  | some s => cases s with
    | pool ns =>
      rw [e] at q
      dsimp only at q
      obtain ⟨o, e3, e4⟩ := zip_get hl2 e
      have eo : o = some (.ref p0) := Option.some.inj (e3.symm.trans e1)
      subst eo
      have R3 := R2.out e4
      obtain ⟨p1, eq, g1, h1, ⟨hio, h2⟩, _⟩ := R3.head rfl
      cases eq
      refine ⟨p0, vs, ns, G2, ds, rfl, h2, g1, R2.gs, R2.tb, hd.top, ?_⟩
      cases ef : f ns ds with
      | no => rw [ef] at q; exact q.elim
      | ok fr' d ns' =>
        rw [ef] at q
        dsimp only at q
        intro v G' H' k tb e' sG gs gg hv
        have R4 := R3.callMut (s' := .pool ns') rfl rfl (.inl hio) k tb e' sG gs gg ⟨hio, upd_same⟩
        have R5 := R4.back' hl2 e3
        refine q (by rw [List.length_set]; exact hl2) G' H' R5 sG v ?_
        exact fresh_in R2 hv
    | _ => rw [e] at q; exact q.elim
/-- the drawn ints are where they are said to be -/
def hasPool (i : Nat) (ρ : List Slot) : Bool := match ρ[i]? with
  | some (.pool _) => true
  | _ => false
theorem hasPool_of {i : Nat} (hl : σ.length = ρ.length) (R : Rel c G H (σ.zip ρ ++ T)) (h : hasPool i ρ = true) : ∃ p ns, σ[i]? = some (some (V.ref p)) ∧ ρ[i]? = some (.pool ns) := by
  unfold hasPool at h
  cases e : ρ[i]? with
  | none => rw [e] at h; cases h
  | some s => cases s with
    | pool ns =>
      obtain ⟨o, e1, e2⟩ := zip_get hl e
      obtain ⟨p, eo, _⟩ := R.sl _ (zip_mem (T := T) e2)
      cases eo
      exact ⟨p, ns, e1, rfl⟩
    | _ => rw [e] at h; cases h
def mPool (i : Nat) (f : List Int → List D → OutP) (ma : M (List Slot)) : M (Bool × D) := fun ρ => if hasPool i ρ = true then mCallP i f ma ρ else .no
theorem de_callP {i : Nat} {f : List Int → List D → OutP} {ta : TA} {ma : M (List Slot)} (ha : DA K W ta ma) : DE K W (tCall (spP K f) [] E0 (tCons (tVar i) ta)) (mPool i f ma) := by
  intro c G H σ ρ T Q hK hl R p
  unfold mPool at p
  by_cases h : hasPool i ρ = true
  · rw [if_pos h] at p
    have z := callP_core (W := W) ha hK hl R (hasPool_of hl R h) p E0
    exact tcall_nil z
  · rw [if_neg h] at p
    exact p.elim
end
end Da
end F23
section F24
namespace Da
open PySem PySem.Spec PyProof.Rows L2 He Ds
variable [Tabl]
section
variable {K : PySem.W.Frag} {W : WX} {c : Cc} {G H : Hp} {σ : L2.St} {ρ : List Slot} {T : List En}
/-! ### fields of an instance -/
theorem lookup_zip {α : Type} : ∀ {ns : List Str} {xs : List α} {f : Str} {i : Nat}, ns.length = xs.length → ns.idxOf? f = some i → ∃ v, xs[i]? = some v ∧ (ns.zip xs).lookup f = some v
  | [], _, f, i, _, h => by simp [List.idxOf?] at h
  | n :: ns, [], f, i, hl, _ => by simp at hl
  | n :: ns, x :: xs, f, i, hl, h => by
    rw [List.idxOf?_cons] at h
    rw [List.zip_cons_cons, List.lookup_cons]
    by_cases e : (n == f) = true
    · rw [if_pos e] at h
      cases h
      have e2 : (f == n) = true := by
        have := eq_of_beq e
        subst this
        exact beq_self_eq_true _
      rw [e2]
      exact ⟨x, rfl, rfl⟩
    · rw [if_neg e] at h
      obtain ⟨j, hj, rfl⟩ := Option.map_eq_some_iff.mp h
      obtain ⟨v, h1, h2⟩ := lookup_zip (f := f) (by simpa using hl) hj
      have e2 : (f == n) = false := by
        cases q : f == n with
        | false => rfl
        | true => exact absurd (by rw [eq_of_beq q]; exact beq_self_eq_true _) e
      rw [e2]
      exact ⟨v, by simpa using h1, h2⟩
def fldD (C f : Str) (a : D) : Option D := match a with
  | .obj C' ns ds => if C' = C then (ns.idxOf? f).bind fun i => ds[i]? else none
  | _ => none
def mFld (C f : Str) (m : M Look) : M (Bool × D) := mOne (fun a => mo ((fldD C f a.2).map fun d => (flatD d, d))) m
theorem de_fld {C f : Str} {te : TE} {m : M Look} (hC : Cls K (ga K C)) (hA : NoAttr K (ga K C) f) (h : DB K W te m) : DE K W (tFld K te f) (mFld C f m) := by
  intro c G H σ ρ T Q hK hl R p
  refine one_core (ta := te) h hK hl R p fun a x G2 H2 ρ2 hl2 R2 s2 ia q => ?_
  subst hK
  obtain ⟨fr, a⟩ := a
  dsimp only at q
  cases a with
  | obj C' ns ds =>
    unfold fldD at q
    dsimp only at q
    by_cases e : C' = C
    · subst e
      rw [if_pos rfl] at q
      cases e1 : ns.idxOf? f with
      | none => rw [e1] at q; exact q.elim
      | some i =>
        rw [e1] at q
        dsimp only [Option.bind_some] at q
        cases e2 : ds[i]? with
        | none => rw [e2] at q; exact q.elim
        | some d =>
          rw [e2] at q
          obtain ⟨p, dx, vs, rfl, h1, h2, h3⟩ := ia.2
          obtain ⟨v, h4, h5⟩ := h3.get' e2
          obtain ⟨v', h6, h7⟩ := lookup_zip h2 e1
          rw [h4] at h6
          cases h6
          exact ⟨p, _, dx, _, v, rfl, h1, hC, hA, h7, q hl2 G2 H2 R2 (Same.refl G2) v h5.tr⟩
    · rw [if_neg e] at q
      exact q.elim
  | _ => exact False.elim q
/-! ### properties and methods -/
def isObj (C : Str) : D → Bool
  | .obj C' _ _ => decide (C' = C)
  | _ => false
def outM (o : Out) : M (Bool × D) := match o with
  | .ok fr d => mp (fr || flatD d, d)
  | .er k d => fun ρ => .er k d ρ
  | .no => mno
def outN (o : Out) : M (Bool × D) := match o with
  | .ok fr d => mp (fr || flatD d, d)
  | _ => mno
theorem outN_spd {f : List D → Out} {F0 : Addr → Prop} {ds : List D} {vs : List V} {Q : VK} (E : XK) (hl : σ.length = ρ.length) (R : Rel c G H (σ.zip ρ ++ T)) (hd : DrA c.K G F0 vs ds) (q : Post c G T σ W (fun a _ G' H' => ∀ v, Dr c.K G' (Fl c a.1) v a.2 → Q v H') (outN (f ds) ρ)) :
    spD c.K f vs H Q E := by
  refine spd_of R hd ?_
  cases e : f ds with
  | no => rw [e] at q; exact q.elim
  | ok fr d => rw [e] at q; exact fun v G' H' R' sG h => q hl G' H' R' sG v h
  | er k d => rw [e] at q; exact q.elim
def mProp (C : Str) (f : List D → Out) (m : M (Bool × D)) : M (Bool × D) := mb m fun a => if isObj C a.2 = true then outN (f [a.2]) else mno
theorem obj_at {F : Addr → Prop} {v : V} {d : D} {C : Str} (s : Same G H) (h : Dr K G F v d) (e : isObj C d = true) : ∃ p dx ns xs ds, v = .ref p ∧ d = .obj C ns ds ∧ H p = some (.ins (ga K C) dx (ns.zip xs)) ∧ ns.length = xs.length := by
  cases h with
  | obj h1 h2 h3 =>
    unfold isObj at e
    have e' := of_decide_eq_true e
    subst e'
    exact ⟨_, _, _, _, _, rfl, rfl, s _ _ h1, h2⟩
  | _ => cases e
theorem de_prop {C : Str} {f : List D → Out} {te : TE} {m : M (Bool × D)} (h : DE K W te m) : DE K W (tProp (ga K C) (spD K f) [] E0 te) (mProp C f m) := by
  intro c G H σ ρ T Q hK hl R p
  refine h c G H σ ρ T _ hK hl R (Post.imp (Post.bind p) fun a ρ1 G1 H1 hl1 R1 s1 q v r => ?_)
  subst hK
  by_cases e : isObj C a.2 = true
  · rw [if_pos e] at q
    obtain ⟨pp, dx, ns, xs, ds, rfl, e2, h1, _⟩ := obj_at R1.gs r e
    exact ⟨pp, dx, _, rfl, h1, outN_spd E0 hl1 R1 (.cons r .nil) q⟩
  · rw [if_neg e] at q
    exact q.elim
def isObjM (C m : Str) : D → Bool
  | .obj C' ns _ => decide (C' = C) && !ns.contains m
  | _ => false
def mMeth (C m : Str) (f : List D → Out) (mo : M (Bool × D)) (ma : M (List Slot)) : M (Bool × D) := mb mo fun a => if isObjM C m a.2 = true then mDats ma fun r => outM (f (a.2 :: r.2)) else mno
def mMethN (C m : Str) (f : List D → Out) (mo : M (Bool × D)) (ma : M (List Slot)) : M (Bool × D) := mb mo fun a => if isObjM C m a.2 = true then mDats ma fun r => outN (f (a.2 :: r.2)) else mno
/-! ### a new instance -/
def outI (C : Str) (o : OutI) : M (Bool × D) := match o with
  | .ok ns ds => mp (true, .obj C ns ds)
  | .er k d => fun ρ => .er k d ρ
  | .no => mno
def outIN (C : Str) (o : OutI) : M (Bool × D) := match o with
  | .ok ns ds => mp (true, .obj C ns ds)
  | _ => mno
theorem make_core {C : Str} {f : List D → OutI} {fr0 : Bool} {ds : List D} {vs : List V} {Q : VK} {E' : XK} {E : List En} (R : Rel c G H E) (hd : DrA c.K G (Fl c fr0) vs ds) (q : match f ds with
    | .no => False
    | .ok ns es => ∀ v G' H', Rel c G' H' E → Same G G' → Dr c.K G' (Fl c true) v (.obj C ns es) → Q v H'
    | .er k d => ∀ v x G' H', Rel c G' H' E → Same G G' → Dr c.K G' (fun _ => True) v d → G' x = some (.xd [("value", v)]) → E' (.ref (ga c.K k)) (some x) H') :
    ∀ x dx, H x = none → H dx = none → dx ≠ x → spI c.K C f (.ref x :: vs) (upd (upd H dx (.own x)) x (.ins (ga c.K C) dx [])) (fun v H2 => v = .non ∧ Q (.ref x) H2) E' := by
  intro x dx nx ndx hne
  have n1 : upd H dx (.own x) x = none := by rw [upd_ne (fun e => hne e.symm)]; exact nx
  have R1 := (R.new0 (o := .own x) ndx).new0 (o := .ins (ga c.K C) dx []) n1
  have sH : ∀ b u, H b = some u → upd (upd H dx (.own x)) x (.ins (ga c.K C) dx []) b = some u := fun b u e => by
    rw [upd_ne (ne_of_none e nx), upd_ne (ne_of_none e ndx)]
    exact e
  have nn : ∀ b, H b ≠ none → upd (upd H dx (.own x)) x (.ins (ga c.K C) dx []) b ≠ none := fun b hb => by
    cases e : H b with
    | none => exact absurd e hb
    | some u => rw [sH b u e]; intro z; cases z
  refine ⟨x, dx, vs, G, ds, rfl, upd_same, R.gn nx, R1.gs, R1.tb, hd.top, ?_⟩
  cases e : f ds with
  | no => rw [e] at q; exact q
  | ok ns es =>
    rw [e] at q
    intro G' H' dx' ws k tb hx hlw sG gs gg hw
    refine ⟨rfl, ?_⟩
    have hG : G' x = none := by rw [gg x (by rw [upd_same]; intro z; cases z)]; exact R.gn nx
    have sG' : Same G' (upd G' x (.ins (ga c.K C) dx' (ns.zip ws))) := same_new (Same.refl G') hG
    refine q (.ref x) (upd G' x (.ins (ga c.K C) dx' (ns.zip ws))) H' (R.growN (fun b u eb nt => k.kp b u (sH b u eb) nt (ne_of_none eb nx)) (fun b hb => k.al b (nn b hb)) (tb.keep sG' fun b hb ht => ⟨rfl, upd_ne fun z => ht _ (z ▸ hx) fun ps y => by cases y⟩) (sG.trans sG') (fun b u eb => ?_) fun b hb => ?_) (sG.trans sG') (.obj upd_same hlw (hw.up sG'))
    · by_cases z : b = x
      · subst z
        rw [upd_same] at eb
        rw [hx]
        exact eb
      · rw [upd_ne z] at eb
        exact gs b u eb
    · rw [upd_ne (fun z => hb (by rw [z]; exact nx)), gg b (nn b hb)]
  | er k d =>
    rw [e] at q
    intro v y G' H' kk tb sG gs gg hv hy
    exact q v y G' H' (R.growN (fun b u eb nt => kk.kp b u (sH b u eb) nt (ne_of_none eb nx)) (fun b hb => kk.al b (nn b hb)) tb sG gs fun b hb => gg b (nn b hb)) sG hv hy
def mMake (C : Str) (f : List D → OutI) (ma : M (List Slot)) : M (Bool × D) := mDats ma fun r => outIN C (f r.2)
def mMakeX (C : Str) (f : List D → OutI) (ma : M (List Slot)) : M (Bool × D) := mDats ma fun r => outI C (f r.2)
theorem de_make {C : Str} {f : List D → OutI} {ta : TA} {ma : M (List Slot)} (ha : DA K W ta ma) : DE K W (tMake (ga K C) (spI K C f) [] E0 ta) (mMake C f ma) := by
  intro c G H σ ρ T Q hK hl R p
  subst hK
  have z : ta σ H fun vs H1 => ∀ x dx, H1 x = none → H1 dx = none → dx ≠ x → spI c.K C f (.ref x :: vs) (upd (upd H1 dx (.own x)) x (.ins (ga c.K C) dx [])) (fun v H2 => v = .non ∧ Q (.ref x) H2) E0 := by
    refine dats_core ha rfl hl R p fun fr ds vs G2 H2 ρ2 hl2 R2 s2 hd hn q => make_core R2 hd ?_
    dsimp only at q
    cases e : f ds with
    | no => rw [e] at q; exact q.elim
    | ok ns es => rw [e] at q; exact fun v G' H' R' sG h => q hl2 G' H' R' sG v h
    | er k d => rw [e] at q; exact q.elim
  have e : (fun (vs : List V) (H1 : Hp) => ∀ x dx, H1 x = none → H1 dx = none → dx ≠ x → spI c.K C f (.ref x :: (vs ++ [])) (upd (upd H1 dx (.own x)) x (.ins (ga c.K C) dx [])) (fun v H2 => v = .non ∧ Q (.ref x) H2) E0) =
      fun vs H1 => ∀ x dx, H1 x = none → H1 dx = none → dx ≠ x → spI c.K C f (.ref x :: vs) (upd (upd H1 dx (.own x)) x (.ins (ga c.K C) dx [])) (fun v H2 => v = .non ∧ Q (.ref x) H2) E0 := by
    funext vs H1
    rw [List.append_nil]
  show ta σ H _
  rw [e]
  exact z
theorem de_makeX {C : Str} {f : List D → OutI} {ta : TA} {ma : M (List Slot)} (ha : DA K W ta ma) : DE K W (tMkS (ga K C) (spI K C f) (WE W) ta) (mMakeX C f ma) := by
  intro c G H σ ρ T Q hK hl R p
  subst hK
  refine dats_core ha rfl hl R p fun fr ds vs G2 H2 ρ2 hl2 R2 s2 hd hn q => make_core R2 hd ?_
  dsimp only at q
  cases e : f ds with
  | no => rw [e] at q; exact q.elim
  | ok ns es => rw [e] at q; exact fun v G' H' R' sG h => q hl2 G' H' R' sG v h
  | er k d => rw [e] at q; exact fun v x G' H' R' sG h hx => q hl2 v x G' H' R' sG h hx
end
end Da
end F24
section F25
namespace Da
open PySem PySem.Spec PyProof.Rows L2 He Ds
variable [Tabl]
/-! ### what a loop walks -/
/-- need: things of the call's own that must stand while it is walked -/
def ItsN (c : Cc) (need : List En) (G' : Hp) (items : List (Bool × D)) (J : It) : Prop := ∀ i Gc Hc Ec, Rel c Gc Hc Ec → (∀ x ∈ need, x ∈ Ec) → Same G' Gc →
  (∀ a, items[i]? = some a → J.go i Hc ∧ ∀ x H', J.yld i Hc x H' → ∃ Gn, Same Hc H' ∧ Same Gc Gn ∧ Same Gn H' ∧ (∀ b, Hc b ≠ none → Gn b = Gc b) ∧ Dr c.K Gn (Fl c a.1) x a.2) ∧ (items.length ≤ i → J.stop i Hc)
abbrev Its (c : Cc) (G' : Hp) (items : List (Bool × D)) (J : It) : Prop := ItsN c [] G' items J
def DI (K : PySem.W.Frag) (W : WX) (wi : TI) (m : M (List (Bool × D))) : Prop :=
  ∀ (c : Cc) (G H : Hp) (σ : L2.St) (ρ : List Slot) (T : List En) (R : It → Hp → Prop), c.K = K → σ.length = ρ.length → Rel c G H (σ.zip ρ ++ T) →
    Post c G T σ W (fun its _ G' H' => ∀ J, Its c G' its J → R J H') (m ρ) → wi σ H R
def tagL (f : Bool) (ds : List D) : List (Bool × D) := ds.map fun d => (f || flatD d, d)
section
variable {K : PySem.W.Frag} {W : WX} {c : Cc} {G H : Hp} {σ : L2.St} {ρ : List Slot} {T : List En}
theorem tagL_get {f : Bool} {ds : List D} {i : Nat} {a : Bool × D} (h : (tagL f ds)[i]? = some a) : ds[i]? = some a.2 ∧ a.1 = (f || flatD a.2) := by
  unfold tagL at h
  rw [List.getElem?_map] at h
  cases e : ds[i]? with
  | none => rw [e] at h; cases h
  | some d => rw [e] at h; cases h; exact ⟨rfl, rfl⟩
theorem dr_at {f : Bool} {vs : List V} {ds : List D} {i : Nat} {a : Bool × D} (t : DrA K G (Fl c f) vs ds) (h : (tagL f ds)[i]? = some a) : ∃ v, vs[i]? = some v ∧ Dr K G (Fl c a.1) v a.2 := by
  obtain ⟨h1, h2⟩ := tagL_get h
  obtain ⟨v, h3, h4⟩ := t.get' h1
  exact ⟨v, h3, by rw [h2]; exact h4.fl⟩
def itList (a : Bool × D) : Option (List (Bool × D)) := match a.2 with
  | .lst ds => some (tagL a.1 ds)
  | _ => none
def mIt (k : Bool × D → Option (List (Bool × D))) (m : M (Bool × D)) : M (List (Bool × D)) := mb m fun a => mo (k a)
theorem it_core {P : List (Bool × D) → List Slot → Hp → Hp → Prop} {k : Bool × D → Option (List (Bool × D))} {te : TE} {m : M (Bool × D)} {r' : V → Hp → Prop} (h : DE K W te m) (hK : c.K = K) (hl : σ.length = ρ.length) (R : Rel c G H (σ.zip ρ ++ T)) (p : Post c G T σ W P (mIt k m ρ))
    (fin : ∀ a v its G2 H2 ρ2, σ.length = ρ2.length → Rel c G2 H2 (σ.zip ρ2 ++ T) → Same G G2 → Dr c.K G2 (Fl c a.1) v a.2 → k a = some its → P its ρ2 G2 H2 → r' v H2) : te σ H r' := by
  refine h c G H σ ρ T _ hK hl R (Post.imp (Post.bind p) fun a ρ1 G1 H1 hl1 R1 s1 q v r => ?_)
  cases e : k a with
  | none => rw [e] at q; exact q.elim
  | some its =>
    rw [e] at q
    exact fin a v its G1 H1 ρ1 hl1 R1 s1 r e (q hl1 G1 H1 R1 (Same.refl G1))
theorem same_seq {a : Addr} {xs : List V} {G' : Hp} (e : G a = some (.lst xs)) (s1 : Same G G') (s2 : Same G' H) : SqL K H a xs := SqL.of (s2 _ _ (s1 _ _ e))
theorem di_list {te : TE} {m : M (Bool × D)} (h : DE K W te m) : DI K W (iList K te) (mIt itList m) := by
  intro c G H σ ρ T R' hK hl R p
  refine it_core (te := te) h hK hl R p fun a v its G2 H2 ρ2 hl2 R2 s2 r e q => ?_
  subst hK
  obtain ⟨f, a⟩ := a
  cases r with
  | lst e1 _ t =>
    cases e
    refine ⟨_, rfl, ⟨_, SqL.of (R2.gs _ _ e1)⟩, q _ fun i Gc Hc Ec RR _ s1 => (fun s3 => ⟨fun a ha => ?_, fun hi => ?_⟩) RR.gs⟩
    · obtain ⟨v, h1, h2⟩ := dr_at t ha
      refine ⟨⟨_, v, same_seq e1 s1 s3, h1⟩, fun x H' hy => ?_⟩
      obtain ⟨rfl, hx⟩ := hy
      have hx' := hx _ (same_seq e1 s1 s3)
      rw [h1] at hx'
      cases hx'
      exact ⟨Gc, Same.refl _, Same.refl _, s3, fun _ _ => rfl, h2.up s1⟩
    · refine ⟨_, same_seq e1 s1 s3, ?_⟩
      rw [t.len]
      unfold tagL at hi
      rwa [List.length_map] at hi
  | _ => cases e
def itTup (a : Bool × D) : Option (List (Bool × D)) := match a.2 with
  | .tup ds => some (tagL a.1 ds)
  | _ => none
def rngD (lo : Int) (n : Nat) : List (Bool × D) := (List.range n).map fun i : Nat => (true, D.int (lo + (i : Int)))
theorem its_range {lo : Int} {n : Nat} {G' : Hp} : Its c G' (rngD lo n) (Itr lo n) := by
  intro i Gc Hc Ec RR _ s1
  have s3 := RR.gs
  refine ⟨fun a ha => ?_, fun hi => ?_⟩
  · unfold rngD at ha
    rw [List.getElem?_map] at ha
    by_cases h : i < n
    · rw [List.getElem?_range h] at ha
      cases ha
      refine ⟨h, fun x H' hy => ?_⟩
      obtain ⟨rfl, rfl⟩ := hy
      exact ⟨Gc, Same.refl _, Same.refl _, s3, fun _ _ => rfl, .int _⟩
    · rw [List.getElem?_eq_none (by simp; omega)] at ha
      cases ha
  · unfold rngD at hi
    simp at hi
    exact hi
def smallI (i : Int) : Bool := decide (-1000000 ≤ i) && decide (i ≤ 1000000)
theorem smallI_of {i : Int} (h : smallI i = true) : -(2 ^ 62) ≤ i ∧ i < 2 ^ 62 := by
  unfold smallI at h
  rw [Bool.and_eq_true] at h
  have h1 := of_decide_eq_true h.1
  have h2 := of_decide_eq_true h.2
  omega
def rng1 (ds : List D) : Option (List (Bool × D)) := match ds with
  | [.int j] => if smallI j = true then some (rngD 0 j.toNat) else none
  | _ => none
def mRng (k : List D → Option (List (Bool × D))) (ma : M (List Slot)) : M (List (Bool × D)) := mDats ma fun r => mo (k r.2)
theorem di_rng1 {ta : TA} {ma : M (List Slot)} (ha : DA K W ta ma) : DI K W (iRng1 ta) (mRng rng1 ma) := by
  intro c G H σ ρ T R' hK hl R p
  refine dats_core ha hK hl R p fun fr ds vs G2 H2 ρ2 hl2 R2 s2 hd hn q => ?_
  dsimp only at q
  cases e : rng1 ds with
  | none => rw [e] at q; exact q.elim
  | some its =>
    rw [e] at q
    unfold rng1 at e
    split at e
    · rename_i j
      split at e
      · rename_i hj
        cases e
        cases hd with
        | cons h t =>
          cases h
          cases t
          obtain ⟨h1, h2⟩ := smallI_of hj
          exact ⟨j, rfl, h1, h2, q hl2 G2 H2 R2 (Same.refl G2) _ its_range⟩
      · cases e
    · cases e
/-- enumerate -/
def enD (f : Bool) : Nat → List D → List (Bool × D)
  | _, [] => []
  | i, d :: ds => (f || flatD d, .tup [.int (i : Nat), d]) :: enD f (i + 1) ds
theorem enD_get {f : Bool} : ∀ {ds : List D} {k i : Nat} {a : Bool × D}, (enD f k ds)[i]? = some a → ∃ d, ds[i]? = some d ∧ a = (f || flatD d, .tup [.int ((k + i : Nat) : Int), d])
  | [], _, _, _, h => by simp [enD] at h
  | d :: ds, k, 0, a, h => by
    simp [enD] at h
    exact ⟨d, rfl, h.symm⟩
  | d :: ds, k, i + 1, a, h => by
    simp only [enD, List.getElem?_cons_succ] at h
    obtain ⟨d', h1, h2⟩ := enD_get h
    refine ⟨d', by simpa using h1, ?_⟩
    rw [h2, show k + 1 + i = k + (i + 1) by omega]
theorem enD_len {f : Bool} : ∀ {ds : List D} {k : Nat}, (enD f k ds).length = ds.length
  | [], _ => rfl
  | d :: ds, k => by simp [enD, enD_len]
def itEnum (ds : List D) (f : Bool) : Option (List (Bool × D)) := match ds with
  | [.lst xs] => some (enD f 0 xs)
  | _ => none
def mEnum (ma : M (List Slot)) : M (List (Bool × D)) := mDats ma fun r => mo (itEnum r.2 r.1)
theorem di_enum {ta : TA} {ma : M (List Slot)} (ha : DA K W ta ma) : DI K W (iEnum K ta) (mEnum ma) := by
  intro c G H σ ρ T R' hK hl R p
  refine dats_core ha hK hl R p fun fr ds vs G2 H2 ρ2 hl2 R2 s2 hd hn q => ?_
  subst hK
  dsimp only at q
  cases e : itEnum ds fr with
  | none => rw [e] at q; exact q.elim
  | some its =>
    rw [e] at q
    unfold itEnum at e
    split at e
    · rename_i xs
      cases e
      cases hd with
      | cons h t =>
        cases t
        cases h with
        | lst e1 _ t =>
          refine ⟨_, _, rfl, SqL.of (R2.gs _ _ e1), q hl2 G2 H2 R2 (Same.refl G2) _ fun i Gc Hc Ec RR _ s1 => (fun s3 => ⟨fun a ha => ?_, fun hi => ?_⟩) RR.gs⟩
          · obtain ⟨d, h1, rfl⟩ := enD_get ha
            obtain ⟨v, h2, h3⟩ := t.get' h1
            refine ⟨⟨_, v, same_seq e1 s1 s3, h2⟩, fun x H' hy => ?_⟩
            obtain ⟨P, x', rfl, hP, rfl, hx⟩ := hy
            have hx' := hx _ (same_seq e1 s1 s3)
            rw [h2] at hx'
            cases hx'
            have gP : Gc P = none := s3.free hP
            have sG : ∀ o, Same Gc (upd Gc P o) := fun o => same_new (Same.refl Gc) gP
            refine ⟨upd Gc P (.tup [.int (i : Nat), v]), same_new (Same.refl Hc) hP, sG _, fun b u e => ?_, fun b hb => upd_ne fun e => hb (e ▸ hP), ?_⟩
            · by_cases hb : b = P
              · subst hb
                rw [upd_same] at e ⊢
                exact e
              · rw [upd_ne hb] at e ⊢
                exact s3 b u e
            · rw [Nat.zero_add]
              exact .tup upd_same (.cons (.int _) (.cons ((h3.fl.up s1).up (sG _)) .nil))
          · refine ⟨_, same_seq e1 s1 s3, ?_⟩
            rw [t.len]
            rwa [enD_len] at hi
    · cases e
/-! ### targets -/
abbrev Tgt := Bool × D → List Slot → Option (List Slot)
/-- g stores data: only the slots tv may change -/
def DG (K : PySem.W.Frag) (tv : List Nat) (g : TG) (t : Tgt) : Prop :=
  ∀ (c : Cc) (G H : Hp) (σ : L2.St) (ρ ρ' : List Slot) (T : List En) (v : V) (a : Bool × D) (Q : L2.St → Hp → Prop), c.K = K → σ.length = ρ.length → Rel c G H (σ.zip ρ ++ T) → Dr c.K G (Fl c a.1) v a.2 → t a ρ = some ρ' →
    (∀ σ', σ'.length = ρ'.length → σ'.length = σ.length → (∀ i, i ∉ tv → σ'[i]? = σ[i]?) → Rel c G H (σ'.zip ρ' ++ T) → Q σ' H) → g v σ H Q
def tgName (i : Nat) : Tgt := fun a ρ => if i < ρ.length then some (ρ.set i (.dat a.1 a.2)) else none
theorem Rel.put {i : Nat} {v : V} {s : Slot} (hl : σ.length = ρ.length) (hi : i < ρ.length) (R : Rel c G H ((some v, s) :: (σ.zip ρ ++ T))) : Rel c G H ((σ.set i (some v)).zip (ρ.set i s) ++ T) := by
  refine Rel.back hl (by omega) (R.subl ?_)
  refine (List.Sublist.cons₂ _ ?_)
  unfold rest
  exact (List.eraseIdx_sublist _ _).append_right T
theorem dg_name (i : Nat) : DG K [i] (gName i) (tgName i) := by
  intro c G H σ ρ ρ' T v a Q hK hl R r e q
  subst hK
  unfold tgName at e
  split at e
  · rename_i hi
    cases e
    refine q (σ.set i (some v)) (by rw [List.length_set, List.length_set]; exact hl) (List.length_set ..) (fun j hj => ?_) (Rel.put hl hi (R.dat r))
    rw [List.getElem?_set_ne (fun e => hj (by rw [e]; simp))]
  · cases e
def DGs (K : PySem.W.Frag) (tv : List Nat) (g : TGs) (t : Bool → List D → List Slot → Option (List Slot)) : Prop :=
  ∀ (c : Cc) (G H : Hp) (σ : L2.St) (ρ ρ' : List Slot) (T : List En) (vs : List V) (f : Bool) (ds : List D) (Q : L2.St → Hp → Prop), c.K = K → σ.length = ρ.length → Rel c G H (σ.zip ρ ++ T) → DrA c.K G (Fl c f) vs ds → t f ds ρ = some ρ' →
    (∀ σ', σ'.length = ρ'.length → σ'.length = σ.length → (∀ i, i ∉ tv → σ'[i]? = σ[i]?) → Rel c G H (σ'.zip ρ' ++ T) → Q σ' H) → g vs σ H Q
def tgsNil : Bool → List D → List Slot → Option (List Slot) := fun _ ds ρ => match ds with
  | [] => some ρ
  | _ :: _ => none
def tgsCons (t : Tgt) (u : Bool → List D → List Slot → Option (List Slot)) : Bool → List D → List Slot → Option (List Slot) := fun f ds ρ => match ds with
  | [] => none
  | d :: ds => (t (f || flatD d, d) ρ).bind fun ρ' => u f ds ρ'
theorem dgs_nil : DGs K [] gNil tgsNil := by
  intro c G H σ ρ ρ' T vs f ds Q hK hl R r e q
  cases r with
  | nil => cases e; exact ⟨rfl, q σ hl rfl (fun _ _ => rfl) R⟩
  | cons _ _ => cases e
theorem dgs_cons {tv tw : List Nat} {g : TG} {gs : TGs} {t : Tgt} {u : Bool → List D → List Slot → Option (List Slot)} (h : DG K tv g t) (hs : DGs K tw gs u) : DGs K (tv ++ tw) (gCons g gs) (tgsCons t u) := by
  intro c G H σ ρ ρ' T vs f ds Q hK hl R r e q
  cases r with
  | nil => cases e
  | cons r1 r2 =>
    obtain ⟨ρ1, e1, e2⟩ := Option.bind_eq_some_iff.mp (show (t _ ρ).bind _ = some ρ' from e)
    refine ⟨_, _, rfl, h c G H σ ρ ρ1 T _ _ _ hK hl R r1.fl e1 fun σ1 l1 l1' k1 R1 => ?_⟩
    refine hs c G H σ1 ρ1 ρ' T _ f _ _ hK l1 R1 r2 e2 fun σ2 l2 l2' k2 R2 => q σ2 l2 (l2'.trans l1') (fun i hi => ?_) R2
    rw [List.mem_append] at hi
    rw [k2 i (fun z => hi (.inr z)), k1 i (fun z => hi (.inl z))]
def tgTup (n : Nat) (u : Bool → List D → List Slot → Option (List Slot)) : Tgt := fun a ρ => match a.2 with
  | .tup ds => if ds.length = n then u a.1 ds ρ else none
  | _ => none
theorem dg_tup {tv : List Nat} {n : Nat} {gs : TGs} {u : Bool → List D → List Slot → Option (List Slot)} (h : DGs K tv gs u) : DG K tv (gTup K n gs) (tgTup n u) := by
  intro c G H σ ρ ρ' T v a Q hK hl R r e q
  obtain ⟨f, d⟩ := a
  cases r with
  | tup e1 t =>
    subst hK
    unfold tgTup at e
    dsimp only at e
    split at e
    · rename_i hn
      exact ⟨_, _, rfl, seqT_same R.gs (SqT.of e1), by rw [t.len]; exact hn, h c G H σ ρ ρ' T _ f _ Q rfl hl R t e q⟩
    · cases e
  | _ => cases e
end
end Da
end F25
section F26
namespace Da
open PySem PySem.Spec PyProof.Rows L2 He Ds
variable [Tabl]
section
variable {K : PySem.W.Frag} {W : WX} {c : Cc} {G H : Hp} {σ : L2.St} {ρ : List Slot} {T : List En}
/-! ### the names of a comprehension are its own -/
def wipeS : List Slot → List Nat → List Slot
  | ρ, [] => ρ
  | ρ, v :: vs => (wipeS ρ vs).set v .no
theorem wipeS_len (ρ : List Slot) : ∀ vs, (wipeS ρ vs).length = ρ.length
  | [] => rfl
  | v :: vs => by rw [wipeS, List.length_set, wipeS_len]
def savedE (σ : L2.St) (ρ : List Slot) : List Nat → List En
  | [] => []
  | v :: vs => ((wipe σ vs).zip (wipeS ρ vs))[v]?.toList ++ savedE σ ρ vs
def unw (ρ : List Slot) : List Nat → List Slot → List Slot
  | [], ρ' => ρ'
  | v :: vs, ρ' => unw ρ vs (ρ'.set v ((wipeS ρ vs)[v]?.getD .no))
theorem unw_len (ρ : List Slot) : ∀ vs ρ', (unw ρ vs ρ').length = ρ'.length
  | [], _ => rfl
  | v :: vs, ρ' => by rw [unw, unw_len, List.length_set]
theorem set_out {α : Type} {l : List α} {i : Nat} {x : α} (h : l.length ≤ i) : l.set i x = l := List.set_eq_of_length_le h
theorem Rel.wipe (hl : σ.length = ρ.length) : ∀ vs, Rel c G H (σ.zip ρ ++ T) → Rel c G H ((L2.wipe σ vs).zip (wipeS ρ vs) ++ (savedE σ ρ vs ++ T))
  | [], R => R
  | v :: vs, R => by
    have R1 := Rel.wipe hl vs R
    have hl1 : (L2.wipe σ vs).length = (wipeS ρ vs).length := by rw [wipe_length, wipeS_len, hl]
    unfold L2.wipe wipeS savedE
    cases e : ((L2.wipe σ vs).zip (wipeS ρ vs))[v]? with
    | none =>
      have h1 : (wipeS ρ vs).length ≤ v := by
        have := List.getElem?_eq_none_iff.mp e
        rw [List.length_zip, hl1, Nat.min_self] at this
        exact this
      rw [set_out h1, set_out (by omega)]
      exact R1
    | some x =>
      obtain ⟨o, s⟩ := x
      have R2 := R1.out e
      have hv : v < (L2.wipe σ vs).length := by
        have h := (List.getElem?_eq_some_iff.mp e).1
        rw [List.length_zip] at h
        omega
      refine Rel.back hl1 hv ((R2.no (o := none)).perm (E' := (none, Slot.no) :: rest (L2.wipe σ vs) (wipeS ρ vs) ((some (o, s)).toList ++ savedE σ ρ vs ++ T) v) ?_)
      refine List.Perm.cons _ ?_
      unfold rest
      rw [Option.toList_some]
      exact List.perm_middle
theorem Rel.unwipe (hl : σ.length = ρ.length) : ∀ vs ρ', ρ'.length = ρ.length → Rel c G H ((L2.wipe σ vs).zip ρ' ++ (savedE σ ρ vs ++ T)) → Rel c G H (σ.zip (unw ρ vs ρ') ++ T)
  | [], _, _, R => R
  | v :: vs, ρ', hr, R => by
    have hl1 : (L2.wipe σ vs).length = (wipeS ρ vs).length := by rw [wipe_length, wipeS_len, hl]
    unfold unw
    refine Rel.unwipe hl vs _ (by rw [List.length_set, hr]) ?_
    unfold L2.wipe savedE at R
    cases e : ((L2.wipe σ vs).zip (wipeS ρ vs))[v]? with
    | none =>
      have h1 : (wipeS ρ vs).length ≤ v := by
        have := List.getElem?_eq_none_iff.mp e
        rw [List.length_zip, hl1, Nat.min_self] at this
        exact this
      rw [e, set_out (by omega)] at R
      rw [set_out (by rw [wipeS_len] at h1; omega)]
      exact R
    | some x =>
      obtain ⟨o, s⟩ := x
      obtain ⟨h1, h2⟩ := List.getElem?_zip_eq_some.mp e
      rw [e, Option.toList_some] at R
      have hv : v < (L2.wipe σ vs).length := (List.getElem?_eq_some_iff.mp h1).1
      rw [h2]
      have hl2 : ((L2.wipe σ vs).set v none).length = ρ'.length := by rw [List.length_set, wipe_length, hl, hr]
      have e2 : ((L2.wipe σ vs).set v none).set v o = L2.wipe σ vs := by
        rw [List.set_set]
        exact set_self h1
      have R1 : Rel c G H ((o, s) :: rest ((L2.wipe σ vs).set v none) ρ' (savedE σ ρ vs ++ T) v) := by
        unfold rest
        have R2 : Rel c G H (((L2.wipe σ vs).set v none).zip ρ' ++ ((o, s) :: (savedE σ ρ vs ++ T))) := R
        have R3 := mid_out R2
        exact R3.subl (((List.eraseIdx_sublist _ _).append_right _).cons₂ _)
      have R4 := Rel.back hl2 (by rw [List.length_set]; exact hv) R1
      rw [e2] at R4
      exact R4
/-- one turn after another: acc what was made so far -/
def compD (vs : List Nat) (t : Tgt) (tt : M Bool) (te : M (Bool × D)) (ρ0 : List Slot) : List (Bool × D) → Bool → List D → List Slot → Res (Bool × List D)
  | [], f, acc, ρ => .ok (f, acc) (unw ρ0 vs ρ)
  | a :: as, f, acc, ρ => match t a ρ with
    | none => .no
    | some ρ1 => match tt ρ1 with
      | .ok true ρ2 => (match te ρ2 with
        | .ok b ρ3 => if acc.length < 100000 then compD vs t tt te ρ0 as (f && (b.1 || flatD b.2)) (acc ++ [b.2]) (wipeS ρ3 vs) else .no
        | _ => .no)
      | .ok false ρ2 => compD vs t tt te ρ0 as f acc (wipeS ρ2 vs)
      | _ => .no
def mComp (vs : List Nat) (mi : M (List (Bool × D))) (t : Tgt) (tt : M Bool) (te : M (Bool × D)) : M (Bool × List D) := mb mi fun its => fun ρ => compD vs t tt te ρ its true [] (wipeS ρ vs)
theorem wipe_get (σ : L2.St) : ∀ (vs : List Nat) (i : Nat), i ∉ vs → (L2.wipe σ vs)[i]? = σ[i]?
  | [], _, _ => rfl
  | v :: vs, i, h => by
    rw [L2.wipe, List.getElem?_set_ne (fun e => h (by rw [e]; simp)), wipe_get σ vs i (fun z => h (List.mem_cons_of_mem _ z))]
theorem wipe_in (σ : L2.St) : ∀ (vs : List Nat) (i : Nat), i ∈ vs → (L2.wipe σ vs)[i]? = if i < σ.length then some none else none
  | v :: vs, i, h => by
    rw [L2.wipe]
    by_cases e : v = i
    · subst e
      rw [List.getElem?_set, if_pos rfl, wipe_length]
    · rw [List.getElem?_set_ne e]
      exact wipe_in σ vs i ((List.mem_cons.mp h).resolve_left fun z => e z.symm)
theorem wipe_eq {σ σ2 : L2.St} {vs : List Nat} (hl : σ2.length = σ.length) (k : ∀ i, i ∉ vs → σ2[i]? = (L2.wipe σ vs)[i]?) : L2.wipe σ2 vs = L2.wipe σ vs := by
  refine List.ext_getElem? fun i => ?_
  by_cases h : i ∈ vs
  · rw [wipe_in _ _ _ h, wipe_in _ _ _ h, hl]
  · rw [wipe_get _ _ _ h, k i h]
theorem comp_core {g : TG} {tt : TT} {te : TE} {vs tv : List Nat} {t : Tgt} {mt : M Bool} {me : M (Bool × D)} {its : List (Bool × D)} {ρ1 : List Slot} {G1 H1 : Hp} {J : It} {need : List En} {Q : VK} (hg : DG K tv g t) (hv : ∀ i ∈ tv, i ∈ vs) (ht : DT K W tt mt) (he : DE K W te me)
    (hK : c.K = K) (hl1 : σ.length = ρ1.length) (R1 : Rel c G1 H1 (σ.zip ρ1 ++ T)) (hn : ∀ x ∈ need, x ∈ T) (hJ : ItsN c need G1 its J)
    (q : Post c G1 T σ W (fun a ρ' G' H' => ∀ p vs H2, Rel c G' H2 ((some (.ref p), .own a.1 a.2) :: (σ.zip ρ' ++ T)) → H2 p = some (.lst vs) → Q (.ref p) H2) (compD vs t mt me ρ1 its true [] (wipeS ρ1 vs))) :
    ∀ D, H1 D = none → ∃ W : Nat → Nat → Hp → Prop, (∃ m, W 0 m (upd H1 D (.lst []))) ∧ ∀ i m H, W i m H → ((J.stop i H ∧ Q (.ref D) H) ∨
    (J.go i H ∧ ∃ Nx : Hp → Prop, (∀ H', Nx H' → ∃ m', m' < m ∧ W (i + 1) m' H') ∧ ∀ x H', J.yld i H x H' → g x (L2.wipe σ vs) H' fun σ2 H2 => L2.wipe σ2 vs = L2.wipe σ vs ∧ tt σ2 H2 fun b H3 =>
    if b = true then te σ2 H3 fun y H4 => ∃ acc, H4 D = some (.lst acc) ∧ acc.length < sizeLine ∧ Nx (upd H4 D (.lst (acc ++ [y]))) else Nx H3)) := by
  intro D nD
  subst hK
  -- the state ahead of a turn
  let E0 : List En := savedE σ ρ1 vs ++ T
  obtain ⟨Wv, hW⟩ : ∃ Wv : Nat → Nat → Hp → Prop, Wv = fun i m Hc => m = its.length - i ∧ i ≤ its.length ∧ ∃ (Gc : Hp) (f : Bool) (acc : List Da.D) (ρc : List Slot) (xs : List V), Same G1 Gc ∧ ρc.length = ρ1.length ∧
    Rel c Gc Hc ((some (.ref D), .own f acc) :: ((L2.wipe σ vs).zip ρc ++ E0)) ∧ Hc D = some (.lst xs) ∧
    Post c Gc T σ W (fun a ρ' G' H' => ∀ p vs H2, Rel c G' H2 ((some (.ref p), .own a.1 a.2) :: (σ.zip ρ' ++ T)) → H2 p = some (.lst vs) → Q (.ref p) H2) (compD vs t mt me ρ1 (its.drop i) f acc ρc) := ⟨_, rfl⟩
  refine ⟨Wv, ⟨its.length, ?_⟩, fun i m Hc hw => ?_⟩
  · rw [hW]
    refine ⟨rfl, Nat.zero_le _, G1, true, [], wipeS ρ1 vs, [], Same.refl _, wipeS_len _ _, ?_, upd_same, q⟩
    exact Rel.newOwn (R1.wipe hl1 vs) nD .nil
  · rw [hW] at hw
    obtain ⟨em, hin, Gc, f, acc, ρc, xs, sG, hlc, Rc, hD, P⟩ := hw
    obtain ⟨h1, h2⟩ := hJ i Gc Hc _ Rc (fun x hx => List.mem_cons_of_mem _ (List.mem_append_right _ (List.mem_append_right _ (hn x hx)))) sG
    by_cases hlt : i < its.length
    · have ea : its[i]? = some its[i] := List.getElem?_eq_getElem hlt
      obtain ⟨hgo, hy⟩ := h1 _ ea
      rw [List.drop_eq_getElem_cons hlt] at P
      generalize its[i] = a at ea hy P
      refine .inr ⟨hgo, Wv (i + 1) (its.length - (i + 1)), fun H' w => ⟨_, by omega, w⟩, fun x H' yl => ?_⟩
      obtain ⟨Gn, k1, k2, k3, k4, hx⟩ := hy x H' yl
      have Rn := Rc.grow k1 k2 k3 k4
      unfold compD at P
      cases e1 : t a ρc with
      | none => rw [e1] at P; exact P.elim
      | some ρd =>
        rw [e1] at P
        dsimp only at P
        have hwl : (L2.wipe σ vs).length = ρc.length := by rw [wipe_length, hl1, hlc]
        refine hg c Gn H' (L2.wipe σ vs) ρc ρd _ x a _ rfl hwl (mid_in Rn) hx e1 fun σ2 l1 l2 k5 R2 => ⟨wipe_eq (by rw [l2, wipe_length]) fun j hj => k5 j fun z => hj (hv j z), ?_⟩
        have ew : L2.wipe σ2 vs = L2.wipe σ vs := wipe_eq (by rw [l2, wipe_length]) fun j hj => k5 j fun z => hj (hv j z)
        -- the end of a turn
        have fin : ∀ (G3 H3 : Hp) (f' : Bool) (acc' : List Da.D) (ρ3 : List Slot) (ys : List V), Same Gn G3 → σ2.length = ρ3.length → Rel c G3 H3 ((some (.ref D), .own f' acc') :: (σ2.zip ρ3 ++ E0)) → H3 D = some (.lst ys) →
            Post c Gc T σ W (fun a ρ' G' H' => ∀ p vs H2, Rel c G' H2 ((some (.ref p), .own a.1 a.2) :: (σ.zip ρ' ++ T)) → H2 p = some (.lst vs) → Q (.ref p) H2) (compD vs t mt me ρ1 (its.drop (i + 1)) f' acc' (wipeS ρ3 vs)) → Wv (i + 1) (its.length - (i + 1)) H3 := by
          intro G3 H3 f' acc' ρ3 ys s3 l3 R3 hD3 P3
          rw [hW]
          refine ⟨rfl, hlt, G3, f', acc', wipeS ρ3 vs, ys, (sG.trans k2).trans s3, by rw [wipeS_len, ← l3, l2, wipe_length, hl1], ?_, hD3, P3.later (k2.trans s3)⟩
          have R4 := Rel.wipe l3 vs (mid_in R3)
          rw [ew] at R4
          exact mid_out (R4.subl ((List.sublist_append_right _ _).append_left _))
        have step : Post c Gn ((some (.ref D), .own f acc) :: E0) σ2 W (fun b ρ2 G3 H3 => if b = true then te σ2 H3 (fun y H4 => ∃ acc, H4 D = some (.lst acc) ∧ acc.length < sizeLine ∧ Wv (i + 1) (its.length - (i + 1)) (upd H4 D (.lst (acc ++ [y])))) else Wv (i + 1) (its.length - (i + 1)) H3) (mt ρd) := by
          cases e2 : mt ρd with
          | no => rw [e2] at P; exact P.elim
          | er _ _ _ => rw [e2] at P; exact P.elim
          | ok b ρ2 =>
            rw [e2] at P
            intro l3 G3 H3 R3 s3
            cases b with
            | false =>
              refine iteF ?_
              obtain ⟨pq, eq, _, _, ⟨_, ys, hys, _⟩, _⟩ := (mid_out R3).head rfl
              cases eq
              exact fin G3 H3 f acc ρ2 ys s3 l3 (mid_out R3) hys P
            | true =>
              refine iteT ?_
              dsimp only at P
              refine he c G3 H3 σ2 ρ2 _ _ rfl l3 R3 ?_
              cases e3 : me ρ2 with
              | no => rw [e3] at P; exact P.elim
              | er _ _ _ => rw [e3] at P; exact P.elim
              | ok b ρ3 =>
                rw [e3] at P
                dsimp only at P
                by_cases hz : acc.length < 100000
                · rw [if_pos hz] at P
                  intro l4 G4 H4 R4 s4 y hy
                  obtain ⟨pq, eq, _, _, ⟨_, ys, hys, hda⟩, _⟩ := (mid_out R4).head rfl
                  cases eq
                  refine ⟨ys, hys, by rw [hda.len]; exact Nat.lt_of_lt_of_le hz (by decide), ?_⟩
                  refine fin G4 _ (f && (b.1 || flatD b.2)) (acc ++ [b.2]) ρ3 (ys ++ [y]) (s3.trans s4) l4 ((mid_out R4).mut ?_) upd_same P
                  exact (hda.low).append (.cons hy.fl.low' .nil)
                · rw [if_neg hz] at P
                  exact P.elim
        exact ht c Gn H' σ2 ρd _ _ rfl l1.symm.symm R2 step
    · have ei : i = its.length := by omega
      refine .inl ⟨h2 (by omega), ?_⟩
      rw [List.drop_eq_nil_of_le (by omega)] at P
      unfold compD at P
      obtain ⟨pq, eq, _, _, ⟨_, ys, hys, hda⟩, _⟩ := Rc.head rfl
      cases eq
      have hlu : σ.length = (unw ρ1 vs ρc).length := by rw [unw_len, hlc, hl1]
      have R5 : Rel c Gc Hc (σ.zip (unw ρ1 vs ρc) ++ ((some (.ref D), .own f acc) :: T)) := by
        refine Rel.unwipe hl1 vs ρc hlc ?_
        refine (mid_in Rc).perm ?_
        refine List.Perm.append_left _ ?_
        exact List.perm_middle
      exact P hlu Gc Hc (R5.subl ((List.sublist_cons_self _ _).append_left _)) (Same.refl _) D ys Hc (mid_out R5) hys
theorem dl_lc {wi : TI} {g : TG} {tt : TT} {te : TE} {vs tv : List Nat} {mi : M (List (Bool × D))} {t : Tgt} {mt : M Bool} {me : M (Bool × D)} (hi : DI K W wi mi) (hg : DG K tv g t) (hv : ∀ i ∈ tv, i ∈ vs) (ht : DT K W tt mt) (he : DE K W te me) : DL K W (tLc wi g tt te vs) (mComp vs mi t mt me) := by
  intro c G H σ ρ T Q hK hl R p
  exact hi c G H σ ρ T _ hK hl R (Post.imp (Post.bind p) fun its ρ1 G1 H1 hl1 R1 s1 q J hJ => comp_core hg hv ht he hK hl1 R1 (fun _ z => absurd z List.not_mem_nil) hJ q)
/-- .. for x in a list of the call's own, which may change later -/
def hide (j : Nat) (s : Slot) {α : Type} (m : M α) : M α := fun ρ => match m (ρ.set j .no) with
  | .ok a ρ' => .ok a (ρ'.set j s)
  | _ => .no
def mCompO (vs : List Nat) (j : Nat) (t : Tgt) (tt : M Bool) (te : M (Bool × D)) : M (Bool × List D) := fun ρ => match ρ[j]? with
  | some (.own fr ds) => hide j (.own fr ds) (fun ρ => compD vs t tt te ρ (tagL fr ds) true [] (wipeS ρ vs)) ρ
  | some (.dat fr (.lst ds)) => compD vs t tt te ρ (tagL fr ds) true [] (wipeS ρ vs)
  | _ => .no
theorem its_data {p : Addr} {f : Bool} {xs : List V} {ds : List D} (e1 : G p = some (.lst xs)) (t : DrA c.K G (Fl c f) xs ds) : Its c G (tagL f ds) (Itl c.K p) := by
  intro i Gc Hc Ec RR _ s1
  have s3 := RR.gs
  refine ⟨fun a ha => ?_, fun hi => ?_⟩
  · obtain ⟨v, h1, h2⟩ := dr_at t ha
    refine ⟨⟨_, v, same_seq e1 s1 s3, h1⟩, fun x H' hy => ?_⟩
    obtain ⟨rfl, hx⟩ := hy
    have hx' := hx _ (same_seq e1 s1 s3)
    rw [h1] at hx'
    cases hx'
    exact ⟨Gc, Same.refl _, Same.refl _, s3, fun _ _ => rfl, h2.up s1⟩
  · refine ⟨_, same_seq e1 s1 s3, ?_⟩
    rw [t.len]
    unfold tagL at hi
    rwa [List.length_map] at hi
theorem its_own {p : Addr} {f : Bool} {ds : List D} : ItsN c [(some (.ref p), .own f ds)] G (tagL f ds) (Itl c.K p) := by
  intro i Gc Hc Ec RR hm s1
  obtain ⟨p', eq, _, _, _, xs, e1, t⟩ := RR.sl _ (hm _ (List.mem_singleton.mpr rfl))
  cases eq
  refine ⟨fun a ha => ?_, fun hi => ?_⟩
  · obtain ⟨v, h1, h2⟩ := dr_at t ha
    refine ⟨⟨_, v, SqL.of e1, h1⟩, fun x H' hy => ?_⟩
    obtain ⟨rfl, hx⟩ := hy
    have hx' := hx _ (SqL.of e1)
    rw [h1] at hx'
    cases hx'
    exact ⟨Gc, Same.refl _, Same.refl _, RR.gs, fun _ _ => rfl, h2⟩
  · refine ⟨_, SqL.of e1, ?_⟩
    rw [t.len]
    unfold tagL at hi
    rwa [List.length_map] at hi
theorem dl_lcO {g : TG} {tt : TT} {te : TE} {vs tv : List Nat} {j : Nat} {t : Tgt} {mt : M Bool} {me : M (Bool × D)} (hg : DG K tv g t) (hv : ∀ i ∈ tv, i ∈ vs) (ht : DT K W tt mt) (he : DE K W te me) : DL K W (tLc (iList K (tVar j)) g tt te vs) (mCompO vs j t mt me) := by
  intro c G H σ ρ T Q hK hl R p
  unfold mCompO at p
  cases e : ρ[j]? with
  | none => rw [e] at p; exact p.elim
  | some s =>
    rw [e] at p
    obtain ⟨o, e1, e2⟩ := zip_get hl e
    cases s with
    | own fr ds =>
      have R1 := R.out e2
      obtain ⟨p0, rfl, h1, h2, ⟨h3, xs, h4, h5⟩, h6⟩ := R1.head rfl
      refine ⟨.ref p0, e1, p0, rfl, ⟨xs, SqL.of h4⟩, ?_⟩
      have hls : σ.length = (ρ.set j .no).length := by rw [List.length_set]; exact hl
      have R2 : Rel c G H (σ.zip (ρ.set j .no) ++ ((some (.ref p0), .own fr ds) :: T)) := by
        have R3 : Rel c G H ((some (V.ref p0), Slot.no) :: rest σ ρ ((some (.ref p0), .own fr ds) :: T) j) := by
          refine Rel.no ?_
          unfold rest
          exact mid_in R1
        exact Rel.back' hl e1 R3
      subst hK
      refine comp_core hg hv ht he rfl hls R2 (fun x hx => by rw [List.mem_singleton.mp hx]; exact List.mem_cons_self) its_own ?_
      dsimp only at p
      unfold hide at p
      dsimp only at p
      cases e3 : compD vs t mt me (ρ.set j .no) (tagL fr ds) true [] (wipeS (ρ.set j .no) vs) with
      | no => rw [e3] at p; exact p.elim
      | er _ _ _ => rw [e3] at p; exact p.elim
      | ok a ρ' =>
        rw [e3] at p
        intro hl' G' H' R' s' q ws H2 R3 hq
        have hl2 : σ.length = (ρ'.set j (.own fr ds)).length := by rw [List.length_set]; exact hl'
        have fin : ∀ {E : List En} {H3 : Hp}, Rel c G' H3 (E ++ (σ.zip ρ' ++ ((some (.ref p0), .own fr ds) :: T))) → Rel c G' H3 (E ++ (σ.zip (ρ'.set j (.own fr ds)) ++ T)) := by
          intro E H3 R4
          have R5 : Rel c G' H3 ((some (.ref p0), .own fr ds) :: ((σ.zip ρ') ++ (T ++ E))) := R4.perm (by
            refine List.Perm.trans ?_ List.perm_append_comm
            rw [List.append_assoc]
            exact List.perm_middle.symm)
          have R6 : Rel c G' H3 ((some (.ref p0), .own fr ds) :: rest σ ρ' (T ++ E) j) := R5.subl (((List.eraseIdx_sublist _ _).append_right _).cons₂ _)
          have R7 := Rel.back' hl' e1 R6
          refine R7.perm ?_
          refine List.Perm.trans List.perm_append_comm ?_
          rw [List.append_assoc]
        have R8 := fin (E := []) R'
        exact p hl2 G' H' R8 s' q ws H2 (fin (E := [(some (.ref q), .own a.1 a.2)]) R3) hq
    | dat fr d => cases d with
      | lst ds =>
        obtain ⟨v, ev, r⟩ := R.sl _ (zip_mem (T := T) e2)
        cases ev
        subst hK
        cases r with
        | lst g1 _ t0 => exact ⟨_, e1, _, rfl, ⟨_, SqL.of (R.gs _ _ g1)⟩, comp_core hg hv ht he rfl hl R (fun _ z => absurd z List.not_mem_nil) (its_data g1 t0) p⟩
      | _ => exact p.elim
    | _ => exact p.elim
end
end Da
end F26
section F27
namespace Da
open PySem PySem.Spec PyProof.Rows L2 He Ds
variable [Tabl]
inductive SRes where
  | no | er (k : Str) (d : D) (ρ : List Slot) | nx (ρ : List Slot) | rt (fr : Bool) (d : D) (ρ : List Slot) | bk (ρ : List Slot) | ct (ρ : List Slot)
abbrev S := List Slot → SRes
section
variable {K : PySem.W.Frag} {W : WX} {c : Cc} {G G' H : Hp} {σ : L2.St} {ρ : List Slot}
def SPo (c : Cc) (G : Hp) (n : Nat) (W : WX) (E : Ends) : SRes → Prop
  | .no => False
  | .er k d ρ' => ∀ (v : V) (x : Addr) (σ' : L2.St) (G' H' : Hp), σ'.length = n → σ'.length = ρ'.length → Rel c G' H' (σ'.zip ρ' ++ []) → Same G G' → Dr c.K G' (fun _ => True) v d → G' x = some (.xd [("value", v)]) → W (.ref (ga c.K k)) (some x) σ' H'
  | .nx ρ' => ∀ (σ' : L2.St) (G' H' : Hp), σ'.length = n → σ'.length = ρ'.length → Rel c G' H' (σ'.zip ρ' ++ []) → Same G G' → E.nx σ' H'
  | .rt fr d ρ' => ∀ (v : V) (σ' : L2.St) (G' H' : Hp), σ'.length = n → σ'.length = ρ'.length → Rel c G' H' (σ'.zip ρ' ++ []) → Same G G' → Dr c.K G' (Fl c fr) v d → E.rt v H'
  | .bk ρ' => ∀ (σ' : L2.St) (G' H' : Hp), σ'.length = n → σ'.length = ρ'.length → Rel c G' H' (σ'.zip ρ' ++ []) → Same G G' → E.bk σ' H'
  | .ct ρ' => ∀ (σ' : L2.St) (G' H' : Hp), σ'.length = n → σ'.length = ρ'.length → Rel c G' H' (σ'.zip ρ' ++ []) → Same G G' → E.ct σ' H'
theorem SPo.later {n : Nat} {E : Ends} {r : SRes} (h : SPo c G n W E r) (s : Same G G') : SPo c G' n W E r := by
  cases r with
  | no => exact h
  | er k d ρ' => exact fun v x σ' G2 H2 hn hl R s2 => h v x σ' G2 H2 hn hl R (s.trans s2)
  | nx ρ' => exact fun σ' G2 H2 hn hl R s2 => h σ' G2 H2 hn hl R (s.trans s2)
  | rt fr d ρ' => exact fun v σ' G2 H2 hn hl R s2 => h v σ' G2 H2 hn hl R (s.trans s2)
  | bk ρ' => exact fun σ' G2 H2 hn hl R s2 => h σ' G2 H2 hn hl R (s.trans s2)
  | ct ρ' => exact fun σ' G2 H2 hn hl R s2 => h σ' G2 H2 hn hl R (s.trans s2)
def DS (K : PySem.W.Frag) (W : WX) (ts : L2.TS) (s : S) : Prop :=
  ∀ (c : Cc) (G H : Hp) (σ : L2.St) (ρ : List Slot) (E : Ends), c.K = K → σ.length = ρ.length → Rel c G H (σ.zip ρ ++ []) → SPo c G σ.length W E (s ρ) → ts E σ H
/-- an expression within a statement -/
def sE {α : Type} (m : M α) (k : α → S) : S := fun ρ => match m ρ with
  | .no => .no
  | .er n d ρ' => .er n d ρ'
  | .ok a ρ' => k a ρ'
theorem sE_post {α : Type} {P : α → List Slot → Hp → Hp → Prop} {m : M α} {k : α → S} {E : Ends} (p : SPo c G σ.length W E (sE m k ρ)) (f : ∀ a ρ' G' H', σ.length = ρ'.length → Rel c G' H' (σ.zip ρ' ++ []) → Same G G' → SPo c G' σ.length W E (k a ρ') → P a ρ' G' H') : Post c G [] σ W P (m ρ) := by
  unfold sE at p
  cases e : m ρ with
  | no => rw [e] at p; exact p
  | er n d ρ' => rw [e] at p; exact fun hl v x G' H' R s r hx => p v x σ G' H' rfl hl R s r hx
  | ok a ρ' => rw [e] at p; exact fun hl G' H' R s => f a ρ' G' H' hl R s (p.later s)
def sSeq (a b : S) : S := fun ρ => match a ρ with
  | .nx ρ' => b ρ'
  | r => r
theorem ds_seq {t u : L2.TS} {a b : S} (ha : DS K W t a) (hb : DS K W u b) : DS K W (tSeq t u) (sSeq a b) := by
  intro c G H σ ρ E hK hl R p
  refine ha c G H σ ρ _ hK hl R ?_
  unfold sSeq at p
  cases e : a ρ with
  | no => rw [e] at p; exact p
  | er n d ρ' => rw [e] at p; exact p
  | nx ρ' =>
    rw [e] at p
    intro σ' G' H' hn hl' R' s
    refine hb c G' H' σ' ρ' E hK hl' R' ?_
    rw [hn]
    exact SPo.later p s
  | rt fr d ρ' => rw [e] at p; exact p
  | bk ρ' => rw [e] at p; exact p
  | ct ρ' => rw [e] at p; exact p
/-- statements behind an if that goes on -/
theorem ds_cut {t u : L2.TS} {a b : S} (ha : DS K W t a) (hb : DS K W u b) : DS K W (Evl.tCut t u) (sSeq a b) := by
  intro c G H σ ρ E hK hl R p
  exact ⟨u E, ds_seq ha hb c G H σ ρ E hK hl R p, fun _ _ h => h⟩
def sNil : S := fun ρ => .nx ρ
theorem ds_nil : DS K W tNext sNil := fun c G H σ ρ E hK hl R p => p σ G H rfl hl R (Same.refl G)
def sSet (i : Nat) (m : M (Bool × D)) : S := sE m fun a => fun ρ => if i < ρ.length then .nx (ρ.set i (.dat a.1 a.2)) else .no
def sSetO (i : Nat) (m : M (Bool × List D)) : S := sE m fun a => fun ρ => if i < ρ.length then .nx (ρ.set i (.own a.1 a.2)) else .no
theorem nx_put {i : Nat} {v : V} {s : Slot} {E : Ends} (hl : σ.length = ρ.length) (hi : i < ρ.length) (R : Rel c G H ((some v, s) :: (σ.zip ρ ++ []))) (p : SPo c G σ.length W E (.nx (ρ.set i s))) : E.nx (σ.set i (some v)) H :=
  p _ G H (List.length_set ..) (by rw [List.length_set, List.length_set]; exact hl) (Rel.put hl hi R) (Same.refl G)
theorem ds_set {te : TE} {i : Nat} {m : M (Bool × D)} (h : DE K W te m) : DS K W (tAsg te (gName i)) (sSet i m) := by
  intro c G H σ ρ E hK hl R p
  refine h c G H σ ρ [] _ hK hl R (sE_post p fun a ρ' G' H' hl' R' s q v r => ?_)
  subst hK
  split at q
  · rename_i hi
    exact nx_put hl' hi (R'.dat r) q
  · exact q.elim
theorem ds_setO {te : TE} {i : Nat} {m : M (Bool × List D)} (h : DL K W te m) : DS K W (tAsg te (gName i)) (sSetO i m) := by
  intro c G H σ ρ E hK hl R p
  refine h c G H σ ρ [] _ hK hl R (sE_post p fun a ρ' G' H' hl' R' s q pp vs H2 R2 _ => ?_)
  split at q
  · rename_i hi
    exact nx_put hl' hi R2 q
  · exact q.elim
/-- a target that is no lone name -/
def sAsg (t : Tgt) (m : M (Bool × D)) : S := sE m fun a => fun ρ => match t a ρ with
  | some ρ' => .nx ρ'
  | none => .no
theorem ds_asg {te : TE} {g : TG} {tv : List Nat} {t : Tgt} {m : M (Bool × D)} (hg : DG K tv g t) (h : DE K W te m) : DS K W (tAsg te g) (sAsg t m) := by
  intro c G H σ ρ E hK hl R p
  refine h c G H σ ρ [] _ hK hl R (sE_post p fun a ρ' G' H' hl' R' s q v r => ?_)
  cases e : t a ρ' with
  | none => rw [e] at q; exact q.elim
  | some ρ2 =>
    rw [e] at q
    refine hg c G' H' σ ρ' ρ2 [] v a _ hK hl' R' ?_ e fun σ' l1 l2 _ R2 => q σ' G' H' l2 l1 R2 (Same.refl G')
    subst hK
    exact r
/-- i, j = a, b -/
def setAll : List Nat → List Slot → List Slot → Option (List Slot)
  | [], [], ρ => some ρ
  | i :: is, s :: ss, ρ => if i < ρ.length then setAll is ss (ρ.set i s) else none
  | _, _, _ => none
def sPar (is : List Nat) (ma : M (List Slot)) : S := sE ma fun ss => fun ρ => match setAll is ss ρ with
  | some ρ' => .nx ρ'
  | none => .no
def setV : List Nat → List V → L2.St → L2.St
  | i :: is, v :: vs, σ => setV is vs (σ.set i (some v))
  | _, _, σ => σ
theorem setAll_ok : ∀ {is : List Nat} {ss : List Slot} {vs : List V} {σ : L2.St} {ρ ρ' : List Slot}, vs.length = ss.length → σ.length = ρ.length → Rel c G H ((vs.map some).zip ss ++ (σ.zip ρ ++ [])) → setAll is ss ρ = some ρ' → Rel c G H ((setV is vs σ).zip ρ' ++ []) ∧ (setV is vs σ).length = σ.length ∧ ρ'.length = ρ.length ∧ is.length = vs.length
  | [], [], vs, σ, ρ, ρ', hv, hl, R, e => by
    cases e
    have : vs = [] := List.eq_nil_of_length_eq_zero hv
    subst this
    exact ⟨R, rfl, rfl, rfl⟩
  | i :: is, s :: ss, [], _, _, _, hv, _, _, _ => by simp at hv
  | i :: is, s :: ss, v :: vs, σ, ρ, ρ', hv, hl, R, e => by
    unfold setAll at e
    split at e
    · rename_i hi
      have R1 : Rel c G H ((some v, s) :: (σ.zip ρ ++ (vs.map some).zip ss)) := R.perm (by
        show List.Perm _ ((some v, s) :: ((vs.map some).zip ss ++ (σ.zip ρ ++ [])))
        rw [List.append_nil]
        exact List.Perm.cons _ List.perm_append_comm)
      have R2 := Rel.put hl hi R1
      have R3 : Rel c G H ((vs.map some).zip ss ++ ((σ.set i (some v)).zip (ρ.set i s) ++ [])) := R2.perm (by
        rw [List.append_nil]
        exact List.perm_append_comm)
      obtain ⟨h1, h2, h3, h4⟩ := setAll_ok (by simpa using hv) (by rw [List.length_set, List.length_set]; exact hl) R3 e
      exact ⟨h1, by rw [show setV (i :: is) (v :: vs) σ = setV is vs (σ.set i (some v)) from rfl, h2, List.length_set], by rw [h3, List.length_set], by simp [h4]⟩
    · cases e
  | [], _ :: _, _, _, _, _, _, _, _, e => by cases e
  | _ :: _, [], _, _, _, _, _, _, _, e => by cases e
theorem ds_par {i j : Nat} {ta : TA} {ma : M (List Slot)} (ha : DA K W ta ma) : DS K W (tPar i j ta) (sPar [i, j] ma) := by
  intro c G H σ ρ E hK hl R p
  refine ha c G H σ ρ [] _ hK hl R (sE_post p fun ss ρ' G' H' hl' R' s q vs hv R2 => ?_)
  cases e : setAll [i, j] ss ρ' with
  | none => rw [e] at q; exact q.elim
  | some ρ2 =>
    rw [e] at q
    obtain ⟨h1, h2, h3, h4⟩ := setAll_ok hv hl' R2 e
    match vs, h4 with
    | [v, w], _ => exact ⟨v, w, rfl, q _ G' H' h2 (h2.trans (hl'.trans h3.symm)) h1 (Same.refl G')⟩
def sDrop (m : M (Bool × D)) : S := sE m fun _ => fun ρ => .nx ρ
theorem ds_drop {te : TE} {m : M (Bool × D)} (h : DE K W te m) : DS K W (tDrop te) (sDrop m) := by
  intro c G H σ ρ E hK hl R p
  exact h c G H σ ρ [] _ hK hl R (sE_post p fun a ρ' G' H' hl' R' s q v r => q σ G' H' rfl hl' R' (Same.refl G'))
def sRet (m : M (Bool × D)) : S := sE m fun a => fun ρ => .rt a.1 a.2 ρ
theorem ds_ret {te : TE} {m : M (Bool × D)} (h : DE K W te m) : DS K W (tRet te) (sRet m) := by
  intro c G H σ ρ E hK hl R p
  refine h c G H σ ρ [] _ hK hl R (sE_post p fun a ρ' G' H' hl' R' s q v r => ?_)
  subst hK
  exact q v σ G' H' rfl hl' R' (Same.refl G') r
/-- return of a list of the call's own -/
def mRetV (i : Nat) : M (Bool × D) := fun ρ => match ρ[i]? with
  | some (.dat fr d) => .ok (fr, d) ρ
  | some (.own fr ds) => .ok (fr || flatDs ds, .lst ds) (ρ.set i (.dat (fr || flatDs ds) (.lst ds)))
  | some (.dct fr ks ds) => .ok (fr || flatDs ds, .dic ks ds) (ρ.set i (.dat (fr || flatDs ds) (.dic ks ds)))
  | some (.dcT fr ks ds) => .ok (fr || flatDs ds, .dicT ks ds) (ρ.set i (.dat (fr || flatDs ds) (.dicT ks ds)))
  | some (.dcB w t) => .ok (true, .dicB w t) (ρ.set i (.dat true (.dicB w t)))
  | _ => .no
/-- a name whose list will not change any more -/
theorem de_varF (i : Nat) : DE K W (tVar i) (mRetV i) := by
  intro c G H σ ρ T Q hK hl R h
  unfold mRetV at h
  cases e : ρ[i]? with
  | none => rw [e] at h; exact h.elim
  | some s =>
    rw [e] at h
    obtain ⟨o, e1, e2⟩ := zip_get hl e
    cases s with
    | dat fr d =>
      obtain ⟨v, ev, r⟩ := R.sl _ (zip_mem (T := T) e2)
      cases ev
      exact ⟨v, e1, h hl G H R (Same.refl G) v r⟩
    | own fr ds =>
      have R1 := R.out e2
      obtain ⟨p, eq, h1, h2, ⟨h3, vs, h4, h5⟩, h6⟩ := R1.head rfl
      subst eq
      obtain ⟨R2, sG, hd⟩ := R1.freeze h4
      have hd2 : Dr c.K (upd G p (.lst vs)) (Fl c (fr || flatDs ds)) (.ref p) (.lst ds) := by
        cases hd with
        | lst g1 g2 g3 => exact .lst g1 (fun _ => R1.g0n h1) g3.fl
      have R3 := Rel.back' hl e1 (R2.dat hd2)
      subst hK
      exact ⟨.ref p, e1, h (by rw [List.length_set]; exact hl) _ H R3 sG _ hd2⟩
    | dct fr ks ds =>
      have R1 := R.out e2
      obtain ⟨p, eq, h1, h2, ⟨h3, vs, h4, hl2, h5⟩, h6⟩ := R1.head rfl
      subst eq
      obtain ⟨R2, sG⟩ := R1.freezeO rfl h4 h3
      have hd2 : Dr c.K (upd G p (.dK (ks.zip vs))) (Fl c (fr || flatDs ds)) (.ref p) (.dic ks ds) := .dic upd_same hl2 (fun _ => R1.g0n h1) (h5.fl.up sG)
      have R3 := Rel.back' hl e1 (R2.dat hd2)
      subst hK
      exact ⟨.ref p, e1, h (by rw [List.length_set]; exact hl) _ H R3 sG _ hd2⟩
    | dcT fr ks ds =>
      have R1 := R.out e2
      obtain ⟨p, eq, h1, h2, ⟨h3, vs, h4, hl2, h5⟩, h6⟩ := R1.head rfl
      subst eq
      obtain ⟨R2, sG⟩ := R1.freezeO rfl h4 h3
      have hd2 : Dr c.K (upd G p (.dT (ks.zip vs))) (Fl c (fr || flatDs ds)) (.ref p) (.dicT ks ds) := .dicT upd_same hl2 (fun _ => R1.g0n h1) (h5.fl.up sG)
      have R3 := Rel.back' hl e1 (R2.dat hd2)
      subst hK
      exact ⟨.ref p, e1, h (by rw [List.length_set]; exact hl) _ H R3 sG _ hd2⟩
    | dcB w t =>
      have R1 := R.out e2
      obtain ⟨p, eq, h1, h2, ⟨h3, rows, h4, hk, h5⟩, h6⟩ := R1.head rfl
      subst eq
      obtain ⟨R2, sG⟩ := R1.freezeO rfl h4 h3
      have hd2 : Dr c.K (upd G p (dbO w p rows)) (Fl c true) (.ref p) (.dicB w t) := .dicB upd_same (hk.up sG) (fun _ => R1.g0n h1) h5
      have R3 := Rel.back' hl e1 (R2.dat hd2)
      subst hK
      exact ⟨.ref p, e1, h (by rw [List.length_set]; exact hl) _ H R3 sG _ hd2⟩
    | _ => exact h.elim
def sRetN : S := fun ρ => .rt true .non ρ
def sIf (t : M Bool) (a b : S) : S := sE t fun k => if k = true then a else b
theorem ds_if {t : TT} {u w : L2.TS} {m : M Bool} {a b : S} (ht : DT K W t m) (ha : DS K W u a) (hb : DS K W w b) : DS K W (tIfS t u w) (sIf m a b) := by
  intro c G H σ ρ E hK hl R p
  refine ht c G H σ ρ [] _ hK hl R (sE_post p fun k ρ' G' H' hl' R' s q => ?_)
  cases k with
  | true => exact iteT (ha c G' H' σ ρ' E hK hl' R' q)
  | false => exact iteF (hb c G' H' σ ρ' E hK hl' R' q)
def sRaise (k : Str) (m : M (List Slot)) : S := sE m fun ss => match dats ss with
  | some (_, [d]) => fun ρ => .er k d ρ
  | _ => fun _ => .no
/-! ### loops -/
def forD (t : Tgt) (b : S) : List (Bool × D) → List Slot → SRes
  | [], ρ => .nx ρ
  | a :: as, ρ => match t a ρ with
    | none => .no
    | some ρ1 => match b ρ1 with
      | .nx ρ2 => forD t b as ρ2
      | .ct ρ2 => forD t b as ρ2
      | .bk ρ2 => .nx ρ2
      | r => r
def sFor (mi : M (List (Bool × D))) (t : Tgt) (b : S) : S := sE mi fun its => forD t b its
theorem ds_for {wi : TI} {g : TG} {tb : L2.TS} {tv : List Nat} {mi : M (List (Bool × D))} {t : Tgt} {b : S} (hi : DI K W wi mi) (hg : DG K tv g t) (hb : DS K W tb b) : DS K W (tFor wi g tb) (sFor mi t b) := by
  intro c G H σ ρ E hK hl R p
  refine hi c G H σ ρ [] _ hK hl R (sE_post p fun its ρ1 G1 H1 hl1 R1 s1 q J hJ => ?_)
  obtain ⟨Wv, hW⟩ : ∃ Wv : Nat → Nat → L2.St → Hp → Prop, Wv = fun i m σc Hc => m = its.length - i ∧ i ≤ its.length ∧ ∃ (Gc : Hp) (ρc : List Slot), Same G1 Gc ∧ σc.length = σ.length ∧ σc.length = ρc.length ∧
    Rel c Gc Hc (σc.zip ρc ++ []) ∧ SPo c Gc σ.length W E (forD t b (its.drop i) ρc) := ⟨_, rfl⟩
  refine ⟨Wv, ⟨its.length, ?_⟩, fun i m σc Hc hw => ?_⟩
  · rw [hW]
    exact ⟨rfl, Nat.zero_le _, G1, ρ1, Same.refl _, rfl, hl1, R1, q⟩
  · rw [hW] at hw
    obtain ⟨em, hin, Gc, ρc, sG, hn, hlc, Rc, P⟩ := hw
    obtain ⟨h1, h2⟩ := hJ i Gc Hc _ Rc (fun _ z => absurd z List.not_mem_nil) sG
    by_cases hlt : i < its.length
    · have ea : its[i]? = some its[i] := List.getElem?_eq_getElem hlt
      obtain ⟨hgo, hy⟩ := h1 _ ea
      rw [List.drop_eq_getElem_cons hlt] at P
      generalize its[i] = a at ea hy P
      refine .inr ⟨hgo, Wv (i + 1) (its.length - (i + 1)), fun σ' H' w => ⟨_, by omega, w⟩, fun x H' yl => ?_⟩
      obtain ⟨Gn, k1, k2, k3, k4, hx⟩ := hy x H' yl
      have Rn := Rc.grow k1 k2 k3 k4
      unfold forD at P
      cases e1 : t a ρc with
      | none => rw [e1] at P; exact P.elim
      | some ρd =>
        rw [e1] at P
        dsimp only at P
        refine hg c Gn H' σc ρc ρd [] x a _ hK hlc Rn (by subst hK; exact hx) e1 fun σ2 l1 l2 _ R2 => ?_
        refine hb c Gn H' σ2 ρd _ hK l1 R2 ?_
        have hn2 : σ2.length = σ.length := l2.trans hn
        have go : ∀ ρ2, SPo c Gc σ.length W E (forD t b (its.drop (i + 1)) ρ2) → ∀ σ' G' H', σ'.length = σ2.length → σ'.length = ρ2.length → Rel c G' H' (σ'.zip ρ2 ++ []) → Same Gn G' → Wv (i + 1) (its.length - (i + 1)) σ' H' := fun ρ2 P2 σ' G' H' hn3 hl3 R3 s3 => by
          rw [hW]
          exact ⟨rfl, hlt, G', ρ2, (sG.trans k2).trans s3, hn3.trans hn2, hl3, R3, P2.later (k2.trans s3)⟩
        cases e2 : b ρd with
        | no => rw [e2] at P; exact P
        | er k d ρ2 =>
          rw [e2] at P
          exact fun v y σ' G' H' hn3 hl3 R3 s3 => P v y σ' G' H' (hn3.trans hn2) hl3 R3 (k2.trans s3)
        | nx ρ2 => rw [e2] at P; exact go ρ2 P
        | ct ρ2 => rw [e2] at P; exact go ρ2 P
        | rt fr d ρ2 =>
          rw [e2] at P
          exact fun v σ' G' H' hn3 hl3 R3 s3 => P v σ' G' H' (hn3.trans hn2) hl3 R3 (k2.trans s3)
        | bk ρ2 =>
          rw [e2] at P
          exact fun σ' G' H' hn3 hl3 R3 s3 => P σ' G' H' (hn3.trans hn2) hl3 R3 (k2.trans s3)
    · have ei : i = its.length := by omega
      refine .inl ⟨h2 (by omega), ?_⟩
      rw [List.drop_eq_nil_of_le (by omega)] at P
      exact P σc Gc Hc hn hlc Rc (Same.refl _)
def whileD (t : M Bool) (b : S) : Nat → List Slot → SRes
  | 0, _ => .no
  | n + 1, ρ => match t ρ with
    | .ok true ρ1 => (match b ρ1 with
      | .nx ρ2 => whileD t b n ρ2
      | .ct ρ2 => whileD t b n ρ2
      | .bk ρ2 => .nx ρ2
      | r => r)
    | .ok false ρ1 => .nx ρ1
    | .er k d ρ1 => .er k d ρ1
    | .no => .no
def sWhile (n : Nat) (t : M Bool) (b : S) : S := whileD t b n
theorem ds_while {tt : TT} {tb : L2.TS} {n : Nat} {t : M Bool} {b : S} (ht : DT K W tt t) (hb : DS K W tb b) : DS K W (tWhile tt tb) (sWhile n t b) := by
  intro c G H σ ρ E hK hl R p
  obtain ⟨Wv, hW⟩ : ∃ Wv : Nat → L2.St → Hp → Prop, Wv = fun m σc Hc => ∃ (Gc : Hp) (ρc : List Slot), Same G Gc ∧ σc.length = σ.length ∧ σc.length = ρc.length ∧
    Rel c Gc Hc (σc.zip ρc ++ []) ∧ SPo c Gc σ.length W E (whileD t b m ρc) := ⟨_, rfl⟩
  refine ⟨Wv, ⟨n, ?_⟩, fun m σc Hc hw => ?_⟩
  · rw [hW]
    exact ⟨G, ρ, Same.refl _, rfl, hl, R, p⟩
  · rw [hW] at hw
    obtain ⟨Gc, ρc, sG, hn, hlc, Rc, P⟩ := hw
    cases m with
    | zero => exact P.elim
    | succ m =>
      unfold whileD at P
      refine ht c Gc Hc σc ρc [] _ hK hlc Rc ?_
      cases e : t ρc with
      | no => rw [e] at P; exact P
      | er k d ρ1 =>
        rw [e] at P
        exact fun hl' v x G' H' R' s r hx => P v x σc G' H' hn hl' R' s r hx
      | ok k ρ1 =>
        rw [e] at P
        intro hl1 G1 H1 R1 s1
        cases k with
        | false => exact iteF (P σc G1 H1 hn hl1 R1 s1)
        | true =>
          refine iteT ⟨Wv m, fun σ' H' w => ⟨m, Nat.lt_succ_self m, w⟩, ?_⟩
          refine hb c G1 H1 σc ρ1 _ hK hl1 R1 ?_
          dsimp only at P
          have go : ∀ ρ2, SPo c Gc σ.length W E (whileD t b m ρ2) → ∀ σ' G' H', σ'.length = σc.length → σ'.length = ρ2.length → Rel c G' H' (σ'.zip ρ2 ++ []) → Same G1 G' → Wv m σ' H' := fun ρ2 P2 σ' G' H' hn3 hl3 R3 s3 => by
            rw [hW]
            exact ⟨G', ρ2, (sG.trans s1).trans s3, hn3.trans hn, hl3, R3, P2.later (s1.trans s3)⟩
          cases e2 : b ρ1 with
          | no => rw [e2] at P; exact P
          | er k d ρ2 =>
            rw [e2] at P
            exact fun v y σ' G' H' hn3 hl3 R3 s3 => P v y σ' G' H' (hn3.trans hn) hl3 R3 (s1.trans s3)
          | nx ρ2 => rw [e2] at P; exact go ρ2 P
          | ct ρ2 => rw [e2] at P; exact go ρ2 P
          | rt fr d ρ2 =>
            rw [e2] at P
            exact fun v σ' G' H' hn3 hl3 R3 s3 => P v σ' G' H' (hn3.trans hn) hl3 R3 (s1.trans s3)
          | bk ρ2 =>
            rw [e2] at P
            exact fun σ' G' H' hn3 hl3 R3 s3 => P σ' G' H' (hn3.trans hn) hl3 R3 (s1.trans s3)
end
end Da
end F27
section F28
namespace Da
open PySem PySem.Spec PyProof.Rows L2 He Ds
variable [Tabl]
section
variable {K : PySem.W.Frag} {W : WX} {c : Cc} {G G' H : Hp} {σ : L2.St} {ρ : List Slot} {T : List En}
/-! ### methods that change a list of the call's own -/
def getOwn (i : Nat) (ρ : List Slot) : Option (Bool × List D) := match ρ[i]? with
  | some (.own fr ds) => some (fr, ds)
  | _ => none
theorem getOwn_of {i : Nat} {fr : Bool} {ds : List D} (hl : σ.length = ρ.length) (R : Rel c G H (σ.zip ρ ++ T)) (h : getOwn i ρ = some (fr, ds)) :
    ∃ p vs, σ[i]? = some (some (V.ref p)) ∧ H p = some (.lst vs) ∧ DrA c.K G (Fl c fr) vs ds ∧ Rel c G H ((some (.ref p), .own fr ds) :: rest σ ρ T i) := by
  unfold getOwn at h
  cases e : ρ[i]? with
  | none => rw [e] at h; cases h
  | some s =>
    rw [e] at h
    cases s with
    | own f d =>
      cases h
      obtain ⟨o, e1, e2⟩ := zip_get hl e
      have R1 := R.out e2
      obtain ⟨p, rfl, _, _, ⟨_, vs, h4, h5⟩, _⟩ := R1.head rfl
      exact ⟨p, vs, e1, h4, h5, R1⟩
    | _ => cases h
/-- x.append(e): the change -/
def onOwn {β : Type} (i : Nat) (k : Bool → List D → Option ((Bool × D) × (Bool × List D))) : M (Bool × D) := fun ρ => match getOwn i ρ with
  | some (fr, ds) => (match k fr ds with
    | some r => .ok r.1 (ρ.set i (.own r.2.1 r.2.2))
    | none => .no)
  | none => .no
/-- a method of one argument: k of the argument, the list -/
def mMut (i : Nat) (ma : M (List Slot)) (k : Bool → List D → Bool → List D → Option ((Bool × D) × (Bool × List D))) : M (Bool × D) := fun ρ => if (getOwn i ρ).isSome = true then mDats ma (fun r => onOwn (β := Unit) i (k r.1 r.2)) ρ else .no
theorem mut_core {i : Nat} {ta : TA} {ma : M (List Slot)} {k : Bool → List D → Bool → List D → Option ((Bool × D) × (Bool × List D))} {rm : V → List V → Hp → VK → Prop} {Q : VK} (ha : DA K W ta ma) (hK : c.K = K) (hl : σ.length = ρ.length) (R : Rel c G H (σ.zip ρ ++ T))
    (p : Post c G T σ W (fun a _ G' H' => ∀ v, Dr c.K G' (Fl c a.1) v a.2 → Q v H') (mMut i ma k ρ))
    (fin : ∀ (G2 H2 : Hp) (fa : Bool) (as : List D) (us : List V) (fr : Bool) (ds : List D) (q : Addr) (vs : List V) (r : (Bool × D) × (Bool × List D)), Same G2 H2 → DrA c.K G2 (Fl c fa) us as → H2 q = some (.lst vs) → DrA c.K G2 (Fl c fr) vs ds → k fa as fr ds = some r →
      (∀ v ws, Dr c.K G2 (Fl c r.1.1) v r.1.2 → DrA c.K G2 (Fl c r.2.1) ws r.2.2 → Q v (upd H2 q (.lst ws))) → rm (.ref q) us H2 Q) : tBM K "list" rm (tVar i) ta σ H Q := by
  unfold mMut at p
  by_cases h : (getOwn i ρ).isSome = true
  · rw [if_pos h] at p
    obtain ⟨⟨fr0, ds0⟩, e0⟩ := Option.isSome_iff_exists.mp h
    obtain ⟨q0, vs0, e1, e2, e3, _⟩ := getOwn_of hl R e0
    refine ⟨.ref q0, e1, .inl ⟨rfl, vs0, SqL.of e2⟩, ?_⟩
    refine dats_core ha hK hl R p fun fa as us G2 H2 ρ2 hl2 R2 s2 hd hn q => ?_
    unfold onOwn at q
    dsimp only at q
    cases e4 : getOwn i ρ2 with
    | none => rw [e4] at q; exact q.elim
    | some z =>
      obtain ⟨fr, ds⟩ := z
      rw [e4] at q
      dsimp only at q
      obtain ⟨q1, vs, e5, e6, e7, R3⟩ := getOwn_of hl2 R2 e4
      have eq : q1 = q0 := by
        have := e5.symm.trans e1
        cases this
        rfl
      subst eq
      cases e8 : k fa as fr ds with
      | none => rw [e8] at q; exact q.elim
      | some r =>
        rw [e8] at q
        refine fin G2 H2 fa as us fr ds q1 vs r R2.gs hd e6 e7 e8 fun v ws hv hw => ?_
        have R4 := R3.mut (vs := ws) (fr' := r.2.1) (ds' := r.2.2) hw
        exact q (by rw [List.length_set]; exact hl2) G2 _ (Rel.back' hl2 e5 R4) (Same.refl G2) v hv
  · rw [if_neg h] at p
    exact p.elim
def kAppend (fa : Bool) (as : List D) (fr : Bool) (ds : List D) : Option ((Bool × D) × (Bool × List D)) := match as with
  | [a] => if ds.length < 100000 then some ((true, .non), ((fr || flatDs ds) && fa, ds ++ [a])) else none
  | _ => none
theorem de_append {i : Nat} {ta : TA} {ma : M (List Slot)} (ha : DA K W ta ma) : DE K W (tBM K "list" rAppend (tVar i) ta) (mMut i ma kAppend) := by
  intro c G H σ ρ T Q hK hl R p
  refine mut_core ha hK hl R p fun G2 H2 fa as us fr ds q vs r sg hu hq hd e k => ?_
  unfold kAppend at e
  split at e
  · rename_i a
    split at e
    · rename_i hz
      cases e
      cases hu with
      | cons h t =>
        cases t
        exact ⟨q, vs, _, rfl, rfl, hq, by rw [hd.len]; exact Nat.lt_of_lt_of_le hz (by decide), k .non _ .non (hd.fl.low.append (.cons h.low' .nil))⟩
    · cases e
  · cases e
def kInsert (fa : Bool) (as : List D) (fr : Bool) (ds : List D) : Option ((Bool × D) × (Bool × List D)) := match as with
  | [.int i, a] => if ds.length < 100000 ∧ 0 ≤ i ∧ i ≤ 1000000 then some ((true, .non), ((fr || flatDs ds) && fa, ds.take i.toNat ++ [a] ++ ds.drop i.toNat)) else none
  | _ => none
theorem de_insert {i : Nat} {ta : TA} {ma : M (List Slot)} (ha : DA K W ta ma) : DE K W (tBM K "list" (fun x vs H Q => ∃ (l : Addr) (xs : List V) (i : Int) (y : V), x = .ref l ∧ vs = [.int i, y] ∧ H l = some (.lst xs) ∧ xs.length < sizeLine ∧ 0 ≤ i ∧ i < 2 ^ 63 ∧ Q .non (upd H l (.lst (xs.take i.toNat ++ [y] ++ xs.drop i.toNat)))) (tVar i) ta) (mMut i ma kInsert) := by
  intro c G H σ ρ T Q hK hl R p
  refine mut_core ha hK hl R p fun G2 H2 fa as us fr ds q vs r sg hu hq hd e k => ?_
  unfold kInsert at e
  split at e
  · rename_i j a
    split at e
    · rename_i hz
      cases e
      cases hu with
      | cons h0 t => cases t with
        | cons h t =>
          cases t
          cases h0
          exact ⟨q, vs, j, _, rfl, rfl, hq, by rw [hd.len]; exact Nat.lt_of_lt_of_le hz.1 (by decide), hz.2.1, by have := hz.2.2; omega, k .non _ .non (((hd.fl.low.take _).append (.cons h.low' .nil)).append (hd.fl.low.drop _))⟩
    · cases e
  · cases e
/-- x.pop(i) -/
def kPopAt (fa : Bool) (as : List D) (fr : Bool) (ds : List D) : Option ((Bool × D) × (Bool × List D)) := match as with
  | [.int i] => if 0 ≤ i ∧ i < ds.length ∧ ds.length ≤ 1000000 then (ds[i.toNat]?).map fun d => ((fr || flatD d, d), (fr, ds.eraseIdx i.toNat)) else none
  | _ => none
theorem de_popAt {i : Nat} {ta : TA} {ma : M (List Slot)} (ha : DA K W ta ma) : DE K W (tBM K "list" rPopAt (tVar i) ta) (mMut i ma kPopAt) := by
  intro c G H σ ρ T Q hK hl R p
  refine mut_core ha hK hl R p fun G2 H2 fa as us fr ds q vs r sg hu hq hd e k => ?_
  unfold kPopAt at e
  split at e
  · rename_i j
    split at e
    · rename_i hz
      obtain ⟨d, e1, rfl⟩ := omap e
      cases hu with
      | cons h0 t =>
        cases t
        cases h0
        obtain ⟨v, h1, h2⟩ := hd.get' e1
        have hv : vs.length = ds.length := hd.len
        have en := (ixN_seq (ixN_nat hz.1 (by rw [hv]; exact hz.2.1) : ixN vs.length j = some j.toNat)).1
        exact ⟨q, vs, j, j.toNat, v, rfl, rfl, hq, by omega, by have := hz.2; omega, en, h1, k v _ h2.fl (hd.erase _)⟩
    · cases e
  · cases e
def kExtend (fa : Bool) (as : List D) (fr : Bool) (ds : List D) : Option ((Bool × D) × (Bool × List D)) := match as with
  | [.lst es] => if ds.length + es.length ≤ 100000 then some ((true, .non), ((fr || flatDs ds) && (fa || flatDs es), ds ++ es)) else none
  | _ => none
theorem de_extend {i : Nat} {ta : TA} {ma : M (List Slot)} (ha : DA K W ta ma) : DE K W (tBM K "list" rExtend (tVar i) ta) (mMut i ma kExtend) := by
  intro c G H σ ρ T Q hK hl R p
  refine mut_core ha hK hl R p fun G2 H2 fa as us fr ds q vs r sg hu hq hd e k => ?_
  unfold kExtend at e
  split at e
  · rename_i es
    split at e
    · rename_i hz
      cases e
      cases hu with
      | cons h t =>
        cases t
        cases h with
        | lst h1 _ t =>
          refine ⟨q, _, vs, _, rfl, rfl, hq, sg _ _ h1, by rw [hd.len, t.len]; exact Nat.le_trans hz (by decide), k .non _ .non (hd.fl.low.append (t.fl.low'))⟩
    · cases e
  · cases e
/-- x.pop() -/
def mPop (i : Nat) : M (Bool × D) := fun ρ => match getOwn i ρ with
  | some (fr, ds) => (match ds.getLast? with
    | some d => .ok (fr || flatD d, d) (ρ.set i (.own fr ds.dropLast))
    | none => .no)
  | none => .no
theorem DrA.dropLast {F : Addr → Prop} {vs : List V} {ds : List D} (h : DrA K G F vs ds) : DrA K G F vs.dropLast ds.dropLast := by
  rw [List.dropLast_eq_take, List.dropLast_eq_take, h.len]
  exact h.take _
theorem de_pop {i : Nat} : DE K W (tBM0 K "list" rPop (tVar i)) (mPop i) := by
  intro c G H σ ρ T Q hK hl R p
  subst hK
  unfold mPop at p
  cases e0 : getOwn i ρ with
  | none => rw [e0] at p; exact p.elim
  | some z =>
    obtain ⟨fr, ds⟩ := z
    rw [e0] at p
    dsimp only at p
    obtain ⟨q, vs, e1, e2, hd, R1⟩ := getOwn_of hl R e0
    cases e3 : ds.getLast? with
    | none => rw [e3] at p; exact p.elim
    | some d =>
      rw [e3] at p
      rw [List.getLast?_eq_getElem?] at e3
      obtain ⟨v, h1, h2⟩ := hd.get' e3
      rw [← hd.len] at h1
      refine ⟨.ref q, e1, .inl ⟨rfl, vs, SqL.of e2⟩, q, vs, v, rfl, rfl, e2, h1, ?_⟩
      have R4 := R1.mut (vs := vs.dropLast) (fr' := fr) (ds' := ds.dropLast) hd.dropLast
      exact p (by rw [List.length_set]; exact hl) G _ (Rel.back' hl e1 R4) (Same.refl G) v h2.fl
/-! ### dicts of the call's own -/
def DD (K : PySem.W.Frag) (W : WX) (te : TE) (m : M (Bool × (List Key × List D))) : Prop :=
  ∀ (c : Cc) (G H : Hp) (σ : L2.St) (ρ : List Slot) (T : List En) (Q : VK), c.K = K → σ.length = ρ.length → Rel c G H (σ.zip ρ ++ T) →
    Post c G T σ W (fun a ρ' G' H' => ∀ p H2, Rel c G' H2 ((some (.ref p), .dct a.1 a.2.1 a.2.2) :: (σ.zip ρ' ++ T)) → Q (.ref p) H2) (m ρ) → te σ H Q
def keyOf : D → Option Key
  | .int i => some (.inl i)
  | .str s => some (.inr s)
  | _ => none
theorem keyOf_eq {F : Addr → Prop} {v : V} {d : D} {k : Key} (h : Dr K G F v d) (e : keyOf d = some k) : v = kV k := by
  cases h <;> first | (cases e; rfl) | cases e
/-- {k: v} -/
def mDisp1 (mk mv : M (Bool × D)) : M (Bool × (List Key × List D)) := mb mk fun k => mb mv fun v => match keyOf k.2 with
  | some k => mp (v.1 || flatD v.2, [k], [v.2])
  | none => mno
def sSetD (i : Nat) (m : M (Bool × (List Key × List D))) : S := sE m fun a => fun ρ => if i < ρ.length then .nx (ρ.set i (.dct a.1 a.2.1 a.2.2)) else .no
theorem ds_setD {te : TE} {i : Nat} {m : M (Bool × (List Key × List D))} (h : DD K W te m) : DS K W (tAsg te (gName i)) (sSetD i m) := by
  intro c G H σ ρ E hK hl R p
  refine h c G H σ ρ [] _ hK hl R (sE_post p fun a ρ' G' H' hl' R' s q pp H2 R2 => ?_)
  split at q
  · rename_i hi
    exact nx_put hl' hi R2 q
  · exact q.elim
end
end Da
end F28
section F29
namespace Da
open PySem PySem.Spec PyProof.Rows L2 He Ds
variable [Tabl]
section
variable {K : PySem.W.Frag} {W : WX} {c : Cc} {G G' H : Hp} {σ : L2.St} {ρ : List Slot} {T : List En}
/-! ### raise -/
theorem ds_raise {mg : Str → Option Value} {x : Str} {ta : TA} {ma : M (List Slot)} (X : ErrC K mg x) (ha : DA K W ta ma) : DS K W (fun _ σ H => tMkO (ga K x) (spErrI K) [] ta σ H fun cls d H' => W cls d σ H') (sRaise x ma) := by
  intro c G H σ ρ E hK hl R p
  refine ha c G H σ ρ [] _ hK hl R (sE_post p fun ss ρ' G' H' hl' R' s q vs hv R2 => ?_)
  cases e : dats ss with
  | none => rw [e] at q; exact q.elim
  | some r =>
    obtain ⟨f, ds⟩ := r
    rw [e] at q
    match ds, e, q with
    | [d], e, q =>
      obtain ⟨h1, h2⟩ := dats_ok R2 hv e
      cases h1 with
      | cons h t =>
        cases t
        subst hK
        refine d_made (Q := fun cls d H' => W cls d σ H') X fun dd ndd => ?_
        exact q _ dd σ _ _ rfl hl' (R'.new ndd) (same_new (Same.refl G') (R'.gn ndd)) ((h.up (same_new (Same.refl G') (R'.gn ndd))).top) upd_same
    | [], _, q => exact q.elim
    | _ :: _ :: _, _, q => exact q.elim
/-! ### self.f = e -/
def sSelf (i : Nat) (f : Str) (m : M (Bool × D)) : S := sE m fun a => fun ρ => match ρ[i]? with
  | some (.slf C ns ds) => if ns.contains f = false ∧ ns.length < 100 then .nx (ρ.set i (.slf C (ns ++ [f]) (ds ++ [a.2]))) else .no
  | _ => .no
theorem putF_new {f : Str} {v : V} : ∀ {ns : List Str} {vs : List V}, ns.contains f = false → ns.length = vs.length → putF f v (ns.zip vs) = (ns ++ [f]).zip (vs ++ [v])
  | [], [], _, _ => rfl
  | n :: ns, v' :: vs, h, hl => by
    rw [List.contains_cons, Bool.or_eq_false_iff] at h
    have hne : n ≠ f := fun e => by
      have h1 := h.1
      rw [e] at h1
      simp at h1
    show putF f v ((n, v') :: ns.zip vs) = _
    unfold putF
    rw [if_neg hne, putF_new h.2 (by simpa using hl)]
    rfl
  | [], _ :: _, _, hl => by simp at hl
  | _ :: _, [], _, hl => by simp at hl
theorem ds_self {C f : Str} {te : TE} {i : Nat} {m : M (Bool × D)} (hC : Cls K (ga K C)) (hA : NoAttr K (ga K C) f) (h : DE K W te m) : DS K W (sFld K (tVar i) te f) (sE m fun a => fun ρ => match ρ[i]? with
  | some (.slf C' ns ds) => if C' = C ∧ ns.contains f = false ∧ ns.length < 100 then .nx (ρ.set i (.slf C' (ns ++ [f]) (ds ++ [a.2]))) else .no
  | _ => .no) := by
  intro c G H σ ρ E hK hl R p
  refine h c G H σ ρ [] _ hK hl R (sE_post p fun a ρ' G' H' hl' R' s q v r => ?_)
  cases e : ρ'[i]? with
  | none => rw [e] at q; exact q.elim
  | some t => cases t with
    | slf C' ns ds =>
      rw [e] at q
      dsimp only at q
      by_cases hc : C' = C ∧ ns.contains f = false ∧ ns.length < 100
      · rw [if_pos hc] at q
        obtain ⟨rfl, hc1, hc2⟩ := hc
        obtain ⟨o, e1, e2⟩ := zip_get hl' e
        have R1 := R'.out e2
        obtain ⟨p1, rfl, g1, h1, ⟨hio, dx, vs, h2, hl2, hd⟩, _⟩ := R1.head rfl
        subst hK
        refine ⟨.ref p1, e1, p1, _, dx, _, rfl, h2, hC, hA, ?_, ?_⟩
        · rw [List.length_zip]
          omega
        · rw [putF_new hc1 hl2]
          have R2 := R1.mutO (s' := .slf C' (ns ++ [f]) (ds ++ [a.2])) (u := .ins (ga c.K C') dx ((ns ++ [f]).zip (vs ++ [v]))) rfl rfl (.inl hio) ⟨hio, dx, vs ++ [v], upd_same, by simp [hl2], hd.append (.cons r.top .nil)⟩
          exact q σ G' _ rfl (by rw [List.length_set]; exact hl') (Rel.back' hl' e1 R2) (Same.refl G')
      · rw [if_neg hc] at q
        exact q.elim
    | _ => rw [e] at q; exact q.elim
def sSelfC (C : Str) (i : Nat) (f : Str) (m : M (Bool × D)) : S := sE m fun a => fun ρ => match ρ[i]? with
  | some (.slf C' ns ds) => if C' = C ∧ ns.contains f = false ∧ ns.length < 100 then .nx (ρ.set i (.slf C' (ns ++ [f]) (ds ++ [a.2]))) else .no
  | _ => .no
/-! ### a def's body -/
def initS (N : Nat) (ss : List Slot) : List Slot := ss ++ List.replicate (N - ss.length) .no
def runD (N n : Nat) (s : S) : List D → Out := fun ds => if ds.length = n then (match s (initS N (ds.map (.dat false))) with
  | .nx _ => .ok true .non
  | .rt fr d _ => .ok (fr || flatD d) d
  | .er k d _ => .er k d
  | _ => .no) else .no
def runP (N n : Nat) (s : S) : List Int → List D → OutP := fun ns ds => if ds.length + 1 = n then (match s (initS N (.pool ns :: ds.map (.dat false))) with
  | .nx (.pool ns' :: _) => .ok true .non ns'
  | .rt fr d (.pool ns' :: _) => .ok (fr || flatD d) d ns'
  | _ => .no) else .no
def runI (C : Str) (N n : Nat) (s : S) : List D → OutI := fun ds => if ds.length + 1 = n then (match s (initS N (.slf C [] [] :: ds.map (.dat false))) with
  | .nx (.slf C' ns' ds' :: _) => if C' = C then .ok ns' ds' else .no
  | .er k d _ => .er k d
  | _ => .no) else .no
theorem start_len {N : List Str} {vs : List V} {ss : List Slot} (h : vs.length = ss.length) : (L2.start N vs).length = (initS N.length ss).length := by
  unfold L2.start initS
  simp [h]
theorem zip_rep {n : Nat} : ∀ x ∈ (List.replicate n (none : Option V)).zip (List.replicate n Slot.no), x.2 = Slot.no := by
  intro x hx
  rw [List.zip_replicate, Nat.min_self] at hx
  rw [(List.mem_replicate.mp hx).2]
theorem start_zip {N : List Str} {vs : List V} {ss : List Slot} (h : vs.length = ss.length) : (L2.start N vs).zip (initS N.length ss) = (vs.map some).zip ss ++ (List.replicate (N.length - ss.length) none).zip (List.replicate (N.length - ss.length) Slot.no) := by
  unfold L2.start initS
  rw [List.zip_append (by simp [h]), h]
theorem Rel.addNo {E : List En} {l : List En} (R : Rel c G H E) (h : ∀ x ∈ l, x.2 = Slot.no) : Rel c G H (E ++ l) := by
  refine ⟨R.fr, R.al, R.gs, R.g0, R.gg, fun x hx => ?_, ?_, R.tb⟩
  · rcases List.mem_append.mp hx with hx | hx
    · exact R.sl x hx
    · obtain ⟨o, s⟩ := x
      have := h _ hx
      cases this
      exact trivial
  · unfold ownE
    rw [List.flatMap_append]
    have e : l.flatMap (ownL H) = [] := List.flatMap_eq_nil_iff.mpr fun x hx => ownL_none (by rw [h x hx]; rfl)
    rw [e, List.append_nil]
    exact R.nd
theorem args_rel {E : List En} : ∀ {vs : List V} {ds : List D}, DrA c.K G (fun _ => True) vs ds → Rel c G H E → Rel c G H ((vs.map some).zip (ds.map (Slot.dat false)) ++ E)
  | _, _, .nil, R => R
  | _, _, .cons h t, R => (args_rel t R).dat (h.mono (Same.refl G) fun _ _ z => nomatch z)
/-- the start of a call that changes nothing -/
theorem start_rel {N : List Str} {vs : List V} {ds : List D} (gs : Same G H) (tb : TbsAt K G H) (hd : DrA K G (fun _ => True) vs ds) : Rel ⟨K, H, G, fun _ => False, fun _ z => z.elim⟩ G H ((L2.start N vs).zip (initS N.length (ds.map (.dat false))) ++ []) := by
  have hl : vs.length = (ds.map (Slot.dat false)).length := by rw [List.length_map]; exact hd.len
  rw [start_zip hl, List.append_nil]
  refine Rel.addNo ?_ zip_rep
  have R0 : Rel ⟨K, H, G, fun _ => False, fun _ z => z.elim⟩ G H [] := ⟨fun _ _ e _ _ => e, fun _ h => h, gs, Same.refl G, fun _ _ => rfl, fun x hx => by simp at hx, by simp, tb⟩
  have := args_rel (c := ⟨K, H, G, fun _ => False, fun _ z => z.elim⟩) hd R0
  rwa [List.append_nil] at this
theorem body_d {N : List Str} {n : Nat} {s : S} {ts : L2.TS} {vs : List V} {Q : VK} {E : XK} (hs : DS K (fun cls d _ H => E cls d H) ts s) (h : spD K (runD N.length n s) vs H Q E) : ts { nx := fun _ H' => Q .non H', rt := Q } (L2.start N vs) H := by
  obtain ⟨G, ds, gs, tb, hd, q⟩ := h
  unfold runD at q
  by_cases hn : ds.length = n
  · rw [if_pos hn] at q
    have hl : (L2.start N vs).length = (initS N.length (ds.map (Slot.dat false))).length := start_len (by rw [List.length_map]; exact hd.len)
    refine hs ⟨K, H, G, fun _ => False, fun _ z => z.elim⟩ G H _ _ _ rfl hl (start_rel gs tb hd) ?_
    have up : ∀ {G' H' E}, Rel ⟨K, H, G, fun _ => False, fun _ z => z.elim⟩ G' H' E → Old (fun _ => False) H H' ∧ TbsAt K G' H' ∧ Same G G' ∧ Same G' H' ∧ ∀ b, H b ≠ none → G' b = G b := fun R => ⟨⟨R.fr, R.al⟩, R.tb, R.g0, R.gs, R.gg⟩
    cases e : s (initS N.length (ds.map (Slot.dat false))) with
    | no => rw [e] at q; exact q
    | er k d ρ' =>
      rw [e] at q
      intro v x σ' G' H' _ _ R' _ hv hx
      obtain ⟨h1, h0, h2, h3, h4⟩ := up R'
      exact q v x G' H' h1 h0 h2 h3 h4 hv hx
    | nx ρ' =>
      rw [e] at q
      intro σ' G' H' _ _ R' _
      obtain ⟨h1, h0, h2, h3, h4⟩ := up R'
      exact q .non G' H' h1 h0 h2 h3 h4 .non
    | rt fr d ρ' =>
      rw [e] at q
      intro v σ' G' H' _ _ R' _ hv
      obtain ⟨h1, h0, h2, h3, h4⟩ := up R'
      exact q v G' H' h1 h0 h2 h3 h4 hv.fl
    | bk ρ' => rw [e] at q; exact q.elim
    | ct ρ' => rw [e] at q; exact q.elim
  · rw [if_neg hn] at q
    exact q.elim
theorem len_d {N : List Str} {n : Nat} {s : S} {vs : List V} {Q : VK} {E : XK} (h : spD K (runD N.length n s) vs H Q E) : vs.length = n := by
  obtain ⟨G, ds, gs, tb, hd, q⟩ := h
  unfold runD at q
  by_cases hn : ds.length = n
  · rw [hd.len, hn]
  · rw [if_neg hn] at q
    exact q.elim
/-- .. of one that changes the drawn ints -/
theorem body_p {N : List Str} {n : Nat} {s : S} {ts : L2.TS} {vs : List V} {Q : VK} {E : XK} (hs : DS K (fun cls d _ H => E cls d H) ts s) (h : spP K (runP N.length n s) vs H Q E) : ts { nx := fun _ H' => Q .non H', rt := Q } (L2.start N vs) H := by
  obtain ⟨p, us, ns, G, ds, rfl, hp, gp, gs, tb, hd, q⟩ := h
  unfold runP at q
  by_cases hn : ds.length + 1 = n
  · rw [if_pos hn] at q
    have hl0 : (V.ref p :: us).length = (Slot.pool ns :: ds.map (Slot.dat false)).length := by rw [List.length_cons, List.length_cons, List.length_map, hd.len]
    have hl : (L2.start N (V.ref p :: us)).length = (initS N.length (Slot.pool ns :: ds.map (Slot.dat false))).length := start_len hl0
    have io0 : ∀ b, b = p → H b ≠ none := fun b e => by rw [e, hp]; intro z; cases z
    have R0 : Rel ⟨K, H, G, fun b => b = p, io0⟩ G H [(some (.ref p), .pool ns)] := by
      have R00 : Rel ⟨K, H, G, fun b => b = p, io0⟩ G H [] := ⟨fun _ _ e _ _ => e, fun _ h => h, gs, Same.refl G, fun _ _ => rfl, fun x hx => by simp at hx, by simp, tb⟩
      exact R00.cons ((slot_own rfl).mpr ⟨p, rfl, gp, (by rw [hp]; intro z; cases z), rfl, hp⟩) (by rw [ownL_one rfl rfl]; simp) fun q _ => by simp
    have R1 : Rel ⟨K, H, G, fun b => b = p, io0⟩ G H ((L2.start N (V.ref p :: us)).zip (initS N.length (Slot.pool ns :: ds.map (Slot.dat false))) ++ []) := by
      rw [start_zip hl0, List.append_nil]
      refine Rel.addNo ?_ zip_rep
      have := args_rel (c := ⟨K, H, G, fun b => b = p, io0⟩) hd R0
      exact this.perm (List.perm_append_comm (l₁ := [(some (V.ref p), Slot.pool ns)]))
    refine hs ⟨K, H, G, fun b => b = p, io0⟩ G H _ _ _ rfl hl R1 ?_
    have up : ∀ {G' H' E}, Rel ⟨K, H, G, fun b => b = p, io0⟩ G' H' E → Old (fun b => b = p) H H' ∧ TbsAt K G' H' ∧ Same G G' ∧ Same G' H' ∧ ∀ b, H b ≠ none → G' b = G b := fun R => ⟨⟨R.fr, R.al⟩, R.tb, R.g0, R.gs, R.gg⟩
    have at0 : ∀ {σ' : L2.St} {ns' : List Int} {ρ' : List Slot} {G' H' : Hp}, Rel ⟨K, H, G, fun b => b = p, io0⟩ G' H' (σ'.zip (Slot.pool ns' :: ρ') ++ []) → σ'.length = (Slot.pool ns' :: ρ').length → H' p = some (.lst (ns'.map V.int)) := by
      intro σ' ns' ρ' G' H' R' hl'
      cases σ' with
      | nil => simp at hl'
      | cons o σ' =>
        obtain ⟨q, eq, _, _, hio, hq⟩ := R'.sl (o, .pool ns') (by simp)
        have hio' : q = p := hio
        subst hio'
        exact hq
    cases e : s (initS N.length (Slot.pool ns :: ds.map (Slot.dat false))) with
    | no => rw [e] at q; exact q
    | er k d ρ' => rw [e] at q; exact q.elim
    | nx ρ' =>
      rw [e] at q
      cases ρ' with
      | nil => exact q.elim
      | cons t ρ' => cases t with
        | pool ns' =>
          intro σ' G' H' _ hl' R' _
          obtain ⟨h1, h0, h2, h3, h4⟩ := up R'
          exact q .non G' H' h1 h0 (at0 R' hl') h2 h3 h4 .non
        | _ => exact q.elim
    | rt fr d ρ' =>
      rw [e] at q
      cases ρ' with
      | nil => exact q.elim
      | cons t ρ' => cases t with
        | pool ns' =>
          intro v σ' G' H' _ hl' R' _ hv
          obtain ⟨h1, h0, h2, h3, h4⟩ := up R'
          exact q v G' H' h1 h0 (at0 R' hl') h2 h3 h4 hv.fl
        | _ => exact q.elim
    | bk ρ' => rw [e] at q; exact q.elim
    | ct ρ' => rw [e] at q; exact q.elim
  · rw [if_neg hn] at q
    exact q.elim
theorem len_p {N : List Str} {n : Nat} {s : S} {vs : List V} {Q : VK} {E : XK} (h : spP K (runP N.length n s) vs H Q E) : vs.length = n := by
  obtain ⟨p, us, ns, G, ds, rfl, hp, gp, gs, tb, hd, q⟩ := h
  unfold runP at q
  by_cases hn : ds.length + 1 = n
  · rw [List.length_cons, hd.len, hn]
  · rw [if_neg hn] at q
    exact q.elim
/-- .. of an __init__ -/
theorem body_i {C : Str} {N : List Str} {n : Nat} {s : S} {ts : L2.TS} {vs : List V} {Q : VK} {E : XK} (hs : DS K (fun cls d _ H => E cls d H) ts s) (h : spI K C (runI C N.length n s) vs H Q E) : ts { nx := fun _ H' => Q .non H', rt := Q } (L2.start N vs) H := by
  obtain ⟨p, dx, us, G, ds, rfl, hp, gp, gs, tb, hd, q⟩ := h
  unfold runI at q
  by_cases hn : ds.length + 1 = n
  · rw [if_pos hn] at q
    have hl0 : (V.ref p :: us).length = (Slot.slf C [] [] :: ds.map (Slot.dat false)).length := by rw [List.length_cons, List.length_cons, List.length_map, hd.len]
    have hl : (L2.start N (V.ref p :: us)).length = (initS N.length (Slot.slf C [] [] :: ds.map (Slot.dat false))).length := start_len hl0
    have io0 : ∀ b, b = p → H b ≠ none := fun b e => by rw [e, hp]; intro z; cases z
    have R0 : Rel ⟨K, H, G, fun b => b = p, io0⟩ G H [(some (.ref p), .slf C [] [])] := by
      have R00 : Rel ⟨K, H, G, fun b => b = p, io0⟩ G H [] := ⟨fun _ _ e _ _ => e, fun _ h => h, gs, Same.refl G, fun _ _ => rfl, fun x hx => by simp at hx, by simp, tb⟩
      exact R00.cons ((slot_own rfl).mpr ⟨p, rfl, gp, (by rw [hp]; intro z; cases z), rfl, dx, [], hp, rfl, .nil⟩) (by rw [ownL_one rfl rfl]; simp) fun q _ => by simp
    have R1 : Rel ⟨K, H, G, fun b => b = p, io0⟩ G H ((L2.start N (V.ref p :: us)).zip (initS N.length (Slot.slf C [] [] :: ds.map (Slot.dat false))) ++ []) := by
      rw [start_zip hl0, List.append_nil]
      refine Rel.addNo ?_ zip_rep
      have := args_rel (c := ⟨K, H, G, fun b => b = p, io0⟩) hd R0
      exact this.perm (List.perm_append_comm (l₁ := [(some (V.ref p), Slot.slf C [] [])]))
    refine hs ⟨K, H, G, fun b => b = p, io0⟩ G H _ _ _ rfl hl R1 ?_
    have up : ∀ {G' H' E}, Rel ⟨K, H, G, fun b => b = p, io0⟩ G' H' E → Old (fun b => b = p) H H' ∧ TbsAt K G' H' ∧ Same G G' ∧ Same G' H' ∧ ∀ b, H b ≠ none → G' b = G b := fun R => ⟨⟨R.fr, R.al⟩, R.tb, R.g0, R.gs, R.gg⟩
    cases e : s (initS N.length (Slot.slf C [] [] :: ds.map (Slot.dat false))) with
    | no => rw [e] at q; exact q
    | er k d ρ' =>
      rw [e] at q
      intro v x σ' G' H' _ _ R' _ hv hx
      obtain ⟨h1, h0, h2, h3, h4⟩ := up R'
      exact q v x G' H' h1 h0 h2 h3 h4 hv hx
    | nx ρ' =>
      rw [e] at q
      cases ρ' with
      | nil => exact q.elim
      | cons t ρ' => cases t with
        | slf C' ns' ds' =>
          intro σ' G' H' _ hl' R' _
          dsimp only at q
          by_cases hC : C' = C
          · rw [if_pos hC] at q
            subst hC
            obtain ⟨h1, h0, h2, h3, h4⟩ := up R'
            cases σ' with
            | nil => simp at hl'
            | cons o σ' =>
              obtain ⟨q1, eq, _, _, hio, dx', ws, hq, hlw, hw⟩ := R'.sl (o, .slf C' ns' ds') (by simp)
              have hio' : q1 = p := hio
              subst hio'
              exact q G' H' dx' ws h1 h0 hq hlw h2 h3 h4 hw
          · rw [if_neg hC] at q
            exact q.elim
        | _ => exact q.elim
    | rt fr d ρ' => rw [e] at q; exact q.elim
    | bk ρ' => rw [e] at q; exact q.elim
    | ct ρ' => rw [e] at q; exact q.elim
  · rw [if_neg hn] at q
    exact q.elim
theorem len_i {C : Str} {N : List Str} {n : Nat} {s : S} {vs : List V} {Q : VK} {E : XK} (h : spI K C (runI C N.length n s) vs H Q E) : vs.length = n := by
  obtain ⟨p, dx, us, G, ds, rfl, hp, gp, gs, tb, hd, q⟩ := h
  unfold runI at q
  by_cases hn : ds.length + 1 = n
  · rw [List.length_cons, hd.len, hn]
  · rw [if_neg hn] at q
    exact q.elim
end
end Da
end F29
section F30
namespace Da
open PySem PySem.Spec PyProof.Rows L2 He Ds
variable [Tabl]
section
variable {K : PySem.W.Frag} {W : WX} {c : Cc} {G G' H : Hp} {σ : L2.St} {ρ : List Slot} {T : List En}
/-! ### dicts -/
def getD (ks : List Key) (ds : List D) (k : Key) : Option D := ((ks.zip ds).find? fun p => decide (p.1 = k)).map (·.2)
theorem valV_dr {F : Addr → Prop} {k : Key} : ∀ {ks : List Key} {vs : List V} {ds : List D}, ks.length = vs.length → DrA K G F vs ds → (∀ d, getD ks ds k = some d → ∃ v, valV (ks.zip vs) k = some v ∧ Dr K G F v d) ∧ (getD ks ds k = none → valV (ks.zip vs) k = none)
  | [], [], _, _, .nil => ⟨fun d h => by simp [getD] at h, fun _ => by simp [valV]⟩
  | k0 :: ks, v0 :: vs, _, hl, .cons h t => by
    obtain ⟨h1, h2⟩ := valV_dr (k := k) (show ks.length = vs.length by simpa using hl) t
    by_cases e : k0 = k
    · subst e
      refine ⟨fun d hd => ?_, fun hd => ?_⟩
      · simp [getD] at hd
        subst hd
        exact ⟨v0, by simp [valV], h⟩
      · simp [getD] at hd
    · have e1 : ∀ (ds : List D) (d0 : D), getD (k0 :: ks) (d0 :: ds) k = getD ks ds k := fun ds d0 => by simp [getD, e]
      have e2 : valV ((k0 :: ks).zip (v0 :: vs)) k = valV (ks.zip vs) k := by simp [valV, e]
      rw [e2]
      exact ⟨fun d hd => h1 d (by rw [e1] at hd; exact hd), fun hd => h2 (by rw [e1] at hd; exact hd)⟩
  | [], _ :: _, _, hl, _ => by simp at hl
  | _ :: _, [], _, hl, _ => by simp at hl
def dinK (neg : Bool) (a b : Bool × D) : Option (Bool × D) := match b.2 with
  | .dic ks ds => (keyOf a.2).map fun k => (true, .bl (if neg then !(getD ks ds k).isSome else (getD ks ds k).isSome))
  | _ => none
def mDin (neg : Bool) (ma : M (Bool × D)) (mc : M Look) : M (Bool × D) := mBin (fun a b => mo (dinK neg a b)) (mE ma) mc
theorem din_core {neg : Bool} {a b : Bool × D} {x y : V} {z : Bool × D} (ia : Itm c G H a.1 x a.2) (ib : Itm c G H b.1 y b.2) (e : dinK neg a b = some z) : ∃ p o, y = .ref p ∧ DGet H p x o ∧ z = (true, .bl (if neg then !o.isSome else o.isSome)) := by
  obtain ⟨f, a⟩ := a
  obtain ⟨g, b⟩ := b
  cases b with
  | dic ks ds =>
    unfold dinK at e
    dsimp only at e
    obtain ⟨k, ek, rfl⟩ := omap e
    obtain ⟨p, vs, rfl, h1, hl, h2⟩ := ib.2
    have hk := keyOf_eq ia.1 ek
    subst hk
    refine ⟨p, _, rfl, DGet.k h1, ?_⟩
    obtain ⟨h3, h4⟩ := valV_dr (k := k) hl h2
    cases q : getD ks ds k with
    | none => rw [h4 q]; rfl
    | some d =>
      obtain ⟨v, h5, _⟩ := h3 d q
      rw [h5]; rfl
  | _ => cases e
theorem de_din {ty td : TE} {ma : M (Bool × D)} {mc : M Look} (ha : DE K W ty ma) (hb : DB K W td mc) : DE K W (tDIn ty td) (mDin false ma mc) := by
  intro c G H σ ρ T Q hK hl R p
  refine bin_core (ta := ty) (tb := td) ha.b hb hK hl R p fun a b x y G2 H2 ρ2 hl2 R2 s2 ia ib q => ?_
  cases e : dinK false a b with
  | none => rw [e] at q; exact q.elim
  | some z =>
    rw [e] at q
    obtain ⟨p, o, h1, h2, rfl⟩ := din_core ia ib e
    exact ⟨p, o, h1, h2, q hl2 G2 H2 R2 (Same.refl G2) _ (.bl _)⟩
theorem de_dnotin {ty td : TE} {ma : M (Bool × D)} {mc : M Look} (ha : DE K W ty ma) (hb : DB K W td mc) : DE K W (tDNotIn ty td) (mDin true ma mc) := by
  intro c G H σ ρ T Q hK hl R p
  refine bin_core (ta := ty) (tb := td) ha.b hb hK hl R p fun a b x y G2 H2 ρ2 hl2 R2 s2 ia ib q => ?_
  cases e : dinK true a b with
  | none => rw [e] at q; exact q.elim
  | some z =>
    rw [e] at q
    obtain ⟨p, o, h1, h2, rfl⟩ := din_core ia ib e
    exact ⟨p, o, h1, h2, q hl2 G2 H2 R2 (Same.refl G2) _ (.bl _)⟩
/-- d[k] = v of a dict of the call's own: where k stands it is set, else it comes last -/
def putD (ks : List Key) (ds : List D) (k : Key) (d : D) : List Key × List D :=
  if (ks.any fun k0 => decide (k0 = k)) = true then (ks, (ks.zip ds).map fun p => if p.1 = k then d else p.2) else (ks ++ [k], ds ++ [d])
theorem any_zip {k : Key} : ∀ {ks : List Key} {vs : List V}, ks.length = vs.length → ((ks.zip vs).any fun kv => decide (kv.1 = k)) = ks.any fun k0 => decide (k0 = k)
  | [], [], _ => rfl
  | a :: ks, v :: vs, h => by
    rw [List.zip_cons_cons, List.any_cons, List.any_cons, any_zip (by simpa using h)]
  | [], _ :: _, hl => by simp at hl
  | _ :: _, [], hl => by simp at hl
theorem set_dr {F : Addr → Prop} {k : Key} {v : V} {d : D} (hv : Dr K G F v d) : ∀ {ks : List Key} {vs : List V} {ds : List D}, ks.length = vs.length → DrA K G F vs ds →
    ∃ ws, (ks.zip vs).map (fun kv => if kv.1 = k then (kv.1, v) else kv) = ks.zip ws ∧ ks.length = ws.length ∧ DrA K G F ws ((ks.zip ds).map fun p => if p.1 = k then d else p.2)
  | [], [], _, _, .nil => ⟨[], rfl, rfl, .nil⟩
  | k0 :: ks, v0 :: vs, _, hl, .cons h t => by
    obtain ⟨ws, h1, h2, h3⟩ := set_dr (k := k) hv (show ks.length = vs.length by simpa using hl) t
    by_cases e : k0 = k
    · refine ⟨v :: ws, ?_, by simp [h2], ?_⟩
      · simp [e, h1]
      · simp only [List.zip_cons_cons, List.map_cons, e, if_true]
        exact .cons hv h3
    · refine ⟨v0 :: ws, ?_, by simp [h2], ?_⟩
      · simp [e, h1]
      · simp only [List.zip_cons_cons, List.map_cons, e, if_false]
        exact .cons h h3
  | [], _ :: _, _, hl, _ => by simp at hl
  | _ :: _, [], _, hl, _ => by simp at hl
theorem putK_dr {F : Addr → Prop} {k : Key} {v : V} {d : D} (hv : Dr K G F v d) {ks : List Key} {vs : List V} {ds : List D} (hl : ks.length = vs.length) (t : DrA K G F vs ds) :
    ∃ ws, putK (ks.zip vs) k v = (putD ks ds k d).1.zip ws ∧ (putD ks ds k d).1.length = ws.length ∧ DrA K G F ws (putD ks ds k d).2 := by
  unfold putD
  by_cases h : (ks.any fun k0 => decide (k0 = k)) = true
  · rw [if_pos h]
    obtain ⟨ws, h1, h2, h3⟩ := set_dr (k := k) hv hl t
    refine ⟨ws, ?_, h2, h3⟩
    unfold putK
    rw [any_zip hl, if_pos h]
    exact h1
  · rw [if_neg h]
    refine ⟨vs ++ [v], ?_, by simp [hl], t.append (.cons hv .nil)⟩
    unfold putK
    rw [any_zip hl, if_neg h, List.zip_append hl]
    rfl
def hasDct (i : Nat) (ρ : List Slot) : Bool := match ρ[i]? with
  | some (.dct _ _ _) => true
  | _ => false
def sGuard (b : List Slot → Bool) (s : S) : S := fun ρ => if b ρ = true then s ρ else .no
def putS (i : Nat) (v k : Bool × D) : S := fun ρ => match ρ[i]? with
  | some (.dct f ks ds) => (match keyOf k.2 with
    | some k => if ks.length < 100000 then .nx (ρ.set i (.dct ((f || flatDs ds) && (v.1 || flatD v.2)) (putD ks ds k v.2).1 (putD ks ds k v.2).2)) else .no
    | none => .no)
  | _ => .no
def sPut (i : Nat) (mk mv : M (Bool × D)) : S := sE mv fun v => sGuard (hasDct i) (sE mk (putS i v))
theorem hasDct_of {i : Nat} (hl : σ.length = ρ.length) (R : Rel c G H (σ.zip ρ ++ T)) (h : hasDct i ρ = true) : ∃ p, σ[i]? = some (some (V.ref p)) := by
  unfold hasDct at h
  cases e : ρ[i]? with
  | none => rw [e] at h; cases h
  | some s => cases s with
    | dct f ks ds =>
      obtain ⟨o, e1, e2⟩ := zip_get hl e
      obtain ⟨p, eo, _⟩ := R.sl _ (zip_mem (T := T) e2)
      cases eo
      exact ⟨p, e1⟩
    | _ => rw [e] at h; cases h
theorem ds_put (i : Nat) {ty tv : TE} {mk mv : M (Bool × D)} (hk : DE K W ty mk) (hv : DE K W tv mv) : DS K W (sDPut (tVar i) ty tv) (sPut i mk mv) := by
  intro c G H σ ρ E hK hl R p
  refine hv c G H σ ρ [] _ hK hl R (sE_post p fun a ρ1 G1 H1 hl1 R1 s1 q1 v r => ?_)
  unfold sGuard at q1
  by_cases hd : hasDct i ρ1 = true
  · rw [if_pos hd] at q1
    obtain ⟨p0, e1⟩ := hasDct_of hl1 R1 hd
    refine ⟨.ref p0, e1, ?_⟩
    refine hk c G1 H1 σ ρ1 [] _ hK hl1 R1 (sE_post q1 fun b ρ2 G2 H2 hl2 R2 s2 q2 y ry => ?_)
    unfold putS at q2
    cases e3 : ρ2[i]? with
    | none => rw [e3] at q2; exact q2.elim
    | some s => cases s with
      | dct f ks ds =>
        rw [e3] at q2
        dsimp only at q2
        cases e4 : keyOf b.2 with
        | none => rw [e4] at q2; exact q2.elim
        | some k =>
          rw [e4] at q2
          dsimp only at q2
          by_cases hz : ks.length < 100000
          · rw [if_pos hz] at q2
            obtain ⟨o', e5, e6⟩ := zip_get hl2 e3
            have eo : o' = some (.ref p0) := Option.some.inj (e5.symm.trans e1)
            subst eo
            have R3 := R2.out e6
            obtain ⟨p1, eq, g1, h1, ⟨h0, vs, h2, hl3, hda⟩, _⟩ := R3.head rfl
            cases eq
            subst hK
            have ey := keyOf_eq ry e4
            subst ey
            obtain ⟨ws, w1, w2, w3⟩ := putK_dr (k := k) (F := Fl c ((f || flatDs ds) && (a.1 || flatD a.2))) ((r.up s2).fl.low') hl3 (hda.fl.low)
            refine ⟨p0, _, rfl, DPut.k h2 (by rw [List.length_zip]; exact Nat.lt_of_le_of_lt (Nat.min_le_left _ _) (Nat.lt_of_lt_of_le hz (by decide))), ?_⟩
            rw [w1]
            have R4 := R3.mutO (s' := .dct ((f || flatDs ds) && (a.1 || flatD a.2)) (putD ks ds k a.2).1 (putD ks ds k a.2).2) rfl rfl (.inr h0) ⟨h0, ws, upd_same, w2, w3⟩
            exact q2 σ G2 _ rfl (by rw [List.length_set]; exact hl2) (Rel.back' hl2 e5 R4) (Same.refl G2)
          · rw [if_neg hz] at q2
            exact q2.elim
      | _ => rw [e3] at q2; exact q2.elim
  · rw [if_neg hd] at q1
    exact q1.elim
theorem dd_disp1 {tk tv : TE} {mk mv : M (Bool × D)} (hk : DE K W tk mk) (hv : DE K W tv mv) : DD K W (tDisp [(tk, tv)]) (mDisp1 mk mv) := by
  intro c G H σ ρ T Q hK hl R p q nq
  have R0 := R.new0 (o := .dK []) nq
  have P : Post c G ((some (V.ref q), Slot.dct true [] []) :: T) σ W _ (mDisp1 mk mv ρ) := p.more
  have R1 : Rel c G (upd H q (.dK [])) ((some (.ref q), .dct true [] []) :: (σ.zip ρ ++ T)) := R.newHeld nq rfl ⟨R.h0 nq, [], by rw [upd_same]; rfl, rfl, .nil⟩
  refine hk c G _ σ ρ ((some (V.ref q), Slot.dct true [] []) :: T) _ hK hl (mid_in R1) (Post.imp (Post.bind P) fun a ρ1 G1 H1 hl1 R2 s1 q1 v r => ?_)
  refine hv c G1 H1 σ ρ1 _ _ hK hl1 R2 (Post.imp (Post.bind q1) fun b ρ2 G2 H2 hl2 R3 s2 q2 w r2 => ?_)
  obtain ⟨q', eq, g1, h1, ⟨h0, vs, h2, hl3, hda⟩, _⟩ := (mid_out R3).head rfl
  cases eq
  cases hda
  show tPairs [] σ H2 _
  refine ⟨h2, ?_⟩
  cases e : keyOf a.2 with
  | none => rw [e] at q2; exact q2.elim
  | some k =>
    rw [e] at q2
    subst hK
    have ek := keyOf_eq r e
    subst ek
    refine ⟨[(k, w)], rfl, by show 1 ≤ 15; decide, ?_⟩
    have R4 := (mid_out R3).mutO (s' := .dct (b.1 || flatD b.2) [k] [b.2]) (u := .dK (mergeK [] [(k, w)])) rfl rfl (.inr h0) ⟨h0, [w], by rw [upd_same]; rfl, rfl, .cons r2.fl .nil⟩
    exact q2 hl2 G2 H2 R3 (Same.refl G2) q _ R4
/-! ### repr, and == of what it gives -/
def seqD : D → Bool
  | .lst _ => true
  | .tup _ => true
  | _ => false
def shownOk (e : PyData) : Prop := e.showable = true ∧ e.hasDict = false ∧ e.depth ≤ 20 ∧ e.shown.length ≤ 1000000
instance (e : PyData) : Decidable (shownOk e) := inferInstanceAs (Decidable (_ ∧ _ ∧ _ ∧ _))
def dRepr (a : D) : Option D := if seqD a = true then (match toPy a with
  | some e => if shownOk e then some (.rep e) else none
  | none => none) else none
theorem s_repr : UnS K (fun x H Q => rReprD K [x] H Q) dRepr := by
  intro c G H f1 x a d Q hK ia e q
  subst hK
  unfold dRepr at e
  by_cases h5 : seqD a = true
  · rw [if_pos h5] at e
    cases e1 : toPy a with
    | none => rw [e1] at e; cases e
    | some y =>
      rw [e1] at e
      dsimp only at e
      by_cases h : shownOk y
      · rw [if_pos h] at e
        cases e
        obtain ⟨r, _⟩ := ia.1.py e1
        obtain ⟨h1, h2, h3, h4⟩ := h
        have hx : ∃ p, x = .ref p := by
          cases a with
          | lst ds => obtain ⟨p, _, rfl, _⟩ := ia.2; exact ⟨p, rfl⟩
          | tup ds => obtain ⟨p, _, rfl, _⟩ := ia.2; exact ⟨p, rfl⟩
          | _ => cases h5
        obtain ⟨p, rfl⟩ := hx
        exact ⟨p, y, rfl, r, h1, h2, h3, Nat.le_trans h4 (by decide), q _ fun _ _ _ => .rep y⟩
      · rw [if_neg h] at e
        cases e
  · rw [if_neg h5] at e
    cases e
def dEqR (a b : D) : Option D := match a, b with
  | .rep x, .rep y => some (.bl (decide (x.shown = y.shown)))
  | _, _ => none
def dNeR (a b : D) : Option D := match a, b with
  | .rep x, .rep y => some (.bl (!decide (x.shown = y.shown)))
  | _, _ => none
theorem dec_str (x y : Str) : decide (V.str x = V.str y) = decide (x = y) := by
  by_cases h : x = y
  · subst h; simp
  · rw [decide_eq_false h, decide_eq_false (fun z => h (V.str.inj z))]
theorem s_eqR : OpS K rEq dEqR := by
  intro c G H f1 f2 x y a b d Q hK ia ib e q
  unfold dEqR at e
  split at e
  · cases e
    cases ia.1
    cases ib.1
    refine ⟨rfl, ?_⟩
    rw [dec_str]
    exact q _ (.bl _)
  · cases e
theorem s_neR : OpS K rNe dNeR := by
  intro c G H f1 f2 x y a b d Q hK ia ib e q
  unfold dNeR at e
  split at e
  · cases e
    cases ia.1
    cases ib.1
    refine ⟨rfl, ?_⟩
    rw [dec_str]
    exact q _ (.bl _)
  · cases e
/-! ### max, min of two -/
theorem de_min2 {ta tb : TE} {ma mc : M Look} (ha : DB K W ta ma) (hb : DB K W tb mc) : DE K W (tCB (fun xs H Q => ∃ i j, xs = [V.int i, .int j] ∧ Q (.int (if j < i then j else i)) H) (tCons ta (tCons tb tNil))) (mOp dMin2 ma mc) := by
  have h := de_op (ops_int0 (K := K) (f := fun i j => .int (if j < i then j else i)) fun _ _ => .int _) ha hb
  intro c G H σ ρ T Q hK hl R p
  have z : tOp (rI0 fun i j => .int (if j < i then j else i)) ta tb σ H Q := h c G H σ ρ T Q hK hl R p
  have e : (fun (x : V) (y : V) (H2 : Hp) => ∃ i j, [x, y] = [V.int i, V.int j] ∧ Q (V.int (if j < i then j else i)) H2) = fun x y H2 => rI0 (fun i j => .int (if j < i then j else i)) x y H2 Q := by
    funext x y H2
    refine propext ⟨fun ⟨i, j, e, q⟩ => ?_, fun ⟨i, j, e1, e2, q⟩ => ⟨i, j, by rw [e1, e2], q⟩⟩
    cases e
    exact ⟨i, j, rfl, rfl, q⟩
  show ta σ H fun x H1 => tb σ H1 fun y H2 => (fun (x : V) (y : V) (H2 : Hp) => ∃ i j, [x, y] = [V.int i, V.int j] ∧ Q (V.int (if j < i then j else i)) H2) x y H2
  rw [e]
  exact z
/-! ### x = [.. for ..] at once -/
theorem ds_setLc {te : TE} {i : Nat} {m : M (Bool × List D)} (h : DL K W te m) : DS K W (tAsg te (gName i)) (sSet i (mKeep m)) := ds_set h.e
/-! ### pool[i] = v -/
def poolS (i : Nat) (v k : Bool × D) : S := fun ρ => match ρ[i]? with
  | some (.pool ns) => (match k.2, v.2 with
    | .int j, .int z => (match ixN ns.length j with
      | some j => .nx (ρ.set i (.pool (ns.set j z)))
      | none => .no)
    | _, _ => .no)
  | _ => .no
def sPoolSet (i : Nat) (mi mv : M (Bool × D)) : S := sE mv fun v => sGuard (hasPool i) (sE mi (poolS i v))
theorem ds_poolSet {i : Nat} {ti tv : TE} {mi mv : M (Bool × D)} (hi : DE K W ti mi) (hv : DE K W tv mv) : DS K W (tAsg tv (gSub (tVar i) ti rSetL)) (sPoolSet i mi mv) := by
  intro c G H σ ρ E hK hl R p
  refine hv c G H σ ρ [] _ hK hl R (sE_post p fun a ρ1 G1 H1 hl1 R1 s1 q1 v r => ?_)
  unfold sGuard at q1
  by_cases hd : hasPool i ρ1 = true
  · rw [if_pos hd] at q1
    obtain ⟨p0, ns0, e1, e2⟩ := hasPool_of hl1 R1 hd
    refine ⟨.ref p0, e1, ?_⟩
    refine hi c G1 H1 σ ρ1 [] _ hK hl1 R1 (sE_post q1 fun b ρ2 G2 H2 hl2 R2 s2 q2 y ry => ?_)
    unfold poolS at q2
    cases e3 : ρ2[i]? with
    | none => rw [e3] at q2; exact q2.elim
    | some s => cases s with
      | pool ns =>
        rw [e3] at q2
        dsimp only at q2
        obtain ⟨o', e5, e6⟩ := zip_get hl2 e3
        have eo : o' = some (.ref p0) := Option.some.inj (e5.symm.trans e1)
        subst eo
        have R3 := R2.out e6
        obtain ⟨p1, eq, g1, h1, ⟨hio, h2⟩, _⟩ := R3.head rfl
        cases eq
        obtain ⟨fa, a⟩ := a
        obtain ⟨fb, b⟩ := b
        dsimp only at q2 r ry
        cases b with
        | int j => cases a with
          | int z =>
            cases r
            cases ry
            dsimp only at q2
            cases e7 : ixN ns.length j with
            | none => rw [e7] at q2; exact q2.elim
            | some j' =>
              rw [e7] at q2
              refine ⟨p0, _, j, j', rfl, rfl, h2, by rw [List.length_map]; exact e7, ?_⟩
              have R4 := R3.mutO (s' := .pool (ns.set j' z)) (u := .lst ((ns.map V.int).set j' (.int z))) rfl rfl (.inl hio) ⟨hio, by rw [upd_same, List.map_set]⟩
              exact q2 σ G2 _ rfl (by rw [List.length_set]; exact hl2) (Rel.back' hl2 e5 R4) (Same.refl G2)
          | _ => exact q2.elim
        | _ => cases a <;> exact q2.elim
      | _ => rw [e3] at q2; exact q2.elim
  · rw [if_neg hd] at q1
    exact q1.elim
end
end Da
end F30
section F31
namespace Da
open PySem PySem.Spec PyProof.Rows L2 He Ds
variable [Tabl]
/-- the ix-th items -/
def pick {α : Type} (ix : List Nat) (l : List α) : List α := ix.filterMap fun i => l[i]?
theorem pick_vals {vs : List V} {us : List Value} (r : Vals vs us) : ∀ ix : List Nat, Vals (pick ix vs) (pick ix us)
  | [] => .nil
  | i :: ix => by
    unfold pick
    rw [List.filterMap_cons, List.filterMap_cons]
    cases e : vs[i]? with
    | none =>
      rw [Vals.none_of r e]
      exact pick_vals r ix
    | some v =>
      obtain ⟨u, h1, h2⟩ := Vals.get r e
      rw [h1]
      exact .cons h2 (pick_vals r ix)
theorem pick_dr {K : PySem.W.Frag} {G : Hp} {F : Addr → Prop} {vs : List V} {ds : List D} (r : DrA K G F vs ds) : ∀ ix : List Nat, DrA K G F (pick ix vs) (pick ix ds)
  | [] => .nil
  | i :: ix => by
    unfold pick
    rw [List.filterMap_cons, List.filterMap_cons]
    cases e : vs[i]? with
    | none =>
      have e2 : ds[i]? = none := by
        rw [List.getElem?_eq_none_iff] at e ⊢
        rw [← r.len]; exact e
      rw [e2]
      exact pick_dr r ix
    | some v =>
      obtain ⟨d, h1, h2⟩ := r.get e
      rw [h1]
      exact .cons h2 (pick_dr r ix)
/-! ### a def called by names alone -/
def CalK (P : Program) (w : World) (K : PySem.W.Frag) (mg : Str → Option Value) (base : Heap) (CX : CXT) (k : Nat) (x : Str) (ps ks : List Str) (ix : List Nat) (sp : Sp) : Prop :=
  ∃ f fd, FnOk P w K mg base CX k f fd ps sp ∧ mg x = some (.ref f) ∧ PySem.W.keepIn K (.ref f) = true ∧ ∀ (s : Shared) (ws : List Value), K.In s.heap → ws.length = ks.length → BindsTo s fd ⟨[], ks.zip ws⟩ (ps.zip (pick ix ws))
def tCalK (m : Nat) (ix : List Nat) (sp : Sp) (E : L2.St → XK) (t : TA) : TE := fun σ H Q => t σ H fun vs H1 => vs.length = m ∧ sp (pick ix vs) H1 Q (E σ)
section
variable {X : Cx} {CX : CXT} {k j : Nat} {x : Str} {ps ks : List Str} {ix : List Nat} {sp : Sp} {E : L2.St → XK} {W : WX} {p pos : Pos} {kws : List Keyword} {t : TA}
theorem pe_calKG (c : CalK X.prog X.w X.K X.mg X.base CX k x ps ks ix sp) (hr : Room j X.A) (hg : Gl X x) (hx : ∀ σ, PassesAt CX X σ (E σ)) (hkw : PK X kws t) (hj : k ≤ j)
    (hall : (backToKw pos (keywordEach kws X.env)).all (·.1.isSome) = true) (hks : (backToKw pos (keywordEach kws X.env)).filterMap (·.1) = ks) (hdb : (x == ("__debug__" : Str)) = false)
    (hpl : ((backTo pos (starEach [] X.env)).any (·.1) || (backToKw pos (keywordEach kws X.env)).any (·.1.isNone)) = false) : PE X (.Call (.Name x p) [] kws pos) (tCalK ks.length ix sp E t) := by
  obtain ⟨f, fd, F, hm, kp, b⟩ := c
  refine ⟨fun pins s σ H Q I h => wpAny_Call_Name_kw (ld_glob I hg hm ?_ hdb)⟩
  refine PySem.W.callWith_KW0 (h₀ := X.base) I.ok.mod.kin kp hall (thn (hkw.run pos pins s σ H _ I h) ?_) hpl
  intro ws s2 q0
  obtain ⟨zs, H2, I2, rz, hl, q2⟩ := q0
  rw [hks]
  refine ⟨I2.kIn, wpAny_call (codeAny_mono (F.run X.A X.stack s2 H2 ⟨[], ks.zip ws⟩ (pick ix ws) (pick ix zs) Q (E σ) (hr.mono hj) I2.env0 (b s2 ws I2.kIn (rz.length.symm.trans hl)) (pick_vals rz ix) q2) fun r s' hq => ?_)⟩
  cases r with
  | error e => exact hx σ pins H2 s2 e s' I2 hq
  | ok fl =>
    cases fl with
    | ret u => exact I2.after hq
    | next => exact False.elim hq
    | brk => exact False.elim hq
    | cont => exact False.elim hq
theorem pe_calKN (c : CalK X.prog X.w X.K X.mg X.base (L2.CX X.prog X.w) k x ps ks ix sp) (hr : Room j X.A) (hg : Gl X x) (hkw : PK X kws t) (hj : k ≤ j := by decide)
    (hall : (backToKw pos (keywordEach kws X.env)).all (·.1.isSome) = true := by rfl) (hks : (backToKw pos (keywordEach kws X.env)).filterMap (·.1) = ks := by rfl) (hdb : (x == ("__debug__" : Str)) = false := by decide)
    (hpl : ((backTo pos (starEach [] X.env)).any (·.1) || (backToKw pos (keywordEach kws X.env)).any (·.1.isNone)) = false := by rfl) : PE X (.Call (.Name x p) [] kws pos) (tCalK ks.length ix sp (fun _ => E0) t) :=
  pe_calKG c hr hg (fun σ pins H s e s' I h => passL pins σ H s e s' I h) hkw hj hall hks hdb hpl
end
section
variable {K : PySem.W.Frag} {W : WX}
def mCallK (m : Nat) (ix : List Nat) (f : List D → Out) (ma : M (List Slot)) : M (Bool × D) := mDats ma fun r => if r.2.length = m then outN (f (pick ix r.2)) else mno
theorem de_callKN {m : Nat} {ix : List Nat} {f : List D → Out} {ta : TA} {ma : M (List Slot)} (ha : DA K W ta ma) : DE K W (tCalK m ix (spD K f) (fun _ => E0) ta) (mCallK m ix f ma) := by
  intro c G H σ ρ T Q hK hl R p
  refine dats_core ha hK hl R p fun fr ds vs G2 H2 ρ2 hl2 R2 s2 hd hn q => ?_
  subst hK
  dsimp only at q
  by_cases e : ds.length = m
  · rw [if_pos e] at q
    exact ⟨by rw [← hn, e], outN_spd (f := f) E0 hl2 R2 (pick_dr hd ix) q⟩
  · rw [if_neg e] at q
    exact q.elim
end
end Da
end F31
section F32
namespace Da
open PySem PySem.Spec PyProof.Rows L2 He Ds
variable [Tabl]
section
variable {K : PySem.W.Frag} {W : WX} {c : Cc} {G H : Hp} {σ : L2.St} {ρ : List Slot} {T : List En}
/-! ### [.. for .. in .. for .. in ..] -/
def innerD (vs1 : List Nat) (t1 : Tgt) (tt1 : M Bool) (te : M (Bool × D)) : List (Bool × D) → Bool → List D → List Slot → Res (Bool × List D)
  | [], f, acc, ρ => .ok (f, acc) ρ
  | a :: as, f, acc, ρ => match t1 a ρ with
    | none => .no
    | some ρ1 => match tt1 ρ1 with
      | .ok true ρ2 => (match te ρ2 with
        | .ok b ρ3 => if acc.length < 100000 then innerD vs1 t1 tt1 te as (f && (b.1 || flatD b.2)) (acc ++ [b.2]) (wipeS ρ3 vs1) else .no
        | _ => .no)
      | .ok false ρ2 => innerD vs1 t1 tt1 te as f acc (wipeS ρ2 vs1)
      | _ => .no
def comp2D (vs : List Nat) (t : Tgt) (tt : M Bool) (vs1 : List Nat) (mi1 : M (List (Bool × D))) (t1 : Tgt) (tt1 : M Bool) (te : M (Bool × D)) (ρ0 : List Slot) : List (Bool × D) → Bool → List D → List Slot → Res (Bool × List D)
  | [], f, acc, ρ => .ok (f, acc) (unw ρ0 vs ρ)
  | a :: as, f, acc, ρ => match t a ρ with
    | none => .no
    | some ρ1 => match tt ρ1 with
      | .ok true ρ2 => (match mi1 ρ2 with
        | .ok its1 ρ3 => (match innerD vs1 t1 tt1 te its1 f acc (wipeS ρ3 vs1) with
          | .ok b ρ4 => comp2D vs t tt vs1 mi1 t1 tt1 te ρ0 as b.1 b.2 (wipeS ρ4 vs)
          | _ => .no)
        | _ => .no)
      | .ok false ρ2 => comp2D vs t tt vs1 mi1 t1 tt1 te ρ0 as f acc (wipeS ρ2 vs)
      | _ => .no
def mComp2 (vs : List Nat) (mi : M (List (Bool × D))) (t : Tgt) (tt : M Bool) (vs1 : List Nat) (mi1 : M (List (Bool × D))) (t1 : Tgt) (tt1 : M Bool) (te : M (Bool × D)) : M (Bool × List D) := mb mi fun its => fun ρ => comp2D vs t tt vs1 mi1 t1 tt1 te ρ its true [] (wipeS ρ vs)
theorem wipeS_rel {σ2 σw : L2.St} {ρ3 : List Slot} {vs : List Nat} (l3 : σ2.length = ρ3.length) (ew : L2.wipe σ2 vs = σw) (R : Rel c G H (σ2.zip ρ3 ++ T)) : Rel c G H (σw.zip (wipeS ρ3 vs) ++ T) := by
  have R4 := Rel.wipe l3 vs R
  rw [ew] at R4
  exact R4.subl ((List.sublist_append_right _ _).append_left _)
theorem dl_lc2 {wi wi1 : TI} {g g1 : TG} {tt tt1 : TT} {te : TE} {vs tv vs1 tv1 : List Nat} {mi mi1 : M (List (Bool × D))} {t t1 : Tgt} {mt mt1 : M Bool} {me : M (Bool × D)} (hi : DI K W wi mi) (hg : DG K tv g t) (hv : ∀ i ∈ tv, i ∈ vs) (ht : DT K W tt mt)
    (hi1 : DI K W wi1 mi1) (hg1 : DG K tv1 g1 t1) (hv1 : ∀ i ∈ tv1, i ∈ vs1) (hs : ∀ i ∈ vs1, i ∈ vs) (ht1 : DT K W tt1 mt1) (he : DE K W te me) : DL K W (tLc2 wi g tt wi1 g1 tt1 te vs vs1) (mComp2 vs mi t mt vs1 mi1 t1 mt1 me) := by
  intro c G H σ ρ T Q hK hl R p
  refine hi c G H σ ρ T _ hK hl R (Post.imp (Post.bind p) fun its ρ1 G1 H1 hl1 R1 s1 q J hJ => ?_)
  intro D nD
  subst hK
  let PP : Hp → Res (Bool × List Da.D) → Prop := fun Gc r => Post c Gc T σ W (fun a ρ' G' H' => ∀ p vs H2, Rel c G' H2 ((some (.ref p), .own a.1 a.2) :: (σ.zip ρ' ++ T)) → H2 p = some (.lst vs) → Q (.ref p) H2) r
  let E0 : List En := savedE σ ρ1 vs ++ T
  obtain ⟨Wv, hW⟩ : ∃ Wv : Nat → Nat → Hp → Prop, Wv = fun i m Hc => m = its.length - i ∧ i ≤ its.length ∧ ∃ (Gc : Hp) (f : Bool) (acc : List Da.D) (ρc : List Slot), Same G1 Gc ∧ ρc.length = ρ1.length ∧
    Rel c Gc Hc ((some (.ref D), .own f acc) :: ((L2.wipe σ vs).zip ρc ++ E0)) ∧ PP Gc (comp2D vs t mt vs1 mi1 t1 mt1 me ρ1 (its.drop i) f acc ρc) := ⟨_, rfl⟩
  refine ⟨Wv, ⟨its.length, ?_⟩, fun i m Hc hw => ?_⟩
  · rw [hW]
    refine ⟨rfl, Nat.zero_le _, G1, true, [], wipeS ρ1 vs, Same.refl _, wipeS_len _ _, ?_, q⟩
    exact Rel.newOwn (R1.wipe hl1 vs) nD .nil
  · rw [hW] at hw
    obtain ⟨em, hin, Gc, f, acc, ρc, sG, hlc, Rc, P⟩ := hw
    obtain ⟨h1, h2⟩ := hJ i Gc Hc _ Rc (fun _ z => absurd z List.not_mem_nil) sG
    by_cases hlt : i < its.length
    · have ea : its[i]? = some its[i] := List.getElem?_eq_getElem hlt
      obtain ⟨hgo, hy⟩ := h1 _ ea
      rw [List.drop_eq_getElem_cons hlt] at P
      generalize its[i] = a at ea hy P
      refine .inr ⟨hgo, Wv (i + 1) (its.length - (i + 1)), fun H' w => ⟨_, by omega, w⟩, fun x H' yl => ?_⟩
      obtain ⟨Gn, k1, k2, k3, k4, hx⟩ := hy x H' yl
      have Rn := Rc.grow k1 k2 k3 k4
      unfold comp2D at P
      cases e1 : t a ρc with
      | none => rw [e1] at P; exact P.elim
      | some ρd =>
        rw [e1] at P
        dsimp only at P
        have hwl : (L2.wipe σ vs).length = ρc.length := by rw [wipe_length, hl1, hlc]
        refine hg c Gn H' (L2.wipe σ vs) ρc ρd _ x a _ rfl hwl (mid_in Rn) hx e1 fun σ2 l1 l2 k5 R2 => ⟨wipe_eq (by rw [l2, wipe_length]) fun j hj => k5 j fun z => hj (hv j z), ?_⟩
        have l2' : σ2.length = σ.length := by rw [l2, wipe_length]
        have ew : L2.wipe σ2 vs = L2.wipe σ vs := wipe_eq l2' fun j hj => k5 j fun z => hj (hv j z)
        have fin : ∀ (G3 H3 : Hp) (f' : Bool) (acc' : List Da.D) (σ3 : L2.St) (ρ3 : List Slot), Same Gn G3 → σ3.length = ρ3.length → σ3.length = σ.length → L2.wipe σ3 vs = L2.wipe σ vs → Rel c G3 H3 (σ3.zip ρ3 ++ ((some (.ref D), .own f' acc') :: E0)) →
            PP Gc (comp2D vs t mt vs1 mi1 t1 mt1 me ρ1 (its.drop (i + 1)) f' acc' (wipeS ρ3 vs)) → Wv (i + 1) (its.length - (i + 1)) H3 := by
          intro G3 H3 f' acc' σ3 ρ3 s3 l3 l3' ew3 R3 P3
          rw [hW]
          exact ⟨rfl, hlt, G3, f', acc', wipeS ρ3 vs, (sG.trans k2).trans s3, by rw [wipeS_len, ← l3, l3', hl1], mid_out (wipeS_rel l3 ew3 R3), P3.later (k2.trans s3)⟩
        have step : Post c Gn ((some (.ref D), .own f acc) :: E0) σ2 W (fun b ρ2 G3 H3 => if b = true then wi1 σ2 H3 (fun J1 H4 => ∃ W1 : Nat → Nat → Hp → Prop, (∃ m, W1 0 m H4) ∧ ∀ j k H, W1 j k H →
            (J1.stop j H ∧ Wv (i + 1) (its.length - (i + 1)) H) ∨ (J1.go j H ∧ ∃ Nx1 : Hp → Prop, (∀ H', Nx1 H' → ∃ k', k' < k ∧ W1 (j + 1) k' H') ∧ ∀ x H', J1.yld j H x H' → g1 x (L2.wipe σ2 vs1) H' fun σ3 H5 => L2.wipe σ3 vs1 = L2.wipe σ2 vs1 ∧ tt1 σ3 H5 fun b H6 =>
              if b = true then te σ3 H6 fun y H7 => ∃ acc, H7 D = some (.lst acc) ∧ acc.length < sizeLine ∧ Nx1 (upd H7 D (.lst (acc ++ [y]))) else Nx1 H6)) else Wv (i + 1) (its.length - (i + 1)) H3) (mt ρd) := by
          cases e2 : mt ρd with
          | no => rw [e2] at P; exact P.elim
          | er _ _ _ => rw [e2] at P; exact P.elim
          | ok b ρ2 =>
            rw [e2] at P
            intro l3 G3 H3 R3 s3
            cases b with
            | false => exact iteF (fin G3 H3 f acc σ2 ρ2 s3 l3 l2' ew R3 P)
            | true =>
              refine iteT ?_
              dsimp only at P
              refine hi1 c G3 H3 σ2 ρ2 _ _ rfl l3 R3 ?_
              cases e3 : mi1 ρ2 with
              | no => rw [e3] at P; exact P.elim
              | er _ _ _ => rw [e3] at P; exact P.elim
              | ok its1 ρ3 =>
                rw [e3] at P
                dsimp only at P
                intro l4 G4 H4 R4 s4 J1 hJ1
                -- the inner loop
                let sq : Res (Bool × List Da.D) → Res (Bool × List Da.D) := fun r => match r with
                  | .ok b ρ4 => comp2D vs t mt vs1 mi1 t1 mt1 me ρ1 (its.drop (i + 1)) b.1 b.2 (wipeS ρ4 vs)
                  | _ => .no
                obtain ⟨W1, hW1⟩ : ∃ W1 : Nat → Nat → Hp → Prop, W1 = fun j m Hj => m = its1.length - j ∧ j ≤ its1.length ∧ ∃ (Gj : Hp) (f' : Bool) (acc' : List Da.D) (ρj : List Slot), Same G4 Gj ∧ ρj.length = ρ1.length ∧
                  Rel c Gj Hj ((L2.wipe σ2 vs1).zip ρj ++ ((some (.ref D), .own f' acc') :: E0)) ∧ PP Gc (sq (innerD vs1 t1 mt1 me (its1.drop j) f' acc' ρj)) := ⟨_, rfl⟩
                refine ⟨W1, ⟨its1.length, ?_⟩, fun j m Hj hw1 => ?_⟩
                · rw [hW1]
                  exact ⟨rfl, Nat.zero_le _, G4, f, acc, wipeS ρ3 vs1, Same.refl _, by rw [wipeS_len, ← l4, l2', hl1], wipeS_rel l4 rfl R4, P⟩
                · rw [hW1] at hw1
                  obtain ⟨em1, hin1, Gj, f', acc', ρj, sj, hlj, Rj, Pj⟩ := hw1
                  obtain ⟨i1, i2⟩ := hJ1 j Gj Hj _ Rj (fun _ z => absurd z List.not_mem_nil) sj
                  have gG : Same Gn Gj := (s3.trans s4).trans sj
                  have wl1 : (L2.wipe σ2 vs1).length = ρj.length := by rw [wipe_length, l2', hl1, hlj]
                  by_cases hlt1 : j < its1.length
                  · have eb : its1[j]? = some its1[j] := List.getElem?_eq_getElem hlt1
                    obtain ⟨hgo1, hy1⟩ := i1 _ eb
                    rw [List.drop_eq_getElem_cons hlt1] at Pj
                    generalize its1[j] = a1 at eb hy1 Pj
                    refine .inr ⟨hgo1, W1 (j + 1) (its1.length - (j + 1)), fun H' w => ⟨_, by omega, w⟩, fun x1 H5 yl1 => ?_⟩
                    obtain ⟨Gm, m1, m2, m3, m4, hx1⟩ := hy1 x1 H5 yl1
                    have Rm := Rj.grow m1 m2 m3 m4
                    unfold innerD at Pj
                    cases e4 : t1 a1 ρj with
                    | none => rw [e4] at Pj; exact Pj.elim
                    | some ρk =>
                      rw [e4] at Pj
                      dsimp only at Pj
                      refine hg1 c Gm H5 (L2.wipe σ2 vs1) ρj ρk _ x1 a1 _ rfl wl1 Rm hx1 e4 fun σ3 n1 n2 n5 R5 => ?_
                      have n2' : σ3.length = σ2.length := by rw [n2, wipe_length]
                      have ew1 : L2.wipe σ3 vs1 = L2.wipe σ2 vs1 := wipe_eq n2' fun z hz => n5 z fun y => hz (hv1 z y)
                      refine ⟨ew1, ?_⟩
                      have fin1 : ∀ (G6 H6 : Hp) (f6 : Bool) (acc6 : List Da.D) (ρ6 : List Slot), Same Gm G6 → σ3.length = ρ6.length → Rel c G6 H6 (σ3.zip ρ6 ++ ((some (.ref D), .own f6 acc6) :: E0)) →
                          PP Gc (sq (innerD vs1 t1 mt1 me (its1.drop (j + 1)) f6 acc6 (wipeS ρ6 vs1))) → W1 (j + 1) (its1.length - (j + 1)) H6 := by
                        intro G6 H6 f6 acc6 ρ6 s6 l6 R6 P6
                        rw [hW1]
                        exact ⟨rfl, hlt1, G6, f6, acc6, wipeS ρ6 vs1, (sj.trans m2).trans s6, by rw [wipeS_len, ← l6, n2', l2', hl1], wipeS_rel l6 ew1 R6, P6⟩
                      refine ht1 c Gm H5 σ3 ρk _ _ rfl n1 R5 ?_
                      cases e5 : mt1 ρk with
                      | no => rw [e5] at Pj; exact Pj.elim
                      | er _ _ _ => rw [e5] at Pj; exact Pj.elim
                      | ok b1 ρ5 =>
                        rw [e5] at Pj
                        intro l7 G7 H7 R7 s7
                        cases b1 with
                        | false => exact iteF (fin1 G7 H7 f' acc' ρ5 s7 l7 R7 Pj)
                        | true =>
                          refine iteT ?_
                          dsimp only at Pj
                          refine he c G7 H7 σ3 ρ5 _ _ rfl l7 R7 ?_
                          cases e6 : me ρ5 with
                          | no => rw [e6] at Pj; exact Pj.elim
                          | er _ _ _ => rw [e6] at Pj; exact Pj.elim
                          | ok b2 ρ6 =>
                            rw [e6] at Pj
                            dsimp only at Pj
                            by_cases hz : acc'.length < 100000
                            · rw [if_pos hz] at Pj
                              intro l8 G8 H8 R8 s8 y hy8
                              obtain ⟨pq, eq, _, _, ⟨_, ys, hys, hda⟩, _⟩ := (mid_out R8).head rfl
                              cases eq
                              refine ⟨ys, hys, by rw [hda.len]; exact Nat.lt_of_lt_of_le hz (by decide), ?_⟩
                              refine fin1 G8 _ (f' && (b2.1 || flatD b2.2)) (acc' ++ [b2.2]) ρ6 (s7.trans s8) l8 (mid_in ((mid_out R8).mut ?_)) Pj
                              exact (hda.low).append (.cons hy8.fl.low' .nil)
                            · rw [if_neg hz] at Pj
                              exact Pj.elim
                  · refine .inl ⟨i2 (by omega), ?_⟩
                    rw [List.drop_eq_nil_of_le (by omega)] at Pj
                    unfold innerD at Pj
                    refine fin Gj Hj f' acc' (L2.wipe σ2 vs1) ρj gG wl1 (by rw [wipe_length, l2']) (wipe_eq (by rw [wipe_length, l2']) fun z hz => ?_) Rj Pj
                    rw [wipe_get _ _ _ (fun y => hz (hs z y)), k5 z (fun y => hz (hv z y))]
        exact ht c Gn H' σ2 ρd _ _ rfl l1 R2 step
    · refine .inl ⟨h2 (by omega), ?_⟩
      rw [List.drop_eq_nil_of_le (by omega)] at P
      unfold comp2D at P
      obtain ⟨pq, eq, _, _, ⟨_, ys, hys, hda⟩, _⟩ := Rc.head rfl
      cases eq
      have hlu : σ.length = (unw ρ1 vs ρc).length := by rw [unw_len, hlc, hl1]
      have R5 : Rel c Gc Hc (σ.zip (unw ρ1 vs ρc) ++ ((some (.ref D), .own f acc) :: T)) := by
        refine Rel.unwipe hl1 vs ρc hlc ?_
        refine (mid_in Rc).perm ?_
        refine List.Perm.append_left _ ?_
        exact List.perm_middle
      exact P hlu Gc Hc (R5.subl ((List.sublist_cons_self _ _).append_left _)) (Same.refl _) D ys Hc (mid_out R5) hys
theorem pe_lc2K {X : Cx} {elt tg iter tg1 iter1 : Expr} {ifs ifs1 : List Expr} {scope : Scope} {own : List (Str × Nat)} {vs1 : List Nat} {pos : Pos} {wi wi1 : TI} {g g1 : TG} {tt tt1 : TT} {te : TE} (hc : X.calm = true) (hN : X.N.Nodup) (hi : PI X tg iter wi) (ok : BlkOk X.N X.env.scope scope own) (hv : ∀ i ∈ vs1, i ∈ own.map (·.2))
    (hg : ∀ (s : Shared) (H : Hp) (C : Addr) (cl : List (Str × Addr)) (fp : List Addr), PG (X.blk s H scope (compEnvC scope cl C X.env) fp) tg g) (ht : ∀ (s : Shared) (H : Hp) (C : Addr) (cl : List (Str × Addr)) (fp : List Addr), PTs (X.blk s H scope (compEnvC scope cl C X.env) fp) ifs tt)
    (hi1 : ∀ (s : Shared) (H : Hp) (C : Addr) (cl : List (Str × Addr)) (fp : List Addr), PI (X.blk s H scope (compEnvC scope cl C X.env) fp) tg1 iter1 wi1)
    (hg1 : ∀ (s : Shared) (H : Hp) (C : Addr) (cl : List (Str × Addr)) (fp : List Addr), PG (X.blk s H scope (compEnvC scope cl C X.env) fp) tg1 g1) (ht1 : ∀ (s : Shared) (H : Hp) (C : Addr) (cl : List (Str × Addr)) (fp : List Addr), PTs (X.blk s H scope (compEnvC scope cl C X.env) fp) ifs1 tt1)
    (he : ∀ (s : Shared) (H : Hp) (C : Addr) (cl : List (Str × Addr)) (fp : List Addr), PE (X.blk s H scope (compEnvC scope cl C X.env) fp) elt te) (hs : ∀ x, foldedSetIterable iter X.env x = pure x := by intro _; rfl) (hs1 : ∀ env x, foldedSetIterable iter1 env x = pure x := by intro _ _; rfl) :
    PE X (.ListComp elt [⟨tg, iter, ifs, 0⟩, ⟨tg1, iter1, ifs1, 0⟩] scope pos) (tLc2 wi g tt wi1 g1 tt1 te (own.map (·.2)) vs1) := pe_lc2 hc hN hi ok hv hg ht hi1 hg1 ht1 he hs hs1
/-! ### a, b = e, f by a tuple that is made and taken apart -/
def gNames : List Nat → TGs
  | [] => gNil
  | i :: is => gCons (gName i) (gNames is)
theorem gNames_ok : ∀ {is : List Nat} {vs : List V} {σ : L2.St} {H : Hp} {Q : L2.St → Hp → Prop}, is.length = vs.length → Q (setV is vs σ) H → gNames is vs σ H Q
  | [], [], σ, H, Q, _, h => ⟨rfl, h⟩
  | i :: is, v :: vs, σ, H, Q, hl, h => ⟨v, vs, rfl, gNames_ok (by simpa using hl) h⟩
  | [], _ :: _, _, _, _, hl, _ => by simp at hl
  | _ :: _, [], _, _, _, hl, _ => by simp at hl
theorem ds_tupPar {is : List Nat} {n : Nat} {ta : TA} {ma : M (List Slot)} (ha : DA K W ta ma) (hn : is.length = n := by rfl) (hs : n ≤ 1000 := by decide) : DS K W (tAsg (tTup ta) (gTup K n (gNames is))) (sPar is ma) := by
  intro c G H σ ρ E hK hl R p
  refine ha c G H σ ρ [] _ hK hl R (sE_post p fun ss ρ' G' H' hl' R' s q vs hv R2 => ?_)
  cases e : setAll is ss ρ' with
  | none => rw [e] at q; exact q.elim
  | some ρ2 =>
    rw [e] at q
    have hlen : is.length = vs.length := (setAll_ok hv hl' R2 e).2.2.2
    refine ⟨by rw [← hlen, hn]; exact Nat.le_trans hs (by decide), fun a na => ?_⟩
    have R3 := R2.new0 (o := .tup vs) na
    obtain ⟨h1, h2, h3, h4⟩ := setAll_ok hv hl' R3 e
    subst hK
    exact ⟨a, vs, rfl, SqT.of upd_same, by rw [← hlen, hn], gNames_ok hlen (q _ G' _ h2 (h2.trans (hl'.trans h3.symm)) h1 (Same.refl G'))⟩
end
end Da
end F32
section F33
namespace Da
open PySem PySem.Spec PyProof.Rows L2 He Ds
variable [Tabl]
/-! ### data of texts -/
abbrev sL (xs : List Str) : D := .lst (xs.map D.str)
abbrev prD (p : Pr) : D := .tup [.str p.1, .str p.2]
abbrev pL (ps : List Pr) : D := .lst (ps.map prD)
abbrev sLL (xss : List (List Str)) : D := .lst (xss.map sL)
theorem toPys_strs : ∀ xs : List Str, toPys (xs.map D.str) = some (xs.map PyData.str)
  | [] => rfl
  | x :: xs => by simp [toPys, toPy, toPys_strs xs]
theorem toPy_strs (xs : List Str) : toPy (sL xs) = some (dStr xs) := by simp [toPy, toPys_strs]
theorem toPy_pr (p : Pr) : toPy (prD p) = some (dPr p) := by simp [toPy, toPys]
theorem toPys_prs : ∀ xs : List Pr, toPys (xs.map prD) = some (xs.map dPr)
  | [] => rfl
  | x :: xs => by
    rw [List.map_cons, toPys, toPy_pr, toPys_prs xs]; rfl
theorem toPys_strss : ∀ xs : List (List Str), toPys (xs.map sL) = some (xs.map dStr)
  | [] => rfl
  | x :: xs => by
    rw [List.map_cons, toPys, toPy_strs, toPys_strss xs]; rfl
theorem toPy_strss (xs : List (List Str)) : toPy (sLL xs) = some (.list (xs.map dStr)) := by
  show (toPys _).map _ = _
  rw [toPys_strss]; rfl
theorem depth_strss : ∀ xs : List (List Str), PyData.depthAll (xs.map dStr) ≤ 2
  | [] => by simp [PyData.depthAll]
  | x :: xs => by
    have h1 := depth_strss xs
    have h2 := depth_strs x
    rw [List.map_cons]
    simp only [PyData.depthAll, PyData.depth]
    omega
theorem dAny_strs (x : Str) (xs : List Str) : dAny (.str x) (sL xs) = some (decide (x ∈ xs)) := by
  unfold dAny
  simp only [toPy, toPys_strs]
  have h := depth_strs xs
  rw [if_pos ⟨by simp [PyData.depth], by simp only [PyData.depth]; omega⟩]
  congr 1
  induction xs with
  | nil => rfl
  | cons y ys ih =>
    rw [List.map_cons, List.any_cons, ih (by have := depth_strs ys; omega)]
    by_cases e : x = y
    · subst e; simp [PyData.eqv]
    · have e2 : ¬ y = x := fun z => e z.symm
      simp [PyData.eqv, e, e2]
theorem in_strs (x : Str) (xs : List Str) : dIn (.str x) (sL xs) = some (.bl (decide (x ∈ xs))) := by
  unfold dIn; rw [dAny_strs]; rfl
theorem notIn_strs (x : Str) (xs : List Str) : dNotIn (.str x) (sL xs) = some (.bl (!decide (x ∈ xs))) := by
  unfold dNotIn; rw [dAny_strs]; rfl
theorem dAny_prs (p : Pr) (ps : List Pr) : dAny (prD p) (pL ps) = some (decide (p ∈ ps)) := by
  unfold dAny
  dsimp only
  rw [toPy_pr, toPys_prs]
  dsimp only
  have h := depth_prs ps
  rw [if_pos ⟨by simp [PyData.depth, PyData.depthAll], by simp only [PyData.depth]; omega⟩, any_prs]
theorem in_prs (p : Pr) (ps : List Pr) : dIn (prD p) (pL ps) = some (.bl (decide (p ∈ ps))) := by
  unfold dIn; rw [dAny_prs]; rfl
theorem eqv_str (x y : Str) : PyData.eqv (.str x) (.str y) = decide (x = y) := by
  by_cases h : x = y
  · subst h; simp [PyData.eqv]
  · simp [PyData.eqv, h]
theorem eqv_int (x y : Int) : PyData.eqv (.int x) (.int y) = decide (x = y) := by
  by_cases h : x = y
  · subst h; simp [PyData.eqv]
  · simp [PyData.eqv, h]
theorem eqv_bool (x y : Bool) : PyData.eqv (.bool x) (.bool y) = (x == y) := by simp [PyData.eqv]
theorem dEqv_str (x y : Str) : dEqv (.str x) (.str y) = some (decide (x = y)) := by
  unfold dEqv; simp only [toPy, PyData.depth]; rw [eqv_str]; rfl
theorem dEqv_int (x y : Int) : dEqv (.int x) (.int y) = some (decide (x = y)) := by
  unfold dEqv; simp only [toPy, PyData.depth]; rw [eqv_int]; rfl
theorem dEqv_bl (x y : Bool) : dEqv (.bl x) (.bl y) = some (x == y) := by
  unfold dEqv; simp only [toPy, PyData.depth]; rw [eqv_bool]; rfl
theorem eq_str (x y : Str) : dEq (.str x) (.str y) = some (.bl (decide (x = y))) := by unfold dEq; rw [dEqv_str]; rfl
theorem ne_str (x y : Str) : dNe (.str x) (.str y) = some (.bl (!decide (x = y))) := by unfold dNe; rw [dEqv_str]; rfl
theorem eq_int (x y : Int) : dEq (.int x) (.int y) = some (.bl (decide (x = y))) := by unfold dEq; rw [dEqv_int]; rfl
theorem ne_int (x y : Int) : dNe (.int x) (.int y) = some (.bl (!decide (x = y))) := by unfold dNe; rw [dEqv_int]; rfl
theorem eq_bl (x y : Bool) : dEq (.bl x) (.bl y) = some (.bl (x == y)) := by unfold dEq; rw [dEqv_bl]; rfl
theorem ne_bl (x y : Bool) : dNe (.bl x) (.bl y) = some (.bl (!(x == y))) := by unfold dNe; rw [dEqv_bl]; rfl
theorem dEqv_mk {a b : D} {x y : PyData} (h1 : toPy a = some x) (h2 : toPy b = some y) (d1 : x.depth ≤ 60) (d2 : y.depth ≤ 60) : dEqv a b = some (PyData.eqv x y) := by
  unfold dEqv
  rw [h1, h2]
  exact if_pos ⟨d1, d2⟩
theorem depth_sL (xs : List Str) : (Ds.dStr xs).depth ≤ 60 := by
  have h1 := depth_strs xs
  simp only [PyData.depth]
  omega
theorem depth_sLL (xs : List (List Str)) : (PyData.list (xs.map Ds.dStr)).depth ≤ 60 := by
  have h1 := depth_strss xs
  simp only [PyData.depth]
  omega
theorem dEqv_strs (xs ys : List Str) : dEqv (sL xs) (sL ys) = some (decide (xs = ys)) := by
  rw [dEqv_mk (toPy_strs xs) (toPy_strs ys) (depth_sL xs) (depth_sL ys), eqv_strs]
theorem eq_strs (xs ys : List Str) : dEq (sL xs) (sL ys) = some (.bl (decide (xs = ys))) := by unfold dEq; rw [dEqv_strs]; rfl
theorem ne_strs (xs ys : List Str) : dNe (sL xs) (sL ys) = some (.bl (!decide (xs = ys))) := by unfold dNe; rw [dEqv_strs]; rfl
theorem eqvAll_strss : ∀ xs ys : List (List Str), PyData.eqvAll (xs.map dStr) (ys.map dStr) = decide (xs = ys)
  | [], [] => by simp [PyData.eqvAll]
  | [], y :: ys => by simp [PyData.eqvAll]
  | x :: xs, [] => by simp [PyData.eqvAll]
  | x :: xs, y :: ys => by
    rw [List.map_cons, List.map_cons, PyData.eqvAll, eqvAll_strss xs ys, eqv_strs]
    by_cases h : x = y
    · subst h; simp
    · simp [h]
theorem dEqv_strss (xs ys : List (List Str)) : dEqv (sLL xs) (sLL ys) = some (decide (xs = ys)) := by
  rw [dEqv_mk (toPy_strss xs) (toPy_strss ys) (depth_sLL xs) (depth_sLL ys), PyData.eqv, eqvAll_strss]
theorem eq_strss (xs ys : List (List Str)) : dEq (sLL xs) (sLL ys) = some (.bl (decide (xs = ys))) := by unfold dEq; rw [dEqv_strss]; rfl
theorem flat_strs : ∀ xs : List Str, flatDs (xs.map D.str) = true
  | [] => rfl
  | x :: xs => by rw [List.map_cons, flatDs, flat_strs xs]; rfl
theorem flat_prs : ∀ xs : List Pr, flatDs (xs.map prD) = true
  | [] => rfl
  | x :: xs => by rw [List.map_cons, flatDs, flat_prs xs]; rfl
/-! ### comprehensions without a change of anything -/
/-! ### loops by an invariant -/
theorem for_inv {t : Tgt} {b : S} (I : Nat → List Slot → Prop) : ∀ {its : List (Bool × D)} {k : Nat} {ρ : List Slot}, I k ρ → (∀ i a ρ, its[i]? = some a → I (k + i) ρ → ∃ ρ1 ρ2, t a ρ = some ρ1 ∧ b ρ1 = .nx ρ2 ∧ I (k + i + 1) ρ2) →
    ∃ ρ', forD t b its ρ = .nx ρ' ∧ I (k + its.length) ρ'
  | [], k, ρ, h, _ => ⟨ρ, rfl, h⟩
  | a :: its, k, ρ, h, hs => by
    obtain ⟨ρ1, ρ2, h1, h2, h3⟩ := hs 0 a ρ rfl h
    obtain ⟨ρ', h4, h5⟩ := for_inv I (its := its) (k := k + 1) (ρ := ρ2) h3 fun i b ρ hi hI => by
      have := hs (i + 1) b ρ (by simpa using hi) (by rw [show k + (i + 1) = k + 1 + i by omega]; exact hI)
      rw [show k + (i + 1) + 1 = k + 1 + i + 1 by omega] at this
      exact this
    refine ⟨ρ', ?_, by rw [List.length_cons, show k + (its.length + 1) = k + 1 + its.length by omega]; exact h5⟩
    unfold forD
    rw [h1]
    dsimp only
    rw [h2]
    exact h4
/-- .. or it is left at the first item that is not well -/
theorem for_exit {t : Tgt} {b : S} (I : Nat → List Slot → Prop) (X : SRes → Prop) (nb : ∀ ρ, ¬ X (.nx ρ)) (nc : ∀ ρ, ¬ X (.ct ρ)) (nk : ∀ ρ, ¬ X (.bk ρ)) : ∀ {its : List (Bool × D)} {k : Nat} {ρ : List Slot} {n : Nat} {a0 : Bool × D}, its[n]? = some a0 → I k ρ →
    (∀ i a ρ, i < n → its[i]? = some a → I (k + i) ρ → ∃ ρ1 ρ2, t a ρ = some ρ1 ∧ b ρ1 = .nx ρ2 ∧ I (k + i + 1) ρ2) → (∀ ρ, I (k + n) ρ → ∃ ρ1, t a0 ρ = some ρ1 ∧ X (b ρ1)) → X (forD t b its ρ)
  | [], k, ρ, n, a0, e, _, _, _ => by simp at e
  | a :: its, k, ρ, 0, a0, e, h, _, hx => by
    have ea : a = a0 := by simpa using e
    subst ea
    obtain ⟨ρ1, h1, h2⟩ := hx ρ h
    unfold forD
    rw [h1]
    dsimp only
    cases q : b ρ1 with
    | nx r => rw [q] at h2; exact absurd h2 (nb r)
    | ct r => rw [q] at h2; exact absurd h2 (nc r)
    | bk r => rw [q] at h2; exact absurd h2 (nk r)
    | _ => rw [q] at h2; exact h2
  | a :: its, k, ρ, n + 1, a0, e, h, hs, hx => by
    obtain ⟨ρ1, ρ2, h1, h2, h3⟩ := hs 0 a ρ (by omega) rfl h
    unfold forD
    rw [h1]
    dsimp only
    rw [h2]
    refine for_exit I X nb nc nk (its := its) (k := k + 1) (n := n) (a0 := a0) (by simpa using e) h3 (fun i b ρ hi he hI => ?_) fun ρ hI => ?_
    · have := hs (i + 1) b ρ (by omega) (by simpa using he) (by rw [show k + (i + 1) = k + 1 + i by omega]; exact hI)
      rw [show k + (i + 1) + 1 = k + 1 + i + 1 by omega] at this
      exact this
    · exact hx ρ (by rw [show k + (n + 1) = k + 1 + n by omega]; exact hI)
theorem while_inv {t : M Bool} {b : S} (I : Nat → List Slot → Prop) (J : List Slot → Prop) (h : ∀ m ρ, I m ρ → (t ρ = .ok false ρ ∧ J ρ) ∨ ∃ ρ2 m', t ρ = .ok true ρ ∧ b ρ = .nx ρ2 ∧ m' < m ∧ I m' ρ2) : ∀ {n m : Nat} {ρ : List Slot}, I m ρ → m < n → ∃ ρ', whileD t b n ρ = .nx ρ' ∧ J ρ'
  | 0, m, ρ, _, hn => absurd hn (Nat.not_lt_zero m)
  | n + 1, m, ρ, hI, hn => by
    rcases h m ρ hI with ⟨h1, h2⟩ | ⟨ρ2, m', h1, h2, h3, h4⟩
    · exact ⟨ρ, by unfold whileD; rw [h1], h2⟩
    · obtain ⟨ρ', h5, h6⟩ := while_inv I J h (n := n) h4 (by omega)
      exact ⟨ρ', by unfold whileD; rw [h1]; dsimp only; rw [h2]; exact h5, h6⟩
end Da
end F33
section F34
namespace Da
open PySem PySem.Spec PyProof.Rows L2 He Ds
/-! The program's own defs as functions of data (printed by tools/prog.py). -/
def D_law_draw : List Int → List D → OutP := runP 4 2 (sSeq (sIf (mT (mOp dGt (mE (mBin mIxL (mLook 0) (mE (mp (true, D.int 0))))) (mE (mp (true, D.int 0)))))
 (sSeq (sSet 2 (mOp dMod (mE (mUn dInt (mE (mBin mIxL (mLook 0) (mE (mp (true, D.int 0))))))) (mLook 1)))
 (sSeq (sPoolSet 0 (mp (true, D.int 0)) (mOp dFdiv (mE (mBin mIxL (mLook 0) (mE (mp (true, D.int 0))))) (mLook 1)))
 (sRet (mVar 2))))
 sNil)
 (sSeq (sPoolSet 0 (mp (true, D.int 2)) (mOp dAdd (mE (mBin mIxL (mLook 0) (mE (mp (true, D.int 2))))) (mE (mp (true, D.int 1)))))
 (sSeq (sSet 3 (mOp dMod (mE (mUn dInt (mE (mOp dPow (mE (mOp dAdd (mE (mBin mIxL (mLook 0) (mE (mp (true, D.int 1))))) (mE (mOp dMul (mE (mp (true, D.int 15485863))) (mE (mBin mIxL (mLook 0) (mE (mp (true, D.int 2))))))))) (mE (mp (true, D.int 3))))))) (mE (mp (true, D.int 162259276829213363391578010288127)))))
 (sSeq (sSet 3 (mOp dMod (mE (mUn dInt (mE (mOp dPow (mE (mOp dAdd (mLook 3) (mE (mOp dMul (mE (mp (true, D.int 32452843))) (mE (mBin mIxL (mLook 0) (mE (mp (true, D.int 2))))))))) (mE (mp (true, D.int 3))))))) (mE (mp (true, D.int 170141183460469231731687303715884105727)))))
 (sRet (mOp dMod (mE (mUn dInt (mE (mOp dFdiv (mLook 3) (mE (mp (true, D.int 1048576))))))) (mLook 1)))))))
def B_law_chart_1 : S := (sDrop (mMut 2 (maCons (mDat (mMut 3 (maCons (mDat (mPool 0 D_law_draw (maCons (mDat (mUn dLen (mLook 3))) (mp [])))) (mp [])) kPopAt)) (mp [])) kAppend))
def B_law_chart_2 : S := (sDrop (mMut 5 (maCons (mDat (mMut 6 (maCons (mDat (mPool 0 D_law_draw (maCons (mDat (mUn dLen (mLook 6))) (mp [])))) (mp [])) kPopAt)) (mp [])) kAppend))
def B_law_chart_3 : S := (sDrop (mMut 7 (maCons (mDat (mKeep (mComp [13] (mRng rng1 (maCons (mDat (mVar 8)) (mp []))) (tgName 13) (mp true) (mTup (maCons (mDat (mBin mIxL (mLook 5) (mLook 13))) (maCons (mDat (mBin mIxL (mLook 5) (mLook 8))) (mp []))))))) (mp [])) kExtend))
def B_law_chart_4 : S := (sSeq (sSet 12 (mPool 0 D_law_draw (maCons (mDat (mp (true, D.int 5))) (mp []))))
 (sSeq (sIf (mT (mOp dInT (mLook 12) (mE (mTup (maCons (mDat (mp (true, D.int 1))) (maCons (mDat (mp (true, D.int 2))) (maCons (mDat (mp (true, D.int 4))) (mp []))))))))
 (sDrop (mMut 9 (maCons (mDat (mPool 0 D_law_draw (maCons (mDat (mOp dAdd (mE (mUn dLen (mLook 9))) (mE (mp (true, D.int 1))))) (mp [])))) (maCons (mDat (mVar 11)) (mp []))) kInsert))
 sNil)
 (sIf (mAnd (mT (mOp dInT (mLook 12) (mE (mTup (maCons (mDat (mp (true, D.int 3))) (maCons (mDat (mp (true, D.int 4))) (mp []))))))) (mT (mOp dLt (mE (mUn dLen (mLook 10))) (mE (mp (true, D.int 5))))))
 (sDrop (mMut 10 (maCons (mDat (mPool 0 D_law_draw (maCons (mDat (mOp dAdd (mE (mUn dLen (mLook 10))) (mE (mp (true, D.int 1))))) (mp [])))) (maCons (mDat (mStep2 (mVar 11) (mBin mIxL (mE (mKeep (mLst (maCons (mDat (mp (true, D.int 1))) (maCons (mDat (mUn dNeg (mE (mp (true, D.int 1))))) (mp [])))))) (mE (mPool 0 D_law_draw (maCons (mDat (mp (true, D.int 2))) (mp []))))))) (mp []))) kInsert))
 sNil)))
def D_law_chart : List Int → List D → OutP := runP 14 2 (sSeq (sPar [2, 3] (maCons (mOwn (mLst (mp []))) (maCons (mOwn (mOne mListSK (mE (mp (true, D.str "abcdefghijklmnopqrstuvwxyz"))))) (mp []))))
 (sSeq (sFor (mRng rng1 (maCons (mDat (mOp dAdd (mE (mp (true, D.int 1))) (mE (mPool 0 D_law_draw (maCons (mDat (mVar 1)) (mp [])))))) (mp []))) (tgName 4)
 B_law_chart_1)
 (sSeq (sPar [5, 6, 7] (maCons (mOwn (mLst (mp []))) (maCons (mOwn (mOne mListK (mLook 2))) (maCons (mOwn (mLst (mp []))) (mp [])))))
 (sSeq (sWhile 100000 (mT (mOp dNe (mLook 6) (mE (mKeep (mLst (mp []))))))
 B_law_chart_2)
 (sSeq (sFor (mRng rng1 (maCons (mDat (mUn dLen (mLook 5))) (mp []))) (tgName 8)
 B_law_chart_3)
 (sSeq (sPar [9, 10] (maCons (mOwn (mLst (mp []))) (maCons (mOwn (mLst (mp []))) (mp []))))
 (sSeq (sFor (mIt itList (mRetV 7)) (tgName 11)
 B_law_chart_4)
 (sRet (mTup (maCons (mDat (mRetV 2)) (maCons (mDat (mRetV 9)) (maCons (mDat (mRetV 10)) (mp [])))))))))))))
def D_is_letter : List D → Out := runD 1 1 (sRet (mAndV (mOp dEq (mE (mUn dLenS (mLook 0))) (mE (mp (true, D.int 1)))) (mChain dLeS dLeS (mE (mp (true, D.str "a"))) (mLook 0) (mE (mp (true, D.str "z"))))))
def B_check_things_1 : S := (sIf (mOr (mNot (mT (mCall D_is_letter (maCons (mDat (mVar 2)) (mp []))))) (mT (mOp dIn (mLook 2) (mE (mKeep (mSl mSlL (mLook 0) (mp none) (mPart (mVar 1))))))))
 (sRaise "InvalidName" (maCons (mDat (mVar 2)) (mp [])))
 sNil)
def D_check_things : List D → Out := runD 3 1 (sSeq (sFor (mEnum (maCons (mDat (mVar 0)) (mp []))) (tgTup 2 (tgsCons (tgName 1) (tgsCons (tgName 2) tgsNil)))
 B_check_things_1)
 (sIf (mNot (mT (mChain dLe dLe (mE (mp (true, D.int 1))) (mE (mUn dLen (mLook 0))) (mE (mp (true, D.int 6))))))
 (sRaise "InvalidNumber" (maCons (mDat (mUn dLen (mLook 0))) (mp [])))
 sNil))
def B_things_leading_1 : S := (sIf (mAnd (mT (mOp dEq (mLook 7) (mLook 5))) (mT (mDin true (mVar 6) (mLook 3))))
 (sSeq (sPut 3 (mVar 6) (mp (true, D.bl true)))
 (sDrop (mMut 4 (maCons (mDat (mVar 6)) (mp [])) kAppend)))
 sNil)
def B_things_leading_2 : S := (sSeq (sSet 5 (mPop 4))
 (sFor (mIt itList (mVar 1)) (tgTup 2 (tgsCons (tgName 6) (tgsCons (tgName 7) tgsNil)))
 B_things_leading_1))
def D_things_leading : List D → Out := runD 8 3 (sSeq (sSetD 3 (mDisp1 (mVar 2) (mp (true, D.bl true))))
 (sSeq (sSetO 4 (mLst (maCons (mDat (mVar 2)) (mp []))))
 (sSeq (sWhile 100000 (mTru (mLook 4))
 B_things_leading_2)
 (sRet (mKeep (mComp [5] (mIt itList (mVar 0)) (tgName 5) (mT (mDin false (mVar 5) (mLook 3))) (mVar 5)))))))
def D_are_two : List D → Out := runD 3 3 (sRet (mAndV (mOp dIn (mLook 1) (mLook 0)) (mAndV (mOp dIn (mLook 2) (mLook 0)) (mOp dNe (mLook 1) (mLook 2)))))
def B_check_arrows_1 : S := (sSeq (sSet 5 (mKeep (mSl mSlL (mLook 1) (mp none) (mPart (mVar 2)))))
 (sSeq (sIf (mOr (mNot (mT (mCall D_are_two (maCons (mDat (mVar 0)) (maCons (mDat (mVar 3)) (maCons (mDat (mVar 4)) (mp []))))))) (mT (mOp dIn (mE (mTup (maCons (mDat (mVar 3)) (maCons (mDat (mVar 4)) (mp []))))) (mLook 5))))
 (sRaise "InvalidArrow" (maCons (mDat (mTup (maCons (mDat (mVar 3)) (maCons (mDat (mVar 4)) (mp []))))) (mp [])))
 sNil)
 (sIf (mT (mOp dIn (mLook 4) (mE (mCall D_things_leading (maCons (mDat (mVar 0)) (maCons (mDat (mVar 5)) (maCons (mDat (mVar 3)) (mp []))))))))
 (sRaise "InvalidArrow" (maCons (mDat (mTup (maCons (mDat (mVar 3)) (maCons (mDat (mVar 4)) (mp []))))) (mp [])))
 sNil)))
def D_check_arrows : List D → Out := runD 6 2 (sFor (mEnum (maCons (mDat (mVar 1)) (mp []))) (tgTup 2 (tgsCons (tgName 2) (tgsCons (tgTup 2 (tgsCons (tgName 3) (tgsCons (tgName 4) tgsNil))) tgsNil)))
 B_check_arrows_1)
def B_check_pairs_1 : S := (sSeq (sSet 5 (mKeep (mSl mSlL (mLook 1) (mp none) (mPart (mVar 2)))))
 (sIf (mOr (mNot (mT (mCall D_are_two (maCons (mDat (mVar 0)) (maCons (mDat (mVar 3)) (maCons (mDat (mVar 4)) (mp []))))))) (mOr (mT (mOp dIn (mE (mTup (maCons (mDat (mVar 3)) (maCons (mDat (mVar 4)) (mp []))))) (mLook 5))) (mT (mOp dIn (mE (mTup (maCons (mDat (mVar 4)) (maCons (mDat (mVar 3)) (mp []))))) (mLook 5)))))
 (sRaise "InvalidPair" (maCons (mDat (mTup (maCons (mDat (mVar 3)) (maCons (mDat (mVar 4)) (mp []))))) (mp [])))
 sNil))
def D_check_pairs : List D → Out := runD 6 2 (sFor (mEnum (maCons (mDat (mVar 1)) (mp []))) (tgTup 2 (tgsCons (tgName 2) (tgsCons (tgTup 2 (tgsCons (tgName 3) (tgsCons (tgName 4) tgsNil))) tgsNil)))
 B_check_pairs_1)
def D_Diagram_init : List D → OutI := runI "Diagram" 4 4 (sSeq (sDrop (mCallX D_check_things (maCons (mDat (mVar 1)) (mp []))))
 (sSeq (sDrop (mCallX D_check_arrows (maCons (mDat (mVar 1)) (maCons (mDat (mVar 2)) (mp [])))))
 (sSeq (sDrop (mCallX D_check_pairs (maCons (mDat (mVar 1)) (maCons (mDat (mVar 3)) (mp [])))))
 (sSeq (sSelfC "Diagram" 0 "_names" (mKeep (mOne mListK (mLook 1))))
 (sSeq (sSelfC "Diagram" 0 "_arrows" (mKeep (mOne mListK (mLook 2))))
 (sSelfC "Diagram" 0 "_pairs" (mKeep (mOne mListK (mLook 3)))))))))
def D_law_made : List D → Out := runD 1 1 (sRet (mMake "Diagram" D_Diagram_init (maCons (mDat (mKeep (mOne mListK (mE (mBin mIxT (mLook 0) (mE (mp (true, D.int 0)))))))) (maCons (mDat (mKeep (mOne mListK (mE (mBin mIxT (mLook 0) (mE (mp (true, D.int 1)))))))) (maCons (mDat (mKeep (mOne mListK (mE (mBin mIxT (mLook 0) (mE (mp (true, D.int 2)))))))) (mp []))))))
def D_Diagram_names : List D → Out := runD 1 1 (sRet (mKeep (mOne mListK (mE (mFld "Diagram" "_names" (mLook 0))))))
def D_Diagram_arrows : List D → Out := runD 1 1 (sRet (mKeep (mOne mListK (mE (mFld "Diagram" "_arrows" (mLook 0))))))
def D_Diagram_pairs : List D → Out := runD 1 1 (sRet (mKeep (mOne mListK (mE (mFld "Diagram" "_pairs" (mLook 0))))))
def D_group_around : List D → Out := runD 6 3 (sSeq (sSet 3 (mKeep (mComp [4, 5] (mIt itList (mProp "Diagram" D_Diagram_pairs (mVar 0))) (tgTup 2 (tgsCons (tgName 4) (tgsCons (tgName 5) tgsNil))) (mAnd (mT (mOp dIn (mLook 4) (mLook 1))) (mT (mOp dIn (mLook 5) (mLook 1)))) (mTup (maCons (mDat (mVar 4)) (maCons (mDat (mVar 5)) (mp [])))))))
 (sRet (mCall D_things_leading (maCons (mDat (mVar 1)) (maCons (mDat (mKeep (mBin mCatK (mLook 3) (mE (mKeep (mComp [4, 5] (mIt itList (mVar 3)) (tgTup 2 (tgsCons (tgName 4) (tgsCons (tgName 5) tgsNil))) (mp true) (mTup (maCons (mDat (mVar 5)) (maCons (mDat (mVar 4)) (mp [])))))))))) (maCons (mDat (mVar 2)) (mp [])))))))
def B_groups_of_1 : S := (sIf (mNot (mT (mUn dAnyB (mE (mKeep (mCompO [4] 2 (tgName 4) (mp true) (mOp dIn (mLook 3) (mLook 4))))))))
 (sDrop (mMut 2 (maCons (mDat (mCall D_group_around (maCons (mDat (mVar 0)) (maCons (mDat (mVar 1)) (maCons (mDat (mVar 3)) (mp [])))))) (mp [])) kAppend))
 sNil)
def D_groups_of : List D → Out := runD 5 2 (sSeq (sSetO 2 (mLst (mp [])))
 (sSeq (sFor (mIt itList (mVar 1)) (tgName 3)
 B_groups_of_1)
 (sRet (mRetV 2))))
def B_check_names_1 : S := (sIf (mOr (mT (mOp dNotIn (mLook 4) (mLook 2))) (mT (mOp dIn (mLook 4) (mE (mKeep (mSl mSlL (mLook 1) (mp none) (mPart (mVar 3))))))))
 (sRaise "InvalidName" (maCons (mDat (mVar 4)) (mp [])))
 sNil)
def D_check_names : List D → Out := runD 5 2 (sSeq (sSet 2 (mProp "Diagram" D_Diagram_names (mVar 0)))
 (sFor (mEnum (maCons (mDat (mVar 1)) (mp []))) (tgTup 2 (tgsCons (tgName 3) (tgsCons (tgName 4) tgsNil)))
 B_check_names_1))
def B_check_apart_1 : S := (sIf (mT (mOp dIn (mLook 2) (mLook 1)))
 (sRaise "InvalidDeed" (maCons (mDat (mVar 2)) (mp [])))
 sNil)
def D_check_apart : List D → Out := runD 3 2 (sFor (mIt itList (mVar 0)) (tgName 2)
 B_check_apart_1)
def D_check_asked : List D → Out := runD 3 3 (sSeq (sDrop (mCallX D_check_names (maCons (mDat (mVar 0)) (maCons (mDat (mVar 1)) (mp [])))))
 (sSeq (sDrop (mCallX D_check_names (maCons (mDat (mVar 0)) (maCons (mDat (mVar 2)) (mp [])))))
 (sDrop (mCallX D_check_apart (maCons (mDat (mVar 2)) (maCons (mDat (mVar 1)) (mp [])))))))
def D_leading_within : List D → Out := runD 9 3 (sSeq (sSet 3 (mKeep (mComp [5, 6] (mIt itList (mProp "Diagram" D_Diagram_arrows (mVar 0))) (tgTup 2 (tgsCons (tgName 5) (tgsCons (tgName 6) tgsNil))) (mAnd (mT (mOp dIn (mLook 5) (mLook 1))) (mT (mOp dIn (mLook 6) (mLook 1)))) (mTup (maCons (mDat (mVar 5)) (maCons (mDat (mVar 6)) (mp [])))))))
 (sSeq (sSet 4 (mKeep (mComp2 [7, 8] (mIt itList (mVar 2)) (tgName 7) (mp true) [8] (mIt itList (mCall D_things_leading (maCons (mDat (mVar 1)) (maCons (mDat (mVar 3)) (maCons (mDat (mVar 7)) (mp [])))))) (tgName 8) (mp true) (mVar 8))))
 (sRet (mKeep (mComp [8] (mIt itList (mVar 1)) (tgName 8) (mT (mOp dIn (mLook 8) (mLook 4))) (mVar 8))))))
def B_steps_to_1 : S := (sSeq (sSet 3 (mCall D_leading_within (maCons (mDat (mVar 0)) (maCons (mDat (mBin mIxL (mLook 2) (mE (mUn dNeg (mE (mp (true, D.int 1))))))) (maCons (mDat (mVar 1)) (mp []))))))
 (sSeq (sIf (mT (mOp dEq (mLook 3) (mE (mBin mIxL (mLook 2) (mE (mUn dNeg (mE (mp (true, D.int 1)))))))))
 (sRet (mRetV 2))
 sNil)
 (sSeq (sDrop (mMut 2 (maCons (mDat (mVar 3)) (mp [])) kAppend))
 (sSeq (sSet 4 (mCall D_group_around (maCons (mDat (mVar 0)) (maCons (mDat (mVar 3)) (maCons (mDat (mBin mIxL (mLook 1) (mE (mp (true, D.int 0))))) (mp []))))))
 (sIf (mT (mOp dNe (mLook 4) (mLook 3)))
 (sDrop (mMut 2 (maCons (mDat (mVar 4)) (mp [])) kAppend))
 sNil)))))
def D_steps_to : List D → Out := runD 5 2 (sSeq (sSetO 2 (mLst (maCons (mDat (mCall D_group_around (maCons (mDat (mVar 0)) (maCons (mDat (mProp "Diagram" D_Diagram_names (mVar 0))) (maCons (mDat (mBin mIxL (mLook 1) (mE (mp (true, D.int 0))))) (mp [])))))) (mp []))))
 (sSeq (sWhile 100000 (mT (mOp dNe (mE (mBin mIxL (mLook 2) (mE (mUn dNeg (mE (mp (true, D.int 1))))))) (mLook 1)))
 B_steps_to_1)
 (sRet (mRetV 2))))
def D_counting : List D → Out := runD 4 3 (sRet (mCall D_leading_within (maCons (mDat (mVar 0)) (maCons (mDat (mKeep (mComp [3] (mIt itList (mProp "Diagram" D_Diagram_names (mVar 0))) (tgName 3) (mT (mOp dNotIn (mLook 3) (mLook 1))) (mVar 3)))) (maCons (mDat (mVar 2)) (mp []))))))
def D_steps : List D → Out := runD 4 3 (sSeq (sDrop (mCallX D_check_asked (maCons (mDat (mVar 0)) (maCons (mDat (mVar 1)) (maCons (mDat (mVar 2)) (mp []))))))
 (sRet (mKeep (mComp [3] (mIt itList (mCall D_groups_of (maCons (mDat (mVar 0)) (maCons (mDat (mCall D_counting (maCons (mDat (mVar 0)) (maCons (mDat (mVar 1)) (maCons (mDat (mVar 2)) (mp [])))))) (mp []))))) (tgName 3) (mp true) (mCall D_steps_to (maCons (mDat (mVar 0)) (maCons (mDat (mVar 3)) (mp []))))))))
def B_stuck_1 : S := (sSeq (sSet 4 (mBin mIxL (mE (mCall D_steps_to (maCons (mDat (mVar 0)) (maCons (mDat (mVar 3)) (mp []))))) (mE (mUn dNeg (mE (mp (true, D.int 1)))))))
 (sIf (mT (mOp dNe (mLook 4) (mLook 3)))
 (sRet (mTup (maCons (mDat (mVar 3)) (maCons (mDat (mVar 4)) (mp [])))))
 sNil))
def D_stuck : List D → Out := runD 5 3 (sSeq (sDrop (mCallX D_check_asked (maCons (mDat (mVar 0)) (maCons (mDat (mVar 1)) (maCons (mDat (mVar 2)) (mp []))))))
 (sSeq (sFor (mIt itList (mCall D_groups_of (maCons (mDat (mVar 0)) (maCons (mDat (mCall D_counting (maCons (mDat (mVar 0)) (maCons (mDat (mVar 1)) (maCons (mDat (mVar 2)) (mp [])))))) (mp []))))) (tgName 3)
 B_stuck_1)
 (sRet (mp (true, D.non)))))
def D_is_told : List D → Out := runD 3 3 (sRet (mOp dIsN (mE (mCallX D_stuck (maCons (mDat (mVar 0)) (maCons (mDat (mVar 1)) (maCons (mDat (mVar 2)) (mp [])))))) (mE (mp (true, D.non)))))
end Da
end F34
section F35
namespace Da
open PySem PySem.Spec PyProof.Rows L2 He Ds
/-! ### a result that is looked at, changed, and not looked at any more -/
def plainS : Slot → Bool
  | .no => true
  | .dat _ _ => true
  | .pool _ => true
  | _ => false
section
variable {K : PySem.W.Frag} {W : WX}
mutual
theorem Dr.inG {G : Hp} {F F' : Addr → Prop} (h : ∀ a, F a → G a ≠ none → F' a) : ∀ {v : V} {d : D}, Dr K G F v d → Dr K G F' v d
  | _, _, .non => .non
  | _, _, .bl b => .bl b
  | _, _, .int i => .int i
  | _, _, .str x s => .str x s
  | _, _, .lst e f t => .lst e (h _ f (by rw [e]; intro z; cases z)) (DrA.inG h t)
  | _, _, .tup e t => .tup e (DrA.inG h t)
  | _, _, .dic e l f t => .dic e l (h _ f (by rw [e]; intro z; cases z)) (DrA.inG h t)
  | _, _, .obj e l t => .obj e l t
  | _, _, .rep e => .rep e
  | _, _, .dicT e l f t => .dicT e l (h _ f (by rw [e]; intro z; cases z)) (DrA.inG h t)
  | _, _, .dicB e k f t => .dicB e k (h _ f (by rw [e]; intro z; cases z)) t
  | _, _, .exc e t => .exc e t
  | _, _, .fnc e e2 => .fnc e e2
theorem DrA.inG {G : Hp} {F F' : Addr → Prop} (h : ∀ a, F a → G a ≠ none → F' a) : ∀ {v : List V} {d : List D}, DrA K G F v d → DrA K G F' v d
  | _, _, .nil => .nil
  | _, _, .cons a t => .cons (Dr.inG h a) (DrA.inG h t)
end
theorem Rel.scr {c : Cc} {G H G' H' H'' : Hp} {σ : L2.St} {ρ : List Slot} {i : Nat} {v : V} {s : Slot} (hl : σ.length = ρ.length) (hi : i < ρ.length) (R : Rel c G H (σ.zip ρ ++ [])) (pl : ∀ s ∈ ρ, plainS s = true)
    (R' : Rel c G' H' ((σ.set i (some v)).zip (ρ.set i s) ++ [])) (s2 : Same G G') (k : ∀ b, H b ≠ none → H' b ≠ none → H'' b = H' b) : Rel c G H'' ((σ.set i (some v)).zip (ρ.set i .no) ++ []) := by
  have keep : ∀ {b : Addr} {o : HO}, H b ≠ none → H' b = some o → H'' b = some o := fun hb e => by
    rw [k _ hb (by rw [e]; intro z; cases z)]; exact e
  have hG : ∀ {b : Addr} {o : HO}, G b = some o → H b ≠ none := fun e => by rw [R.gs _ _ e]; intro z; cases z
  refine ⟨fun b o e nt hb => keep (R.al b (by rw [e]; intro z; cases z)) (R'.fr b o e nt hb), fun b hb z => ?_, fun b o e => keep (hG e) (R'.gs _ _ (s2 _ _ e)), R.g0, R.gg, fun x hx => ?_, ?_, tbs_no⟩
  · cases q : H' b with
    | none => exact R'.al b hb q
    | some o => rw [keep (R.al b hb) q] at z; cases z
  · rw [List.append_nil] at hx
    obtain ⟨j, hj⟩ := List.mem_iff_getElem?.mp hx
    obtain ⟨o, sx⟩ := x
    rw [List.getElem?_zip_eq_some] at hj
    obtain ⟨h1, h2⟩ := hj
    dsimp only at h1 h2
    by_cases e : j = i
    · subst e
      rw [List.getElem?_set_self hi] at h2
      cases h2
      exact trivial
    · have e' : i ≠ j := fun z => e z.symm
      rw [List.getElem?_set_ne e'] at h1 h2
      have m1 : (o, sx) ∈ σ.zip ρ ++ [] := zip_mem (by rw [List.getElem?_zip_eq_some]; exact ⟨h1, h2⟩)
      have m2 : (o, sx) ∈ (σ.set i (some v)).zip (ρ.set i s) ++ [] := zip_mem (i := j) (by
        rw [List.getElem?_zip_eq_some]
        exact ⟨by rw [List.getElem?_set_ne e']; exact h1, by rw [List.getElem?_set_ne e']; exact h2⟩)
      have k1 := R.sl _ m1
      have k2 := R'.sl _ m2
      have p := pl sx (List.mem_of_getElem? h2)
      cases sx with
      | no => exact trivial
      | dat fr d => exact k1
      | pool ns =>
        obtain ⟨p1, rfl, g1, g2, g3⟩ := k1
        obtain ⟨p2, e2, g4, g5, g6⟩ := k2
        cases e2
        have g7 := keep g2 g6.2
        exact ⟨p1, rfl, g1, (by rw [g7]; intro z; cases z), g6.1, g7⟩
      | _ => cases p
  · have fl : ∀ x ∈ (σ.set i (some v)).zip (ρ.set i .no) ++ [], isNest x.2 = false := fun x hx => by
      rw [List.append_nil] at hx
      obtain ⟨o, sx⟩ := x
      have hm := (List.of_mem_zip hx).2
      rcases List.mem_or_eq_of_mem_set hm with hm | hm
      · have := pl _ hm
        cases sx <;> first | rfl | cases this
      · subst hm; rfl
    rw [ownE_flat (H := H'') (H' := H') fl]
    refine R'.nd.sublist ?_
    rw [List.append_nil, List.append_nil]
    have gen : ∀ (σ : L2.St) (ρ : List Slot) (i : Nat), (ownE H' (σ.zip (ρ.set i .no))).Sublist (ownE H' (σ.zip (ρ.set i s))) := by
      intro σ
      induction σ with
      | nil => intro ρ i; exact .slnil
      | cons o σ ih =>
        intro ρ i
        cases ρ with
        | nil => exact .slnil
        | cons r ρ =>
          cases i with
          | zero =>
            rw [List.set_cons_zero, List.set_cons_zero, List.zip_cons_cons, List.zip_cons_cons]
            unfold ownE
            rw [List.flatMap_cons, List.flatMap_cons, ownL_none (x := (o, Slot.no)) rfl]
            exact List.sublist_append_right _ _
          | succ i =>
            rw [List.set_cons_succ, List.set_cons_succ, List.zip_cons_cons, List.zip_cons_cons]
            unfold ownE
            rw [List.flatMap_cons, List.flatMap_cons]
            exact (List.Sublist.refl _).append (ih ρ i)
    exact gen _ ρ i
end
end Da
end F35
section F36
namespace Da
open PySem PySem.Spec PyProof.Rows L2 He Ds
/-! ### a result that is looked at more than once, changed at several places, and not looked at any more -/
inductive RRes where
  | no | stay | out (r : SRes)
abbrev RD := List Slot → RRes
def isNx : SRes → Bool
  | .nx _ => true
  | _ => false
def DRd (K : PySem.W.Frag) (W : WX) (u : L2.TS) (rd : RD) : Prop :=
  ∀ (c : Cc) (G H : Hp) (σ : L2.St) (ρ : List Slot) (E : Ends), c.K = K → σ.length = ρ.length → Rel c G H (σ.zip ρ ++ []) → (match rd ρ with
    | .no => False
    | .stay => ∀ G' H', Rel c G' H' (σ.zip ρ ++ []) → Same G G' → E.nx σ H'
    | .out r => isNx r = false ∧ SPo c G σ.length W E r) → u E σ H
theorem spo_nx {c : Cc} {G : Hp} {n : Nat} {W : WX} {E : Ends} {X : L2.St → Hp → Prop} {r : SRes} (h : isNx r = false) (p : SPo c G n W E r) : SPo c G n W { E with nx := X } r := by
  cases r with
  | nx _ => cases h
  | no => exact p
  | er k d ρ => exact p
  | rt f d ρ => exact p
  | bk ρ => exact p
  | ct ρ => exact p
open Classical in
noncomputable def rIf (t : M Bool) (a : S) : RD := fun ρ => match t ρ with
  | .ok true ρ1 => (match isNx (a ρ1) with | true => .no | false => .out (a ρ1))
  | .ok false ρ1 => if ρ1 = ρ then .stay else .no
  | _ => .no
section
variable {K : PySem.W.Frag} {W : WX}
theorem drd_if {tt : TT} {t : M Bool} {u : L2.TS} {a : S} (ht : DT K W tt t) (hu : DS K W u a) : DRd K W (tIfS tt u tNext) (rIf t a) := by
  intro c G H σ ρ E hK hl R p
  unfold rIf at p
  show tt σ H fun b H1 => if b = true then u E σ H1 else tNext E σ H1
  refine ht c G H σ ρ [] _ hK hl R ?_
  cases e : t ρ with
  | no => rw [e] at p; exact p
  | er k d ρ' => rw [e] at p; exact p.elim
  | ok b ρ1 =>
    rw [e] at p
    cases b with
    | true =>
      dsimp only at p
      intro hl1 G1 H1 R1 s1
      refine iteT (hu c G1 H1 σ ρ1 E hK hl1 R1 ?_)
      cases q : isNx (a ρ1) with
      | true => rw [q] at p; exact p.elim
      | false => rw [q] at p; exact SPo.later p.2 s1
    | false =>
      dsimp only at p
      intro hl1 G1 H1 R1 s1
      refine iteF ?_
      by_cases hρ : ρ1 = ρ
      · rw [if_pos hρ] at p
        subst hρ
        exact p G1 H1 R1 s1
      · rw [if_neg hρ] at p
        exact p.elim
/-! reading -/
theorem j_rIf {t : M Bool} {a : S} {ρ : List Slot} (h : t ρ = .ok false ρ) : rIf t a ρ = .stay := by
  unfold rIf; rw [h]; dsimp only; rw [if_pos rfl]
/-! ### what changes -/
mutual
/-- v stands for d, but its lists may have grown by n items at most -/
inductive Dg (K : PySem.W.Frag) (H : Hp) (Fr : Addr → Prop) (n : Nat) : V → D → Prop
  | lst {a : Addr} {xs ex : List V} {ds : List D} : H a = some (.lst (xs ++ ex)) → ex.length ≤ n → Fr a → DgA K H Fr n xs ds → Dg K H Fr n (.ref a) (.lst ds)
  | tup {a : Addr} {xs : List V} {ds : List D} : SqT K H a xs → DgA K H Fr n xs ds → Dg K H Fr n (.ref a) (.tup ds)
  | oth {v : V} {d : D} (h : (∀ ds, d ≠ .lst ds) ∧ ∀ ds, d ≠ .tup ds) : Dg K H Fr n v d
inductive DgA (K : PySem.W.Frag) (H : Hp) (Fr : Addr → Prop) (n : Nat) : List V → List D → Prop
  | nil : DgA K H Fr n [] []
  | cons {v : V} {vs : List V} {d : D} {ds : List D} : Dg K H Fr n v d → DgA K H Fr n vs ds → DgA K H Fr n (v :: vs) (d :: ds)
end
mutual
theorem Dg.of {G H : Hp} {Fr : Addr → Prop} (s : Same G H) : ∀ {v : V} {d : D}, Dr K G Fr v d → Dg K H Fr 0 v d
  | _, _, .lst (a := a) (xs := xs) e f t => Dg.lst (ex := []) (by rw [List.append_nil]; exact s _ _ e) (Nat.le_refl _) f (DgA.of s t)
  | _, _, .tup e t => Dg.tup (seqT_same s (SqT.of e)) (DgA.of s t)
  | _, _, .non => Dg.oth ⟨fun _ z => (nomatch z), fun _ z => (nomatch z)⟩
  | _, _, .bl b => Dg.oth ⟨fun _ z => (nomatch z), fun _ z => (nomatch z)⟩
  | _, _, .int i => Dg.oth ⟨fun _ z => (nomatch z), fun _ z => (nomatch z)⟩
  | _, _, .str x h => Dg.oth ⟨fun _ z => (nomatch z), fun _ z => (nomatch z)⟩
  | _, _, .dic _ _ _ _ => Dg.oth ⟨fun _ z => (nomatch z), fun _ z => (nomatch z)⟩
  | _, _, .obj _ _ _ => Dg.oth ⟨fun _ z => (nomatch z), fun _ z => (nomatch z)⟩
  | _, _, .rep _ => Dg.oth ⟨fun _ z => (nomatch z), fun _ z => (nomatch z)⟩
  | _, _, .dicT _ _ _ _ => Dg.oth ⟨fun _ z => (nomatch z), fun _ z => (nomatch z)⟩
  | _, _, .dicB _ _ _ _ => Dg.oth ⟨fun _ z => (nomatch z), fun _ z => (nomatch z)⟩
  | _, _, .exc _ _ => Dg.oth ⟨fun _ z => (nomatch z), fun _ z => (nomatch z)⟩
  | _, _, .fnc _ _ => Dg.oth ⟨fun _ z => (nomatch z), fun _ z => (nomatch z)⟩
theorem DgA.of {G H : Hp} {Fr : Addr → Prop} (s : Same G H) : ∀ {v : List V} {d : List D}, DrA K G Fr v d → DgA K H Fr 0 v d
  | _, _, .nil => DgA.nil
  | _, _, .cons a t => DgA.cons (Dg.of s a) (DgA.of s t)
end
theorem seqT_upd {H : Hp} {a b : Addr} {xs ys zs : List V} (hb : H b = some (.lst ys)) (h : SqT K H a xs) : SqT K (upd H b (.lst zs)) a xs := by
  rcases h with (h | ⟨o, h⟩) | h
  · exact .inl (.inl (by rw [upd_ne (fun e => by subst e; rw [h] at hb; cases hb)]; exact h))
  · exact .inl (.inr ⟨o, by rw [upd_ne (fun e => by subst e; rw [h] at hb; cases hb)]; exact h⟩)
  · exact .inr h
mutual
/-- a list grows -/
theorem Dg.grow {H : Hp} {Fr : Addr → Prop} {n : Nat} {b : Addr} {ys : List V} {z : V} (hb : H b = some (.lst ys)) : ∀ {v : V} {d : D}, Dg K H Fr n v d → Dg K (upd H b (.lst (ys ++ [z]))) Fr (n + 1) v d
  | _, _, .lst (a := a) (xs := xs) (ex := ex) e l f t => by
    by_cases c : a = b
    · subst c
      rw [e] at hb
      cases hb
      exact Dg.lst (ex := ex ++ [z]) (by rw [upd_same, List.append_assoc]) (by simp; omega) f (DgA.grow e t)
    · exact Dg.lst (ex := ex) (by rw [upd_ne c]; exact e) (Nat.le_succ_of_le l) f (DgA.grow hb t)
  | _, _, .tup e t => Dg.tup (seqT_upd hb e) (DgA.grow hb t)
  | _, _, .oth h => Dg.oth h
theorem DgA.grow {H : Hp} {Fr : Addr → Prop} {n : Nat} {b : Addr} {ys : List V} {z : V} (hb : H b = some (.lst ys)) : ∀ {v : List V} {d : List D}, DgA K H Fr n v d → DgA K (upd H b (.lst (ys ++ [z]))) Fr (n + 1) v d
  | _, _, .nil => DgA.nil
  | _, _, .cons a t => DgA.cons (Dg.grow hb a) (DgA.grow hb t)
end
mutual
theorem Dg.same {H H' : Hp} {Fr : Addr → Prop} {n : Nat} (s : Same H H') : ∀ {v : V} {d : D}, Dg K H Fr n v d → Dg K H' Fr n v d
  | _, _, .lst e l f t => Dg.lst (s _ _ e) l f (DgA.same s t)
  | _, _, .tup e t => Dg.tup (seqT_same s e) (DgA.same s t)
  | _, _, .oth h => Dg.oth h
theorem DgA.same {H H' : Hp} {Fr : Addr → Prop} {n : Nat} (s : Same H H') : ∀ {v : List V} {d : List D}, DgA K H Fr n v d → DgA K H' Fr n v d
  | _, _, .nil => DgA.nil
  | _, _, .cons a t => DgA.cons (Dg.same s a) (DgA.same s t)
end
theorem DgA.len {H : Hp} {Fr : Addr → Prop} {n : Nat} : ∀ {v : List V} {d : List D}, DgA K H Fr n v d → v.length = d.length
  | _, _, .nil => rfl
  | _, _, .cons _ t => by rw [List.length_cons, List.length_cons, DgA.len t]
theorem DgA.get {H : Hp} {Fr : Addr → Prop} {n : Nat} : ∀ {v : List V} {d : List D} {j : Nat} {x : D}, DgA K H Fr n v d → d[j]? = some x → ∃ u, v[j]? = some u ∧ Dg K H Fr n u x
  | _, _, _, _, .nil, e => by simp at e
  | _, _, 0, _, .cons a t, e => by
    simp at e; subst e
    exact ⟨_, rfl, a⟩
  | _, _, j + 1, _, .cons a t, e => by
    obtain ⟨u, h1, h2⟩ := DgA.get t (j := j) (by simpa using e)
    exact ⟨u, by simpa using h1, h2⟩
section
variable {i : Nat} {f : List D → Out} {ta : TA} {ma : M (List Slot)} {u1 u2 u3 w tm : L2.TS} {r1 r2 r3 : RD} {rest : S} {mu : D → Bool}
end
end
end Da
end F36
section F37
namespace Ds
open PySem PySem.Spec PyProof.Rows L2
/-! ### tuple of a text -/
theorem call_tupleS {X : Cx} (hc : X.calm = true) : CallR X (.type "tuple") (fun xs H Q => ∃ z : Str, xs = [.str z] ∧ z.length ≤ sizeLine ∧ ∀ p, H p = none → Q (.ref p) (upd H p (.tup (z.cps.toList.map fun c => V.str ⟨#[c]⟩)))) := by
  intro pins s σ H xs us Q I r h
  obtain ⟨z, rfl, hz, q⟩ := h
  obtain ⟨u, rfl, t, rfl⟩ := vals1 r
  refine PySem.call_tuple_str (hsz := hz) (I.ok.hd hc) z t fun h' tk acc hk hi => ?_
  have len : (z.cps.toList.map fun c => V.str ⟨#[c]⟩).length = z.cps.size := by rw [List.length_map]; exact Array.length_toList
  have I1 : Inv X pins σ H { s with heap := h', toks := tk } := I.kept (t' := tk) hk
  have rv : Vals (z.cps.toList.map fun c => V.str ⟨#[c]⟩) acc.toList := by
    refine vals_of_idx _ _ (by rw [len, Array.length_toList]; exact hi.1) fun j u hj => ?_
    obtain ⟨c, t', hc, rfl⟩ := hi.2 j u (by rw [← Array.getElem?_toList]; exact hj)
    refine ⟨.str ⟨#[c]⟩, ?_, ⟨_, rfl⟩⟩
    rw [List.getElem?_map, Array.getElem?_toList, hc]
    rfl
  have I2 : Inv X pins σ (upd H h'.objs.size (.tup (z.cps.toList.map fun c => V.str ⟨#[c]⟩))) { s with heap := h'.push { cls := .type "tuple", data := .seq acc }, toks := tk } :=
    I1.laid (t' := tk) (fun b o e => Heap.get?_push_of_some _ e) (Nat.le_refl _) (show ObjOk X.prog X.w _ _ _ (.tup _) from ⟨by rw [len]; exact hz, acc.toList, rv, by
      rw [Array.toArray_toList]; exact IsTup.new h' acc⟩)
  exact ⟨.ref h'.objs.size, _, I2, rfl, q _ (I1.hok.fresh (Nat.le_refl _))⟩
end Ds
namespace Da
open PySem PySem.Spec PyProof.Rows L2 He Ds
variable [Tabl]
variable {K : PySem.W.Frag} {W : WX}
def mTupSK (a : Bool × D) : M (Bool × D) := match a with
  | (_, .str z) => if z.length ≤ 100000 then mp (true, .tup (signs z)) else mno
  | _ => mno
theorem de_tupS {ta : TE} {ma : M Look} (ha : DB K W ta ma) : DE K W (tCB (fun xs H Q => ∃ z : Str, xs = [.str z] ∧ z.length ≤ sizeLine ∧ ∀ p, H p = none → Q (.ref p) (upd H p (.tup (z.cps.toList.map fun c => V.str ⟨#[c]⟩)))) (tCons ta tNil)) (mOne mTupSK ma) := by
  intro c G H σ ρ T Q hK hl R p
  refine one_core (ta := ta) ha hK hl R p fun a x G2 H2 ρ2 hl2 R2 s2 ia q => ?_
  obtain ⟨f, a⟩ := a
  cases a with
  | str z =>
    unfold mTupSK at q
    dsimp only at q
    by_cases h : z.length ≤ 100000
    · rw [if_pos h] at q
      cases ia.1 with
      | str _ hz =>
        refine ⟨z, rfl, Nat.le_trans h (by decide), fun p np => ?_⟩
        subst hK
        have sG : Same G2 (upd G2 p (.tup (z.cps.toList.map fun c => V.str ⟨#[c]⟩))) := same_new (Same.refl G2) (R2.gn np)
        exact q hl2 _ _ (R2.new np) sG _ (.tup upd_same (signs_ok hz))
    · rw [if_neg h] at q
      exact q.elim
  | _ => exact False.elim q
end Da
end F37
section F38
namespace Ds
open PySem PySem.Spec PyProof.Rows L2
/-! ### repr of any plain value -/
end Ds
namespace Da
open PySem PySem.Spec PyProof.Rows L2 He Ds
variable [Tabl]
variable {K : PySem.W.Frag}
end Da
end F38
section F39
namespace Da
open PySem PySem.Spec PyProof.Rows L2 He Ds
variable [Tabl]
/-! ### == by an own __eq__, isinstance of an own class: objects of that class -/
structure OwnF (K : PySem.W.Frag) (C : Addr) : Prop where
  cl : Cls K C
  ha : PySem.W.findIn K (.ref C) "__class__" = some (some (.builtin "object.__class__"))
  hn : PySem.W.specialIn K (.builtin "object.__class__") "__get__" = some (some (.builtin "getset_descriptor.__get__"))
  ht : PySem.W.takesIn K (.builtin "object.__class__") = some true
  hm : PySem.W.mroIn K C (.type "object") = some true
section
variable {K : PySem.W.Frag} {W : WX}
/-! reading -/
end
end Da
end F39
section F40
namespace Da
open PySem PySem.Spec PyProof.Rows L2 He Ds
variable [Tabl]
/-! ### sorted of a list of data -/
noncomputable def encD (d : D) : PyData := (toPy d).getD .none
noncomputable def leD : D → D → Bool := PySem.W.dataLe false encD
def SortOk (ds : List D) : Prop := (∀ d ∈ ds, ∃ e, toPy d = some e ∧ e.depth ≤ 20) ∧ PySem.W.AllAlike (ds.map encD) ∧ PySem.W.Sortable (ds.map encD) ∧ ds.length ≤ 100000
noncomputable def leZ : V × D → V × D → Bool := PySem.W.dataLe false fun b => encD b.2
/-- sorted(xs): a new list of the same things, by what they are as data -/
def rSortD (K : PySem.W.Frag) : List V → Hp → VK → Prop := fun xs H Q => ∃ (a : Addr) (vs : List V) (ds : List D), xs = [.ref a] ∧ SqL K H a vs ∧ DrA K H (fun _ => True) vs ds ∧ SortOk ds ∧
  ∀ p, H p = none → Q (.ref p) (upd H p (.lst (((vs.zip ds).mergeSort leZ).map (·.1))))
theorem each_zip {f : Value → V × D → Prop} {K : PySem.W.Frag} {G : Hp} {F : Addr → Prop} : ∀ {us : List Value} {vs : List V} {ds : List D}, (∀ u v d, RelV v u → Dr K G F v d → (v, d) ∈ vs.zip ds → f u (v, d)) → Vals vs us → DrA K G F vs ds → PySem.W.EachIs f us (vs.zip ds)
  | _, _, _, _, .nil, .nil => .nil
  | _, _, _, h, .cons r rs, .cons t ts => .cons (h _ _ _ r t List.mem_cons_self) (each_zip (fun u v d a b c => h u v d a b (List.mem_cons_of_mem _ c)) rs ts)
theorem vals_each {f : Value → V × D → Prop} (hf : ∀ u b, f u b → RelV b.1 u) : ∀ {us : List Value} {bs : List (V × D)}, PySem.W.EachIs f us bs → Vals (bs.map (·.1)) us
  | _, _, .nil => .nil
  | _, _, .cons h t => .cons (hf _ _ h) (vals_each hf t)
theorem zip_snd {α β : Type} : ∀ {xs : List α} {ys : List β}, xs.length = ys.length → (xs.zip ys).map (·.2) = ys
  | [], [], _ => rfl
  | x :: xs, y :: ys, h => by rw [List.zip_cons_cons, List.map_cons, zip_snd (by simpa using h)]
  | [], _ :: _, h => by simp at h
  | _ :: _, [], h => by simp at h
theorem enc_of {d : D} {e : PyData} (h : toPy d = some e) : encD d = e := by unfold encD; rw [h]; rfl
theorem cr_sortD {X : Cx} (hu : X.A.units + 64 < cLine) : CallR X (.builtin "sorted") (rSortD X.K) := by
  intro pins s σ H xs us Q I r h
  obtain ⟨a, vs, ds, rfl, hs, hd, ok, q⟩ := h
  obtain ⟨its, rv, hl, hz⟩ := I.list hs
  rw [Vals.ref1 r]
  have hn := hd.len
  have me : (vs.zip ds).map (fun b => encD b.2) = ds.map encD := by
    have := List.map_map (f := fun b : V × D => b.2) (g := encD) (l := vs.zip ds)
    rw [zip_snd hn] at this
    exact this.symm
  have zm : ∀ b ∈ vs.zip ds, b.2 ∈ ds := fun b hb => (List.of_mem_zip hb).2
  refine PySem.W.sorted_data (R := fun u b => RelV b.1 u) (bs := vs.zip ds) (enc := fun b => encD b.2) hl.isList (each_zip (fun u v d a _ _ => a) rv hd) (each_zip (fun u v d a b m => ?_) rv hd) (by rw [me]; exact ok.2.1) (by rw [me]; exact ok.2.2.1) ?_ (fun b hb => ?_) fun out ho he => ?_
  · obtain ⟨e, h1, _⟩ := ok.1 d (zm _ m)
    show ∃ as, Reads s.heap u (encD d) as
    rw [enc_of h1]
    exact Dp.reads I e v u (b.py h1).1 a
  · rw [List.length_zip, ← hn, Nat.min_self, hn]; exact Nat.le_trans ok.2.2.2 (by decide)
  · obtain ⟨e, h1, h2⟩ := ok.1 b.2 (zm _ hb)
    show X.A.units + 2 + (encD b.2).depth < cLine
    rw [enc_of h1]
    omega
  · obtain ⟨ep, he'⟩ := PyProof.Rows.sortedAll_at s.heap its out.toArray
    have rv' := vals_each (fun u b h => h) he
    have hlen : (((vs.zip ds).mergeSort leZ).map (·.1)).length ≤ sizeLine := by
      rw [List.length_map, List.length_mergeSort, List.length_zip, ← hn, Nat.min_self, hn]
      exact Nat.le_trans ok.2.2.2 (by decide)
    exact ⟨.ref _, upd H (s.heap.objs.size + 1) (.lst (((vs.zip ds).mergeSort leZ).map (·.1))), I.laid (t' := s.toks) (fun _ _ => PyProof.Rows.sortedAll_old) (Nat.le_succ _) ⟨hlen, out, ep, rv', he'⟩, rfl, q _ (I.hok.fresh (Nat.le_succ _))⟩
variable {K : PySem.W.Frag} {W : WX}
open Classical in
noncomputable def mSortK (a : Bool × D) : M (Bool × List D) := match a with
  | (f, .lst xs) => if SortOk xs then mp (f || flatDs xs, xs.mergeSort leD) else mno
  | _ => mno
theorem dra_of_zip {G : Hp} {F : Addr → Prop} : ∀ {bs : List (V × D)}, (∀ b ∈ bs, Dr K G F b.1 b.2) → DrA K G F (bs.map (·.1)) (bs.map (·.2))
  | [], _ => .nil
  | b :: bs, h => .cons (h b List.mem_cons_self) (dra_of_zip fun c hc => h c (List.mem_cons_of_mem _ hc))
theorem DrA.zip {G : Hp} {F : Addr → Prop} : ∀ {vs : List V} {ds : List D}, DrA K G F vs ds → ∀ b ∈ vs.zip ds, Dr K G F b.1 b.2
  | _, _, .nil, b, h => by cases h
  | _, _, .cons h t, b, hb => by
    rw [List.zip_cons_cons] at hb
    rcases List.mem_cons.mp hb with rfl | hb
    · exact h
    · exact DrA.zip t b hb
theorem sort_dr {G : Hp} {F : Addr → Prop} {vs : List V} {ds : List D} (h : DrA K G F vs ds) : DrA K G F (((vs.zip ds).mergeSort leZ).map (·.1)) (ds.mergeSort leD) := by
  have e : ((vs.zip ds).mergeSort leZ).map (·.2) = ds.mergeSort leD := by
    rw [List.map_mergeSort (r := leZ) (s := leD) (f := fun b : V × D => b.2) (fun a _ b _ => rfl), zip_snd h.len]
  rw [← e]
  exact dra_of_zip fun b hb => h.zip b ((List.mergeSort_perm _ _).mem_iff.mp hb)
theorem dl_sort {ta : TE} {ma : M Look} (ha : DB K W ta ma) : DL K W (tCB (rSortD K) (tCons ta tNil)) (mOne mSortK ma) := by
  intro c G H σ ρ T Q hK hl R p
  refine one_core (ta := ta) ha hK hl R p fun a x G2 H2 ρ2 hl2 R2 s2 ia q => ?_
  subst hK
  obtain ⟨f, a⟩ := a
  cases a with
  | lst xs =>
    obtain ⟨l, vs, rfl, e1, t1⟩ := ia.2
    unfold mSortK at q
    dsimp only at q
    by_cases h : SortOk xs
    · rw [if_pos h] at q
      exact ⟨l, vs, xs, rfl, SqL.of e1, (t1.mono R2.gs fun _ _ => trivial), h, R2.lst (sort_dr t1.fl) (q hl2 G2 H2 R2 (Same.refl G2))⟩
    · rw [if_neg h] at q
      exact q.elim
  | _ => exact False.elim q
end Da
end F40
section F41
namespace Da
open PySem PySem.Spec PyProof.Rows L2 He Ds
variable [Tabl]
section
variable {K : PySem.W.Frag} {W : WX} {c : Cc} {G G' H : Hp} {σ : L2.St} {ρ : List Slot} {T : List En}
/-! ### a dict of the call's own, among several values -/
def mDctS (m : M (Bool × (List Key × List D))) : M Slot := mb m fun a => mp (.dct a.1 a.2.1 a.2.2)
theorem DD.s {te : TE} {m : M (Bool × (List Key × List D))} (h : DD K W te m) : DS1 K W te (mDctS m) := by
  intro c G H σ ρ T Q hK hl R p
  refine h c G H σ ρ T Q hK hl R (Post.imp (Post.bind p) fun a ρ' G' H' hl' R' s q p H2 R2 => ?_)
  exact q hl' G' H' R' (Same.refl G') (.ref p) H2 R2
/-! ### d[k] -/
/-! ### xs * k -/
/-! ### s[i] -/
/-! ### 1 << n, a & b -/
def dShl := dI (fun i j => decide (0 ≤ j) && decide (j ≤ 1000000) && decide (i.natAbs < 2 ^ 64)) fun i j => .int (i * 2 ^ j.toNat)
theorem s_shl : OpS K (rI CPow fun i j => .int (i * 2 ^ j.toNat)) dShl := ops_int (fun i j h => by
  rw [Bool.and_eq_true, Bool.and_eq_true] at h
  exact ⟨of_decide_eq_true h.1.1, of_decide_eq_true h.1.2, of_decide_eq_true h.2⟩) fun _ _ => .int _
/-! ### dict of a list of pairs -/
end
end Da
end F41
section F42
namespace Ds
open PySem PySem.Spec PyProof.Rows L2
end Ds
namespace Da
open PySem PySem.Spec PyProof.Rows L2 He Ds
variable [Tabl]
section
variable {K : PySem.W.Frag} {W : WX} {c : Cc} {G G' H : Hp} {σ : L2.St} {ρ : List Slot} {T : List En}
/-! ### for c in a text -/
/-! ### zip of two lists -/
end
end Da
end F42
section F43
/-! math.gcd, x.index(y). -/
namespace Da
open PySem PySem.Spec PyProof.Rows L2 He Ds
variable [Tabl]
section
variable {K : PySem.W.Frag} {W : WX} {c : Cc} {G H : Hp} {σ : L2.St} {ρ : List Slot} {T : List En}
/-- a dict of one's own handed on as a datum -/
theorem _root_.Da.Rel.freezeD {E : List En} {p : Addr} {fr : Bool} {ks : List Key} {ds : List D} (R : Rel c G H ((some (.ref p), .dct fr ks ds) :: E)) : ∃ u, Rel c (upd G p u) H E ∧ Same G (upd G p u) ∧ Dr c.K (upd G p u) (Fl c fr) (.ref p) (.dic ks ds) := by
  obtain ⟨q, eq, h1, h2, ⟨h3, vs', h4, h5, h7⟩, h6⟩ := R.head rfl
  cases eq
  obtain ⟨R', sG⟩ := R.freezeO rfl h4 h3
  exact ⟨_, R', sG, .dic upd_same h5 (fun _ => R.g0n h1) (h7.up sG)⟩
def mKeepD (m : M (Bool × (List Key × List D))) : M (Bool × D) := mb m fun a => mp (a.1, .dic a.2.1 a.2.2)
theorem DD.e {te : TE} {m : M (Bool × (List Key × List D))} (h : DD K W te m) : DE K W te (mKeepD m) := by
  intro c G H σ ρ T Q hK hl R p
  refine h c G H σ ρ T Q hK hl R (Post.imp (Post.bind p) fun a ρ' G' H' hl' R' s q p H2 R2 => ?_)
  subst hK
  obtain ⟨u, R3, sG, hd⟩ := R2.freezeD
  exact q hl' _ _ R3 sG _ hd
end
end Da
end F43
section F44
namespace Da
open PySem PySem.Spec PyProof.Rows L2 He Ds
/-! What the laws of told shares have in common (printed by tools/prog.py). -/
def B_law_leads_1 : S := (sIf (mAnd (mT (mOp dIn (mLook 6) (mLook 3))) (mAnd (mT (mOp dIn (mLook 5) (mLook 2))) (mT (mOp dNotIn (mLook 5) (mLook 3)))))
 (sDrop (mMut 3 (maCons (mDat (mVar 5)) (mp [])) kAppend))
 sNil)
def B_law_leads_2 : S := (sSeq (sSet 4 (mUn dLen (mLook 3)))
 (sFor (mIt itList (mBin mIxT (mLook 0) (mE (mp (true, D.int 1))))) (tgTup 2 (tgsCons (tgName 5) (tgsCons (tgName 6) tgsNil)))
 B_law_leads_1))
def D_law_leads : List D → Out := runD 8 3 (sSeq (sPar [3, 4] (maCons (mOwn (mOne mListK (mLook 1))) (maCons (mDat (mUn dNeg (mE (mp (true, D.int 1))))) (mp []))))
 (sSeq (sWhile 100000 (mT (mOp dNe (mLook 4) (mE (mUn dLen (mLook 3)))))
 B_law_leads_2)
 (sRet (mKeep (mComp [7] (mIt itList (mBin mIxT (mLook 0) (mE (mp (true, D.int 0))))) (tgName 7) (mT (mOp dIn (mLook 7) (mLook 3))) (mVar 7))))))
def B_law_group_1 : S := (sIf (mAnd (mT (mOp dIn (mLook 5) (mLook 2))) (mAnd (mT (mOp dIn (mLook 6) (mLook 2))) (mT (mOp dNe (mE (mOp dIn (mLook 5) (mLook 3))) (mE (mOp dIn (mLook 6) (mLook 3)))))))
 (sDrop (mMut 3 (maCons (mDat (mIf (mT (mOp dIn (mLook 5) (mLook 3))) (mVar 6) (mVar 5))) (mp [])) kAppend))
 sNil)
def B_law_group_2 : S := (sSeq (sSet 4 (mUn dLen (mLook 3)))
 (sFor (mIt itList (mBin mIxT (mLook 0) (mE (mp (true, D.int 2))))) (tgTup 2 (tgsCons (tgName 5) (tgsCons (tgName 6) tgsNil)))
 B_law_group_1))
def D_law_group : List D → Out := runD 8 3 (sSeq (sPar [3, 4] (maCons (mOwn (mLst (maCons (mDat (mVar 1)) (mp [])))) (maCons (mDat (mUn dNeg (mE (mp (true, D.int 1))))) (mp []))))
 (sSeq (sWhile 100000 (mT (mOp dNe (mLook 4) (mE (mUn dLen (mLook 3)))))
 B_law_group_2)
 (sRet (mKeep (mComp [7] (mIt itList (mBin mIxT (mLook 0) (mE (mp (true, D.int 0))))) (tgName 7) (mT (mOp dIn (mLook 7) (mLook 3))) (mVar 7))))))
def D_law_known : List Int → List D → OutP := runP 6 1 (sSeq (sSet 1 (mKeep (mLst (maCons (mDat (mTup (maCons (mDat (mp (true, D.str "xy"))) (maCons (mDat (mKeep (mLst (maCons (mDat (mp (true, D.str "xy"))) (mp []))))) (maCons (mDat (mKeep (mLst (maCons (mDat (mp (true, D.str "xy"))) (mp []))))) (mp [])))))) (maCons (mDat (mTup (maCons (mDat (mp (true, D.str "xzy"))) (maCons (mDat (mKeep (mLst (maCons (mDat (mp (true, D.str "xz"))) (maCons (mDat (mp (true, D.str "zy"))) (mp [])))))) (maCons (mDat (mKeep (mLst (maCons (mDat (mp (true, D.str "xy"))) (mp []))))) (mp [])))))) (maCons (mDat (mTup (maCons (mDat (mp (true, D.str "wzxy"))) (maCons (mDat (mKeep (mLst (maCons (mDat (mp (true, D.str "wz"))) (maCons (mDat (mp (true, D.str "zx"))) (maCons (mDat (mp (true, D.str "xy"))) (mp []))))))) (maCons (mDat (mKeep (mLst (maCons (mDat (mp (true, D.str "wx"))) (maCons (mDat (mp (true, D.str "wy"))) (mp [])))))) (mp [])))))) (mp [])))))))
 (sSeq (sSet 1 (mKeep (mBin mCatK (mLook 1) (mE (mKeep (mLst (maCons (mDat (mTup (maCons (mDat (mp (true, D.str "xzy"))) (maCons (mDat (mKeep (mLst (maCons (mDat (mp (true, D.str "xz"))) (maCons (mDat (mp (true, D.str "zy"))) (mp [])))))) (maCons (mDat (mKeep (mLst (maCons (mDat (mp (true, D.str "xz"))) (mp []))))) (mp [])))))) (maCons (mDat (mTup (maCons (mDat (mp (true, D.str "zxy"))) (maCons (mDat (mKeep (mLst (maCons (mDat (mp (true, D.str "zx"))) (maCons (mDat (mp (true, D.str "zy"))) (maCons (mDat (mp (true, D.str "xy"))) (mp []))))))) (maCons (mDat (mKeep (mLst (mp [])))) (mp [])))))) (maCons (mDat (mTup (maCons (mDat (mp (true, D.str "zxy"))) (maCons (mDat (mKeep (mLst (maCons (mDat (mp (true, D.str "zx"))) (maCons (mDat (mp (true, D.str "xy"))) (mp [])))))) (maCons (mDat (mKeep (mLst (maCons (mDat (mp (true, D.str "xy"))) (mp []))))) (mp [])))))) (mp []))))))))))
 (sSeq (sSet 1 (mKeep (mBin mCatK (mLook 1) (mE (mKeep (mLst (maCons (mDat (mTup (maCons (mDat (mp (true, D.str "xazby"))) (maCons (mDat (mKeep (mLst (maCons (mDat (mp (true, D.str "xa"))) (maCons (mDat (mp (true, D.str "az"))) (maCons (mDat (mp (true, D.str "zb"))) (maCons (mDat (mp (true, D.str "by"))) (mp [])))))))) (maCons (mDat (mKeep (mLst (maCons (mDat (mp (true, D.str "xz"))) (maCons (mDat (mp (true, D.str "az"))) (mp [])))))) (mp [])))))) (maCons (mDat (mTup (maCons (mDat (mp (true, D.str "xzwy"))) (maCons (mDat (mKeep (mLst (maCons (mDat (mp (true, D.str "xz"))) (maCons (mDat (mp (true, D.str "zw"))) (maCons (mDat (mp (true, D.str "wy"))) (mp []))))))) (maCons (mDat (mKeep (mLst (maCons (mDat (mp (true, D.str "xw"))) (maCons (mDat (mp (true, D.str "zy"))) (mp [])))))) (mp [])))))) (mp [])))))))))
 (sSeq (sSet 1 (mKeep (mBin mCatK (mLook 1) (mE (mKeep (mLst (maCons (mDat (mTup (maCons (mDat (mp (true, D.str "xzy"))) (maCons (mDat (mKeep (mLst (maCons (mDat (mp (true, D.str "xz"))) (maCons (mDat (mp (true, D.str "zy"))) (maCons (mDat (mp (true, D.str "xy"))) (mp []))))))) (maCons (mDat (mKeep (mLst (maCons (mDat (mp (true, D.str "xz"))) (maCons (mDat (mp (true, D.str "zy"))) (mp [])))))) (mp [])))))) (maCons (mDat (mTup (maCons (mDat (mp (true, D.str "wxzy"))) (maCons (mDat (mKeep (mLst (maCons (mDat (mp (true, D.str "wx"))) (maCons (mDat (mp (true, D.str "xz"))) (maCons (mDat (mp (true, D.str "zy"))) (maCons (mDat (mp (true, D.str "wy"))) (mp [])))))))) (maCons (mDat (mKeep (mLst (maCons (mDat (mp (true, D.str "xy"))) (maCons (mDat (mp (true, D.str "wx"))) (mp [])))))) (mp [])))))) (mp [])))))))))
 (sSeq (sAsg (tgTup 3 (tgsCons (tgName 2) (tgsCons (tgName 3) (tgsCons (tgName 4) tgsNil)))) (mBin mIxL (mLook 1) (mE (mPool 0 D_law_draw (maCons (mDat (mp (true, D.int 10))) (mp []))))))
 (sRet (mTup (maCons (mDat (mTup (maCons (mDat (mKeep (mOne mListSK (mLook 2)))) (maCons (mDat (mKeep (mComp [5] (mIt itList (mVar 3)) (tgName 5) (mp true) (mOne mTupSK (mLook 5))))) (maCons (mDat (mKeep (mComp [5] (mIt itList (mVar 4)) (tgName 5) (mp true) (mOne mTupSK (mLook 5))))) (mp [])))))) (maCons (mDat (mKeep (mLst (maCons (mDat (mp (true, D.str "x"))) (mp []))))) (maCons (mDat (mKeep (mLst (maCons (mDat (mp (true, D.str "y"))) (mp []))))) (mp [])))))))))))
def B_law_case_1 : S := (sDrop (mMut 4 (maCons (mDat (mMut 3 (maCons (mDat (mPool 0 D_law_draw (maCons (mDat (mUn dLen (mLook 3))) (mp [])))) (mp [])) kPopAt)) (mp [])) kAppend))
def D_law_case : List Int → List D → OutP := runP 6 2 (sSeq (sIf (mT (mOp dEq (mE (mPool 0 D_law_draw (maCons (mDat (mp (true, D.int 3))) (mp [])))) (mE (mp (true, D.int 0)))))
 (sRet (mPool 0 D_law_known (mp [])))
 sNil)
 (sSeq (sSet 2 (mPool 0 D_law_chart (maCons (mDat (mVar 1)) (mp []))))
 (sSeq (sPar [3, 4] (maCons (mOwn (mOne mListK (mE (mBin mIxT (mLook 2) (mE (mp (true, D.int 0))))))) (maCons (mOwn (mLst (mp []))) (mp []))))
 (sSeq (sWhile 100000 (mT (mOp dNe (mLook 3) (mE (mKeep (mLst (mp []))))))
 B_law_case_1)
 (sSeq (sSet 5 (mOp dMin2 (mE (mPool 0 D_law_draw (maCons (mDat (mp (true, D.int 3))) (mp [])))) (mE (mOp dSub (mE (mUn dLen (mLook 4))) (mE (mp (true, D.int 1)))))))
 (sRet (mTup (maCons (mDat (mVar 2)) (maCons (mDat (mKeep (mSl mSlL (mLook 4) (mp none) (mPart (mVar 5))))) (maCons (mDat (mKeep (mSl mSlL (mLook 4) (mPart (mVar 5)) (mPart (mOp dAdd (mE (mOp dAdd (mLook 5) (mE (mp (true, D.int 1))))) (mE (mPool 0 D_law_draw (maCons (mDat (mp (true, D.int 2))) (mp []))))))))) (mp [])))))))))))
def B_law_wanted_1 : S := (sIf (mT (mOp dEq (mE (mKeep (mCompO [7] 6 (tgName 7) (mT (mOp dIn (mLook 3) (mLook 7))) (mVar 7)))) (mE (mKeep (mLst (mp []))))))
 (sDrop (mMut 6 (maCons (mDat (mCall D_law_group (maCons (mDat (mVar 0)) (maCons (mDat (mVar 3)) (maCons (mDat (mVar 5)) (mp [])))))) (mp [])) kAppend))
 sNil)
def D_law_wanted : List D → Out := runD 8 3 (sSeq (sSet 4 (mKeep (mComp [3] (mIt itList (mBin mIxT (mLook 0) (mE (mp (true, D.int 0))))) (tgName 3) (mT (mOp dNotIn (mLook 3) (mLook 1))) (mVar 3))))
 (sSeq (sPar [5, 6] (maCons (mDat (mCall D_law_leads (maCons (mDat (mVar 0)) (maCons (mDat (mVar 2)) (maCons (mDat (mVar 4)) (mp [])))))) (maCons (mOwn (mLst (mp []))) (mp []))))
 (sSeq (sFor (mIt itList (mVar 5)) (tgName 3)
 B_law_wanted_1)
 (sRet (mRetV 6)))))
def B_law_chain_1 : S := (sSeq (sSet 3 (mCall D_law_leads (maCons (mDat (mVar 0)) (maCons (mDat (mVar 1)) (maCons (mDat (mBin mIxL (mLook 2) (mE (mUn dNeg (mE (mp (true, D.int 1))))))) (mp []))))))
 (sSeq (sIf (mT (mOp dEq (mLook 3) (mE (mBin mIxL (mLook 2) (mE (mUn dNeg (mE (mp (true, D.int 1)))))))))
 (sRet (mRetV 2))
 sNil)
 (sSeq (sDrop (mMut 2 (maCons (mDat (mVar 3)) (mp [])) kAppend))
 (sSeq (sSet 4 (mCall D_law_group (maCons (mDat (mVar 0)) (maCons (mDat (mBin mIxL (mLook 1) (mE (mp (true, D.int 0))))) (maCons (mDat (mVar 3)) (mp []))))))
 (sIf (mT (mOp dNe (mLook 4) (mLook 3)))
 (sDrop (mMut 2 (maCons (mDat (mVar 4)) (mp [])) kAppend))
 sNil)))))
def D_law_chain : List D → Out := runD 5 2 (sSeq (sSetO 2 (mLst (maCons (mDat (mCall D_law_group (maCons (mDat (mVar 0)) (maCons (mDat (mBin mIxL (mLook 1) (mE (mp (true, D.int 0))))) (maCons (mDat (mBin mIxT (mLook 0) (mE (mp (true, D.int 0))))) (mp [])))))) (mp []))))
 (sSeq (sWhile 100000 (mT (mOp dNe (mE (mBin mIxL (mLook 2) (mE (mUn dNeg (mE (mp (true, D.int 1))))))) (mLook 1)))
 B_law_chain_1)
 (sRet (mRetV 2))))
def B_law_stuck_1 : S := (sSeq (sSet 4 (mBin mIxL (mE (mCall D_law_chain (maCons (mDat (mVar 0)) (maCons (mDat (mVar 3)) (mp []))))) (mE (mUn dNeg (mE (mp (true, D.int 1)))))))
 (sIf (mT (mOp dNe (mLook 4) (mLook 3)))
 (sRet (mTup (maCons (mDat (mVar 3)) (maCons (mDat (mVar 4)) (mp [])))))
 sNil))
def D_law_stuck : List D → Out := runD 5 3 (sSeq (sFor (mIt itList (mCall D_law_wanted (maCons (mDat (mVar 0)) (maCons (mDat (mVar 1)) (maCons (mDat (mVar 2)) (mp [])))))) (tgName 3)
 B_law_stuck_1)
 (sRet (mp (true, D.non))))
end Da
end F44
section F45
namespace Da
open PySem PySem.Spec PyProof.Rows L2 He Ds
/-! What the laws of worlds have in common (printed by tools/gen2.py). -/
end Da
end F45
namespace Da
open PySem PySem.Spec PyProof.Rows L2 He Ds
local macro_rules | `(tactic| walk_at "a1ev") => `(tactic| try simp only [runD, runP, runI, initS, sSeq, sE, sSet, sSetO, sSetD, sRet, sRetN, sNil, sIf, sDrop, sAsg, sPar, sRaise, setAll, mb, mp, mo, mno, mVar, mLook, lookV, isSet, mE, mOp, mUn, mBin, mOne, mT, mBl, mTru, truD, mAnd, mOr, mNot, mAndV, mOrV, mNotV, mNotT, mIf, mTup, mLst, mKeep, mDats, dats, mDat, mOwn, maCons, mCall, mCallX, mRetV, mFld, fldD, mProp, outN, outM, isObj, flatD, flatDs, mMut, onOwn, getOwn, kAppend, kInsert, kPopAt, kExtend, mPop, sPut, sGuard, hasDct, putS, mDisp1, keyOf, mListK, mCatK, mIxL, mIxT, mSl, mSlL, mPart, sSelfC, outI, outIN, mMake, mMakeX, mMeth, mMethN, isObjM, tgName, tgTup, tgsCons, tgsNil,
  List.map_cons, List.map_nil, List.length_cons, List.length_nil, List.cons_append, List.nil_append, List.replicate, List.getElem?_cons_zero, List.getElem?_cons_succ, List.set_cons_zero, List.set_cons_succ, if_true, if_false, ite_true, ite_false, Bool.true_and, Bool.and_true, Bool.or_true, Bool.true_or, Bool.false_or, Bool.or_false, Bool.false_and, Bool.and_false, Option.map_some, Option.bind_some, Nat.add_eq, Nat.reduceAdd, Nat.reduceSub, Nat.reduceLeDiff, Nat.reduceLT, Nat.reduceEqDiff, Option.isSome_some, reduceCtorEq, decide_true, decide_false, Bool.not_true, Bool.not_false, not_true_eq_false, not_false_eq_true, Bool.not_eq_true, in_strs, notIn_strs, in_prs, eq_str, ne_str, eq_int, ne_int, eq_bl, ne_bl, eq_strs, ne_strs, eq_strss])
local macro_rules | `(tactic| walk_at "a1evh") => `(tactic| try simp only [runD, runP, runI, initS, sSeq, sE, sSet, sSetO, sSetD, sRet, sRetN, sNil, sIf, sDrop, sAsg, sPar, sRaise, setAll, mb, mp, mo, mno, mVar, mLook, lookV, isSet, mE, mOp, mUn, mBin, mOne, mT, mBl, mTru, truD, mAnd, mOr, mNot, mAndV, mOrV, mNotV, mNotT, mIf, mTup, mLst, mKeep, mDats, dats, mDat, mOwn, maCons, mCall, mCallX, mRetV, mFld, fldD, mProp, outN, outM, isObj, flatD, flatDs, mMut, onOwn, getOwn, kAppend, kInsert, kPopAt, kExtend, mPop, sPut, sGuard, hasDct, putS, mDisp1, keyOf, mListK, mCatK, mIxL, mIxT, mSl, mSlL, mPart, sSelfC, outI, outIN, mMake, mMakeX, mMeth, mMethN, isObjM, tgName, tgTup, tgsCons, tgsNil,
  List.map_cons, List.map_nil, List.length_cons, List.length_nil, List.cons_append, List.nil_append, List.replicate, List.getElem?_cons_zero, List.getElem?_cons_succ, List.set_cons_zero, List.set_cons_succ, if_true, if_false, ite_true, ite_false, Bool.true_and, Bool.and_true, Bool.or_true, Bool.true_or, Bool.false_or, Bool.or_false, Bool.false_and, Bool.and_false, Option.map_some, Option.bind_some, Nat.add_eq, Nat.reduceAdd, Nat.reduceSub, Nat.reduceLeDiff, Nat.reduceLT, Nat.reduceEqDiff, Option.isSome_some, reduceCtorEq, decide_true, decide_false, Bool.not_true, Bool.not_false, not_true_eq_false, not_false_eq_true, Bool.not_eq_true, in_strs, notIn_strs, in_prs, eq_str, ne_str, eq_int, ne_int, eq_bl, ne_bl, eq_strs, ne_strs, eq_strss, *])
section F46
open PySem PySem.Spec PyProof.Rows L2 He Ds
theorem runD_ok {N n : Nat} {s : S} {ds : List D} {fr : Bool} {d : D} (hn : ds.length = n) (h : ∃ ρ, s (initS N (ds.map (.dat false))) = .rt fr d ρ) : runD N n s ds = .ok (fr || flatD d) d := by
  obtain ⟨ρ, h⟩ := h
  unfold runD
  rw [if_pos hn, h]
theorem runD_nx {N n : Nat} {s : S} {ds : List D} (hn : ds.length = n) (h : ∃ ρ, s (initS N (ds.map (.dat false))) = .nx ρ) : runD N n s ds = .ok true .non := by
  obtain ⟨ρ, h⟩ := h
  unfold runD
  rw [if_pos hn, h]
theorem runD_er {N n : Nat} {s : S} {ds : List D} {k : Str} {d : D} (hn : ds.length = n) (h : ∃ ρ, s (initS N (ds.map (.dat false))) = .er k d ρ) : runD N n s ds = .er k d := by
  obtain ⟨ρ, h⟩ := h
  unfold runD
  rw [if_pos hn, h]
/-! ### dicts as marks -/
abbrev dF (F : List Str) : Slot := .dct true (F.map Sum.inr) (F.map fun _ => D.bl true)
theorem getD_F (F : List Str) (s : Str) : (getD (F.map Sum.inr) (F.map fun _ => D.bl true) (Sum.inr s)).isSome = decide (s ∈ F) := by
  unfold getD
  induction F with
  | nil => rfl
  | cons x F ih =>
    rw [List.map_cons, List.map_cons, List.zip_cons_cons, List.find?_cons]
    by_cases h : x = s
    · subst h; simp
    · have h2 : ¬ (Sum.inr x : Key) = Sum.inr s := fun e => h (Sum.inr.inj e)
      have h3 : ¬ s = x := fun e => h e.symm
      simp only [h2, decide_false]
      rw [ih]
      simp [h3]
theorem putD_F {F : List Str} {s : Str} (h : s ∉ F) : putD (F.map Sum.inr) (F.map fun _ => D.bl true) (Sum.inr s) (.bl true) = ((F ++ [s]).map Sum.inr, (F ++ [s]).map fun _ => D.bl true) := by
  unfold putD
  rw [if_neg]
  · simp
  · simp only [List.any_map, Function.comp_def, Bool.not_eq_true]
    rw [List.any_eq_false]
    intro x hx
    have : ¬ (Sum.inr x : Key) = Sum.inr s := fun e => h (Sum.inr.inj e ▸ hx)
    simp [this]
theorem tagL_map {α : Type} {f : Bool} {e : α → D} {xs : List α} (h : ∀ x ∈ xs, flatD (e x) = true) : tagL f (xs.map e) = xs.map fun x => (true, e x) := by
  unfold tagL
  rw [List.map_map]
  refine List.map_congr_left fun x hx => ?_
  simp [h x hx]
theorem tag_sL (f : Bool) (xs : List Str) : tagL f (xs.map D.str) = xs.map fun x => (true, D.str x) := tagL_map fun _ _ => rfl
theorem tag_pL (f : Bool) (xs : List Pr) : tagL f (xs.map prD) = xs.map fun x => (true, prD x) := tagL_map fun _ _ => rfl
/-- a comprehension over plain items -/
theorem comp_map {α : Type} {e : α → Bool × D} {vs : List Nat} {t : Tgt} {tt : M Bool} {te : M (Bool × D)} {ρ0 ρ : List Slot} {p : α → Bool} {g : α → D} {xs : List α}
    (h : ∀ a ∈ xs, ∃ ρ1, t (e a) ρ = some ρ1 ∧ tt ρ1 = .ok (p a) ρ1 ∧ (p a = true → te ρ1 = .ok (true, g a) ρ1) ∧ wipeS ρ1 vs = ρ) (hl : xs.length ≤ 100000) :
    compD vs t tt te ρ0 (xs.map e) true [] ρ = .ok (true, (xs.filter p).map g) (unw ρ0 vs ρ) := by
  have gen : ∀ {ys : List α} {acc : List D}, (∀ a ∈ ys, a ∈ xs) → acc.length + ys.length ≤ 100000 → compD vs t tt te ρ0 (ys.map e) true acc ρ = .ok (true, acc ++ (ys.filter p).map g) (unw ρ0 vs ρ) := by
    intro ys
    induction ys with
    | nil => intro acc _ _; simp [compD]
    | cons a ys ih =>
      intro acc hm hz
      obtain ⟨ρ1, h1, h2, h3, h4⟩ := h a (hm a (by simp))
      rw [List.length_cons] at hz
      rw [List.map_cons]
      unfold compD
      rw [h1]
      dsimp only
      rw [h2]
      cases q : p a with
      | false =>
        dsimp only
        rw [h4, ih (fun b hb => hm b (by simp [hb])) (by omega)]
        simp [q]
      | true =>
        dsimp only
        rw [h3 q]
        dsimp only
        rw [if_pos (by omega), h4]
        have := ih (acc := acc ++ [g a]) (fun b hb => hm b (by simp [hb])) (by rw [List.length_append]; simp; omega)
        simp only [Bool.true_or, Bool.and_true] at this ⊢
        rw [this]
        simp [q]
  have := gen (ys := xs) (acc := []) (fun _ h => h) (by simpa using hl)
  simpa using this
theorem nodup_snoc {F : List Str} {s : Str} (h : F.Nodup) (n : s ∉ F) : (F ++ [s]).Nodup := by
  rw [List.nodup_append]
  exact ⟨h, by simp, fun u hu v hv e => by
    have e2 : v = s := by simpa using hv
    exact n (by rw [← e2, ← e]; exact hu)⟩
/-! ### things_leading -/
structure TLI (ps : List Pr) (x : Str) (F wl : List Str) : Prop where
  nd : F.Nodup
  hx : x ∈ F
  ld : ∀ f ∈ F, Leads ps f x
  sb : ∀ f ∈ F, f ∈ x :: ps.map (·.1)
  wf : ∀ y ∈ wl, y ∈ F
  cl : ∀ u v, (u, v) ∈ ps → v ∈ F → v ∉ wl → u ∈ F
theorem TLI.len {ps : List Pr} {x : Str} {F wl : List Str} (h : TLI ps x F wl) : F.length ≤ 1 + ps.length := by
  have := nodup_le h.nd h.sb
  rw [List.length_cons, List.length_map] at this
  omega
theorem ev_things_leading (ns : List Str) (ps : List Pr) (x : Str) (h1 : ns.length ≤ 10000) (h2 : ps.length ≤ 10000) : D_things_leading [sL ns, pL ps, .str x] = .ok true (sL (leading ns ps x)) := by
  unfold D_things_leading
  obtain ⟨I, hI⟩ : ∃ I : Nat → List Slot → Prop, I = fun m ρ => ∃ (F wl : List Str) (v5 v6 v7 : Slot), ρ = [.dat false (sL ns), .dat false (pL ps), .dat false (.str x), dF F, .own true (wl.map D.str), v5, v6, v7] ∧ TLI ps x F wl ∧ wl.length ≤ F.length ∧ m = 2 * (1 + ps.length - F.length) + wl.length := ⟨_, rfl⟩
  obtain ⟨J, hJ⟩ : ∃ J : List Slot → Prop, J = fun ρ => ∃ (F : List Str) (v5 v6 v7 : Slot), ρ = [.dat false (sL ns), .dat false (pL ps), .dat false (.str x), dF F, .own true [], v5, v6, v7] ∧ TLI ps x F [] := ⟨_, rfl⟩
  have start : I (2 * ps.length + 1) [.dat false (sL ns), .dat false (pL ps), .dat false (.str x), dF [x], .own true ([x].map D.str), .no, .no, .no] := by
    rw [hI]
    refine ⟨[x], [x], .no, .no, .no, rfl, ⟨by simp, by simp, fun f hf => ?_, fun f hf => ?_, fun y hy => hy, fun u v _ h1 h2 => absurd h1 h2⟩, Nat.le_refl _, ?_⟩
    · simp at hf; rw [hf]; exact .refl x
    · simp at hf; simp [hf]
    · show 2 * ps.length + 1 = 2 * (1 + ps.length - 1) + 1; omega
  obtain ⟨ρ', w1, w2⟩ := while_inv (t := mTru (mLook 4)) (b := B_things_leading_2) I J
    (fun m ρ h => by
      rw [hI] at h
      obtain ⟨F, wl, v5, v6, v7, rfl, T, wF, hm⟩ := h
      rcases List.eq_nil_or_concat wl with e | ⟨wi, t, e⟩
      · subst e
        refine .inl ⟨by walk_at "a1ev"; rfl, ?_⟩
        rw [hJ]
        exact ⟨F, v5, v6, v7, rfl, T⟩
      · rw [List.concat_eq_append] at e
        subst e
        rw [List.length_append, List.length_singleton] at wF hm
        have tF : t ∈ F := T.wf t (by simp)
        -- the inner loop
        obtain ⟨B, hB⟩ : ∃ B : Nat → List Slot → Prop, B = fun i ρ => ∃ (G wl : List Str) (v6 v7 : Slot), ρ = [.dat false (sL ns), .dat false (pL ps), .dat false (.str x), dF G, .own true (wl.map D.str), .dat true (.str t), v6, v7] ∧
            G.Nodup ∧ x ∈ G ∧ (∀ f ∈ G, Leads ps f x) ∧ (∀ f ∈ G, f ∈ x :: ps.map (·.1)) ∧ (∀ y ∈ wl, y ∈ G) ∧ (∀ u v, (u, v) ∈ ps → v ∈ G → v ∉ wl → u ∈ G ∨ (v = t ∧ (u, v) ∉ ps.take i)) ∧
            F.length ≤ G.length ∧ wl.length + F.length = wi.length + G.length ∧ t ∈ G := ⟨_, rfl⟩
        obtain ⟨ρ2, f1, f2⟩ := for_inv (t := tgTup 2 (tgsCons (tgName 6) (tgsCons (tgName 7) tgsNil))) (b := B_things_leading_1) B
          (its := ps.map fun p => (true, prD p)) (k := 0) (ρ := [.dat false (sL ns), .dat false (pL ps), .dat false (.str x), dF F, .own true (wi.map D.str), .dat true (.str t), v6, v7])
          (by
            rw [hB]
            refine ⟨F, wi, v6, v7, rfl, T.nd, T.hx, T.ld, T.sb, fun y hy => T.wf y (by simp [hy]), fun u v h1 h2 h3 => ?_, Nat.le_refl _, rfl, tF⟩
            by_cases e : v = t
            · exact .inr ⟨e, by simp⟩
            · exact .inl (T.cl u v h1 h2 (by simp [h3, e])))
          (fun i a ρ ha hb => by
            rw [Nat.zero_add] at hb ⊢
            rw [hB] at hb
            obtain ⟨G, wl, v6, v7, rfl, gnd, gx, gl, gs, gw, gc, gF, gW, gt⟩ := hb
            obtain ⟨⟨po, pu⟩, hpp, rfl⟩ := map_get ha
            have hGl : G.length ≤ 1 + ps.length := by
              have := nodup_le gnd gs
              rw [List.length_cons, List.length_map] at this
              omega
            have hps : (po, pu) ∈ ps := List.mem_of_getElem? hpp
            have tk := take_succ_of hpp
            have keep : ¬ (pu = t ∧ po ∉ G) → ∀ u v, (u, v) ∈ ps → v ∈ G → v ∉ wl → u ∈ G ∨ (v = t ∧ (u, v) ∉ ps.take (i + 1)) := fun hn u v h1 h2 h3 => by
              rcases gc u v h1 h2 h3 with z | ⟨z1, z2⟩
              · exact .inl z
              · by_cases e : (u, v) = (po, pu)
                · have e1 : u = po := congrArg Prod.fst e
                  have e2 : v = pu := congrArg Prod.snd e
                  subst e1 e2
                  refine .inl (Classical.byContradiction fun z => hn ⟨z1, z⟩)
                · refine .inr ⟨z1, ?_⟩
                  rw [tk]
                  simp only [List.mem_append, List.mem_singleton, not_or]
                  exact ⟨z2, e⟩
            refine ⟨[.dat false (sL ns), .dat false (pL ps), .dat false (.str x), dF G, .own true (wl.map D.str), .dat true (.str t), .dat true (.str po), .dat true (.str pu)], ?_⟩
            by_cases c1 : pu = t
            · by_cases c2 : po ∈ G
              · refine ⟨[.dat false (sL ns), .dat false (pL ps), .dat false (.str x), dF G, .own true (wl.map D.str), .dat true (.str t), .dat true (.str po), .dat true (.str pu)], rfl, ?_, ?_⟩
                · have e1 : dinK true (true, D.str po) (true, D.dic (G.map Sum.inr) (G.map fun _ => D.bl true)) = some (true, .bl false) := by
                    unfold dinK; walk_at "a1ev"; rw [getD_F, decide_eq_true c2]; rfl
                  subst c1
                  unfold B_things_leading_1
                  walk_at "a1ev"
                  simp only [mDin, mBin, mb, mE, mp, mVar, mLook, lookV, isSet]
                  walk_at "a1ev"
                  rw [e1]
                  rfl
                · rw [hB]
                  exact ⟨G, wl, _, _, rfl, gnd, gx, gl, gs, gw, keep fun z => z.2 c2, gF, gW, gt⟩
              · refine ⟨[.dat false (sL ns), .dat false (pL ps), .dat false (.str x), dF (G ++ [po]), .own true ((wl ++ [po]).map D.str), .dat true (.str t), .dat true (.str po), .dat true (.str pu)], rfl, ?_, ?_⟩
                · have e1 : dinK true (true, D.str po) (true, D.dic (G.map Sum.inr) (G.map fun _ => D.bl true)) = some (true, .bl true) := by
                    unfold dinK; walk_at "a1ev"; rw [getD_F, decide_eq_false c2]; rfl
                  have hz : (G.map (Sum.inr : Str → Key)).length < 100000 := by rw [List.length_map]; omega
                  have hw : (wl.map D.str).length < 100000 := by rw [List.length_map]; omega
                  subst c1
                  unfold B_things_leading_1
                  walk_at "a1ev"
                  simp only [mDin, mBin, mb, mE, mp, mVar, mLook, lookV, isSet]
                  walk_at "a1ev"
                  rw [e1]
                  walk_at "a1ev"
                  rw [if_pos hz, putD_F c2]
                  walk_at "a1ev"
                  rw [if_pos hw]
                  simp
                · rw [hB]
                  refine ⟨G ++ [po], wl ++ [po], _, _, rfl, nodup_snoc gnd c2, List.mem_append_left _ gx, fun f hf => ?_, fun f hf => ?_, fun y hy => ?_, fun u v h1 h2 h3 => ?_, by rw [List.length_append]; omega, by rw [List.length_append, List.length_append]; simp; omega, List.mem_append_left _ gt⟩
                  · rcases List.mem_append.mp hf with hf | hf
                    · exact gl f hf
                    · have e2 : f = po := by simpa using hf
                      rw [e2]
                      exact .step hps (gl _ (by rw [c1]; exact gt))
                  · rcases List.mem_append.mp hf with hf | hf
                    · exact gs f hf
                    · have e2 : f = po := by simpa using hf
                      rw [e2]
                      exact List.mem_cons_of_mem _ (List.mem_map.mpr ⟨_, hps, rfl⟩)
                  · rcases List.mem_append.mp hy with hy | hy
                    · exact List.mem_append_left _ (gw y hy)
                    · exact List.mem_append_right _ hy
                  · simp only [List.mem_append, List.mem_singleton, not_or] at h2 h3 ⊢
                    rcases h2 with h2 | h2
                    · rcases gc u v h1 h2 h3.1 with z | ⟨z1, z2⟩
                      · exact .inl (.inl z)
                      · by_cases e : (u, v) = (po, pu)
                        · exact .inl (.inr (congrArg Prod.fst e))
                        · refine .inr ⟨z1, ?_⟩
                          rw [tk]
                          simp only [List.mem_append, List.mem_singleton, not_or]
                          exact ⟨z2, e⟩
                    · exact absurd h2 h3.2
            · refine ⟨[.dat false (sL ns), .dat false (pL ps), .dat false (.str x), dF G, .own true (wl.map D.str), .dat true (.str t), .dat true (.str po), .dat true (.str pu)], rfl, ?_, ?_⟩
              · unfold B_things_leading_1
                walk_at "a1evh"
              · rw [hB]
                exact ⟨G, wl, _, _, rfl, gnd, gx, gl, gs, gw, keep fun z => c1 z.1, gF, gW, gt⟩)
        rw [hB] at f2
        obtain ⟨G, wl, v6', v7', rfl, gnd, gx, gl, gs, gw, gc, gF, gW, gt⟩ := f2
        refine .inr ⟨[.dat false (sL ns), .dat false (pL ps), .dat false (.str x), dF G, .own true (wl.map D.str), .dat true (.str t), v6', v7'], 2 * (1 + ps.length - G.length) + wl.length, ?_, ?_, ?_, ?_⟩
        · walk_at "a1ev"
          simp
        · have e1 : sSet 5 (mPop 4) [.dat false (sL ns), .dat false (pL ps), .dat false (.str x), dF F, .own true ((wi ++ [t]).map D.str), v5, v6, v7] = .nx [.dat false (sL ns), .dat false (pL ps), .dat false (.str x), dF F, .own true (wi.map D.str), .dat true (.str t), v6, v7] := by
            rw [List.map_append]
            walk_at "a1ev"
            simp [flatD]
          unfold B_things_leading_2
          rw [sSeq, e1]
          dsimp only
          rw [sFor, sE, mIt, mb]
          simp only [mVar, List.getElem?_cons_succ, List.getElem?_cons_zero, itList, mo, mp, tag_pL]
          exact f1
        · have := (show G.length ≤ 1 + ps.length by
            have := nodup_le gnd gs
            rw [List.length_cons, List.length_map] at this
            omega)
          omega
        · rw [hI]
          refine ⟨G, wl, _, _, _, rfl, ⟨gnd, gx, gl, gs, gw, fun u v h1 h2 h3 => ?_⟩, ?_, rfl⟩
          · rcases gc u v h1 h2 h3 with z | ⟨_, z2⟩
            · exact z
            · exact absurd (by rw [List.length_map, Nat.zero_add, List.take_length]; exact h1) z2
          · omega) start (show 2 * ps.length + 1 < 100000 by omega)
  rw [hJ] at w2
  obtain ⟨F, v5, v6, v7, rfl, T⟩ := w2
  have hF : ∀ t ∈ ns, t ∈ F ↔ Leads ps t x := fun t _ => ⟨T.ld t, fun l => l.closed T.hx fun u v h1 h2 => T.cl u v h1 h2 (by simp)⟩
  have e0 : ∀ ρ, sSeq (sSetD 3 (mDisp1 (mVar 2) (mp (true, D.bl true)))) ρ [.dat false (sL ns), .dat false (pL ps), .dat false (.str x), .no, .no, .no, .no, .no] = ρ [.dat false (sL ns), .dat false (pL ps), .dat false (.str x), dF [x], .no, .no, .no, .no] := fun ρ => by walk_at "a1ev"; rfl
  have e1 : ∀ ρ, sSeq (sSetO 4 (mLst (maCons (mDat (mVar 2)) (mp [])))) ρ [.dat false (sL ns), .dat false (pL ps), .dat false (.str x), dF [x], .no, .no, .no, .no] = ρ [.dat false (sL ns), .dat false (pL ps), .dat false (.str x), dF [x], .own true ([x].map D.str), .no, .no, .no] := fun ρ => by walk_at "a1ev"; try rfl
  have ec : compD [5] (tgName 5) (mT (mDin false (mVar 5) (mLook 3))) (mVar 5) [.dat false (sL ns), .dat false (pL ps), .dat false (.str x), dF F, .own true [], v5, v6, v7] (ns.map fun s => (true, D.str s)) true [] [.dat false (sL ns), .dat false (pL ps), .dat false (.str x), dF F, .own true [], .no, v6, v7] =
      .ok (true, (ns.filter fun t => decide (t ∈ F)).map D.str) _ := comp_map (fun s hs => ⟨[.dat false (sL ns), .dat false (pL ps), .dat false (.str x), dF F, .own true [], .dat true (.str s), v6, v7], rfl, by
        have e1 : dinK false (true, D.str s) (true, D.dic (F.map Sum.inr) (F.map fun _ => D.bl true)) = some (true, .bl (decide (s ∈ F))) := by
          unfold dinK; walk_at "a1ev"; rw [getD_F]
        simp only [mDin, mBin, mT, mb, mE, mp, mVar, mLook, lookV, isSet]
        walk_at "a1ev"
        rw [e1]
        rfl, fun _ => rfl, rfl⟩) (by omega)
  refine runD_ok (fr := true) rfl ?_
  show ∃ ρ, sSeq _ _ [.dat false (sL ns), .dat false (pL ps), .dat false (.str x), .no, .no, .no, .no, .no] = _
  rw [e0, e1, sSeq, sWhile, w1]
  dsimp only
  simp only [sRet, sE, mKeep, mComp, mIt, mb, mVar, List.getElem?_cons_zero, itList, mo, mp, tag_sL, wipeS, List.set_cons_succ, List.set_cons_zero]
  rw [ec, leading_eq hF]
  exact ⟨_, rfl⟩
end F46
section F47
open PySem PySem.Spec PyProof.Rows L2 He Ds
theorem enD_get' {α : Type} {f : Bool} {e : α → D} {xs : List α} (hf : ∀ x ∈ xs, flatD (e x) = true) {i : Nat} {a : Bool × D} (h : (enD f 0 (xs.map e))[i]? = some a) : ∃ x, xs[i]? = some x ∧ a = (true, .tup [.int (i : Nat), e x]) := by
  obtain ⟨d, h1, rfl⟩ := enD_get h
  obtain ⟨x, hx, rfl⟩ := map_get h1
  refine ⟨x, hx, ?_⟩
  rw [hf x (List.mem_of_getElem? hx), Bool.or_true, Nat.zero_add]
/-- a walk over enumerate that raises at the first item that can't be had -/
theorem check_loop {α : Type} {e : α → D} {f : Bool} {t : Tgt} {b : S} {xs : List α} {k : Str} {ed : α → D} (I : List Slot → Prop) (B : List α → α → Prop) (hf : ∀ x ∈ xs, flatD (e x) = true)
    (hs : ∀ i x ρ, xs[i]? = some x → I ρ → ∃ ρ1, t (true, .tup [.int (i : Nat), e x]) ρ = some ρ1 ∧ (¬ B (xs.take i) x → ∃ ρ2, b ρ1 = .nx ρ2 ∧ I ρ2) ∧ (B (xs.take i) x → ∃ ρ2, b ρ1 = .er k (ed x) ρ2)) {ρ : List Slot} (h0 : I ρ) :
    (NoBad B xs → ∃ ρ', forD t b (enD f 0 (xs.map e)) ρ = .nx ρ' ∧ I ρ') ∧ ∀ x, FirstBad B xs x → ∃ ρ', forD t b (enD f 0 (xs.map e)) ρ = .er k (ed x) ρ' := by
  refine ⟨fun nb => ?_, fun x hx => ?_⟩
  · obtain ⟨ρ', h1, h2⟩ := for_inv (t := t) (b := b) (fun _ ρ => I ρ) (its := enD f 0 (xs.map e)) (k := 0) (ρ := ρ) h0 fun i a ρ ha hI => by
      obtain ⟨x, hx, rfl⟩ := enD_get' hf ha
      obtain ⟨ρ1, h1, h2, _⟩ := hs i x ρ hx hI
      obtain ⟨ρ2, h3, h4⟩ := h2 (nb i x hx)
      exact ⟨ρ1, ρ2, h1, h3, h4⟩
    exact ⟨ρ', h1, h2⟩
  · obtain ⟨n, hn, hb, hnb⟩ := hx
    have hlen : n < (enD f 0 (xs.map e)).length := by
      rw [enD_len, List.length_map]
      exact (List.getElem?_eq_some_iff.mp hn).1
    have e0 := List.getElem?_eq_getElem hlen
    obtain ⟨x', hx', ea⟩ := enD_get' hf e0
    have ex : x' = x := Option.some.inj (hx'.symm.trans hn)
    subst ex
    exact for_exit (fun _ ρ => I ρ) (fun r => ∃ ρ', r = .er k (ed x') ρ') (fun _ ⟨_, z⟩ => nomatch z) (fun _ ⟨_, z⟩ => nomatch z) (fun _ ⟨_, z⟩ => nomatch z) (k := 0) e0 h0
      (fun i a ρ hi ha hI => by
        obtain ⟨x, hx, rfl⟩ := enD_get' hf ha
        obtain ⟨ρ1, h1, h2, _⟩ := hs i x ρ hx hI
        obtain ⟨ρ2, h3, h4⟩ := h2 (hnb i x hi hx)
        exact ⟨ρ1, ρ2, h1, h3, h4⟩)
      (fun ρ hI => by
        obtain ⟨ρ1, h1, _, h3⟩ := hs n x' ρ hn hI
        rw [ea]
        exact ⟨ρ1, h1, h3 hb⟩)
theorem cutD_take (xs : List D) (i : Nat) : cutD xs none (some (i : Int)) = xs.take i := by
  unfold cutD
  have e1 : HT.sIx xs.length 0 none = 0 := rfl
  have e2 : HT.sIx xs.length xs.length (some (i : Int)) = min i xs.length := by
    show (if (i : Int) < 0 then ((i : Int) + (xs.length : Int)).toNat else min (i : Int).toNat xs.length) = _
    rw [if_neg (by omega)]
    rfl
  rw [e1, e2, List.drop_zero, Nat.sub_zero, ← List.take_eq_take_min]
open Classical in
theorem ev_are_two (ns : List Str) (x y : Str) : D_are_two [sL ns, .str x, .str y] = .ok true (.bl (decide (Two ns (x, y)))) := by
  unfold D_are_two Two
  by_cases h1 : x ∈ ns <;> by_cases h2 : y ∈ ns <;> by_cases h3 : x = y <;> (walk_at "a1evh"; try simp [h1, h2, h3])
open Classical in
theorem ev_is_letter (x : Str) (hl : x.length ≤ 1000) : D_is_letter [.str x] = .ok true (.bl (decide (IsLet x))) := by
  unfold D_is_letter
  have hi := isLet_iff x
  have hl' : x.length ≤ 1000000 := by omega
  by_cases c1 : x.length = 1
  · have c1' : (x.length : Int) = 1 := by omega
    by_cases c2 : x.cps.toList < ("a" : Str).cps.toList
    · have : ¬ IsLet x := fun z => (hi.mp z).2.1 c2
      walk_at "a1ev"
      simp only [dLenS, hl', if_true]
      walk_at "a1ev"
      simp only [c1', decide_true, mChain, chK, dLeS, dStrO]
      walk_at "a1ev"
      simp only [c2, decide_true, this, decide_false]
      rfl
    · by_cases c3 : ("z" : Str).cps.toList < x.cps.toList
      · have : ¬ IsLet x := fun z => (hi.mp z).2.2 c3
        walk_at "a1ev"
        simp only [dLenS, hl', if_true]
        walk_at "a1ev"
        simp only [c1', decide_true, mChain, chK, dLeS, dStrO]
        walk_at "a1ev"
        simp only [c2, c3, decide_true, this, decide_false]
        walk_at "a1ev"
        simp only [c3, decide_true, decide_false]
        try rfl
      · have : IsLet x := hi.mpr ⟨c1, c2, c3⟩
        walk_at "a1ev"
        simp only [dLenS, hl', if_true]
        walk_at "a1ev"
        simp only [c1', decide_true, mChain, chK, dLeS, dStrO]
        walk_at "a1ev"
        simp only [c2, c3, decide_true, this, decide_false]
        walk_at "a1ev"
        simp only [c3, decide_true, decide_false]
        try rfl
  · have c1' : ¬ (x.length : Int) = 1 := by omega
    have : ¬ IsLet x := fun z => c1 (hi.mp z).1
    walk_at "a1ev"
    simp only [dLenS, hl', if_true]
    walk_at "a1ev"
    simp only [c1', decide_true, decide_false, this]
    rfl
open Classical in
theorem ev_check_things {ns : List Str} (hl : ns.length ≤ 1000) (hx : ∀ x ∈ ns, x.length ≤ 1000) : (NoBad NameBad ns → 1 ≤ ns.length ∧ ns.length ≤ 6 → D_check_things [sL ns] = .ok true .non) ∧
    (∀ x, FirstBad NameBad ns x → D_check_things [sL ns] = .er "InvalidName" (.str x)) ∧ (NoBad NameBad ns → ¬ (1 ≤ ns.length ∧ ns.length ≤ 6) → D_check_things [sL ns] = .er "InvalidNumber" (.int (ns.length : Nat))) := by
  unfold D_check_things
  have loop := check_loop (t := tgTup 2 (tgsCons (tgName 1) (tgsCons (tgName 2) tgsNil))) (f := false)
    (b := B_check_things_1)
    (k := "InvalidName") (ed := D.str) (xs := ns) (e := D.str) (fun ρ => ∃ v1 v2, ρ = [.dat false (sL ns), v1, v2]) NameBad (fun _ _ => rfl)
    (fun i x ρ hi hI => by
      obtain ⟨v1, v2, rfl⟩ := hI
      refine ⟨[.dat false (sL ns), .dat true (.int (i : Nat)), .dat true (.str x)], rfl, fun nb => ⟨[.dat false (sL ns), .dat true (.int (i : Nat)), .dat true (.str x)], ?_, _, _, rfl⟩, fun hb => ⟨[.dat false (sL ns), .dat true (.int (i : Nat)), .dat true (.str x)], ?_⟩⟩
      · have n1 : IsLet x := Classical.byContradiction fun z => nb (.inl z)
        have n2 : x ∉ ns.take i := fun z => nb (.inr z)
        unfold B_check_things_1
        walk_at "a1ev"
        rw [ev_is_letter x (hx x (List.mem_of_getElem? hi)), decide_eq_true n1]
        walk_at "a1ev"
        rw [cutD_take, ← List.map_take]
        walk_at "a1ev"
        rw [decide_eq_false n2]
        rfl
      · unfold B_check_things_1
        walk_at "a1ev"
        rw [ev_is_letter x (hx x (List.mem_of_getElem? hi))]
        by_cases n1 : IsLet x
        · have n2 : x ∈ ns.take i := hb.resolve_left fun z => z n1
          rw [decide_eq_true n1]
          walk_at "a1ev"
          rw [cutD_take, ← List.map_take]
          walk_at "a1ev"
          rw [decide_eq_true n2]
          rfl
        · rw [decide_eq_false n1]
          rfl) (ρ := [.dat false (sL ns), .no, .no]) ⟨_, _, rfl⟩
  refine ⟨fun nb hn => runD_nx rfl ?_, fun x hb => runD_er rfl ?_, fun nb hn => runD_er rfl ?_⟩
  · obtain ⟨ρ', h1, v1, v2, rfl⟩ := loop.1 nb
    refine ⟨[.dat false (sL ns), v1, v2], ?_⟩
    show sSeq (sE (mEnum (maCons (mDat (mVar 0)) (mp []))) fun its => forD _ _ its) _ [.dat false (sL ns), .no, .no] = _
    have e1 : mEnum (maCons (mDat (mVar 0)) (mp [])) [.dat false (sL ns), .no, .no] = .ok (enD false 0 (ns.map D.str)) [.dat false (sL ns), .no, .no] := rfl
    have l1 : (1 : Int) ≤ ((ns.map D.str).length : Nat) := by rw [List.length_map]; omega
    have l2 : ((ns.map D.str).length : Int) ≤ 6 := by rw [List.length_map]; omega
    unfold sSeq sE
    rw [e1]
    dsimp only
    rw [h1]
    dsimp only
    simp only [mChain, chK, dLe, dI0, dI, dLen]
    walk_at "a1ev"
    simp only [dLen, l1, l2, decide_true]
    walk_at "a1ev"
    simp only [dLen, l1, l2, decide_true]
    walk_at "a1ev"
  · obtain ⟨ρ', h1⟩ := loop.2 x hb
    refine ⟨ρ', ?_⟩
    show sSeq (sE (mEnum (maCons (mDat (mVar 0)) (mp []))) fun its => forD _ _ its) _ [.dat false (sL ns), .no, .no] = _
    have e1 : mEnum (maCons (mDat (mVar 0)) (mp [])) [.dat false (sL ns), .no, .no] = .ok (enD false 0 (ns.map D.str)) [.dat false (sL ns), .no, .no] := rfl
    unfold sSeq sE
    rw [e1]
    dsimp only
    rw [h1]
  · obtain ⟨ρ', h1, v1, v2, rfl⟩ := loop.1 nb
    refine ⟨[.dat false (sL ns), v1, v2], ?_⟩
    show sSeq (sE (mEnum (maCons (mDat (mVar 0)) (mp []))) fun its => forD _ _ its) _ [.dat false (sL ns), .no, .no] = _
    have e1 : mEnum (maCons (mDat (mVar 0)) (mp [])) [.dat false (sL ns), .no, .no] = .ok (enD false 0 (ns.map D.str)) [.dat false (sL ns), .no, .no] := rfl
    unfold sSeq sE
    rw [e1]
    dsimp only
    rw [h1]
    dsimp only
    by_cases l1 : (1 : Int) ≤ ((ns.map D.str).length : Nat)
    · have l2 : ¬ ((ns.map D.str).length : Int) ≤ 6 := fun z => by rw [List.length_map] at z l1; omega
      simp only [mChain, chK, dLe, dI0, dI, dLen]
      walk_at "a1ev"
      simp only [dLen, l1, l2, decide_true, decide_false]
      walk_at "a1ev"
      simp only [dLen, l1, l2, decide_true, decide_false]
      walk_at "a1ev"
      simp only [dLen, List.length_map]
    · simp only [mChain, chK, dLe, dI0, dI, dLen]
      walk_at "a1ev"
      simp only [dLen, l1, decide_true, decide_false]
      walk_at "a1ev"
      simp only [dLen, List.length_map]
end F47
section F48
open PySem PySem.Spec PyProof.Rows L2 He Ds
/-- what a diagram may be made of -/
structure Good (ns : List Str) (ls vs : List Pr) : Prop where
  n : NoBad NameBad ns
  lo : 1 ≤ ns.length
  hi : ns.length ≤ 6
  l : NoBad (ArrowBad ns) ls
  v : NoBad (PairBad ns) vs
open Classical in
theorem ev_check_arrows {ns : List Str} {ls : List Pr} (h1 : ns.length ≤ 1000) (h2 : ls.length ≤ 1000) : (NoBad (ArrowBad ns) ls → D_check_arrows [sL ns, pL ls] = .ok true .non) ∧ (∀ p, FirstBad (ArrowBad ns) ls p → D_check_arrows [sL ns, pL ls] = .er "InvalidArrow" (prD p)) := by
  unfold D_check_arrows
  have loop := check_loop (t := tgTup 2 (tgsCons (tgName 2) (tgsCons (tgTup 2 (tgsCons (tgName 3) (tgsCons (tgName 4) tgsNil))) tgsNil))) (f := false) (b := B_check_arrows_1)
    (k := "InvalidArrow") (ed := prD) (xs := ls) (e := prD) (fun ρ => ∃ v2 v3 v4 v5, ρ = [.dat false (sL ns), .dat false (pL ls), v2, v3, v4, v5]) (ArrowBad ns) (fun _ _ => rfl)
    (fun i p ρ hi hI => by
      obtain ⟨v2, v3, v4, v5, rfl⟩ := hI
      obtain ⟨a, b⟩ := p
      have hlen : (ls.take i).length ≤ 10000 := by rw [List.length_take]; omega
      have tl := ev_things_leading ns (ls.take i) a (by omega) hlen
      refine ⟨[.dat false (sL ns), .dat false (pL ls), .dat true (.int (i : Nat)), .dat true (.str a), .dat true (.str b), v5], rfl, fun nb => ⟨[.dat false (sL ns), .dat false (pL ls), .dat true (.int (i : Nat)), .dat true (.str a), .dat true (.str b), .dat true (pL (ls.take i))], ?_, _, _, _, _, rfl⟩,
        fun hb => ⟨[.dat false (sL ns), .dat false (pL ls), .dat true (.int (i : Nat)), .dat true (.str a), .dat true (.str b), .dat true (pL (ls.take i))], ?_⟩⟩
      · have n1 : Two ns (a, b) := Classical.byContradiction fun z => nb (.inl z)
        have n2 : (a, b) ∉ ls.take i := fun z => nb (.inr (.inl z))
        have n3 : b ∉ leading ns (ls.take i) a := fun z => nb (.inr (.inr (leading_mem.mp z).2))
        unfold B_check_arrows_1
        walk_at "a1ev"
        rw [cutD_take, ← List.map_take, flat_prs]
        walk_at "a1ev"
        rw [ev_are_two, decide_eq_true n1]
        walk_at "a1ev"
        rw [show (D.tup [D.str a, D.str b]) = prD (a, b) from rfl, in_prs, decide_eq_false n2]
        walk_at "a1ev"
        rw [tl]
        walk_at "a1ev"
        rw [decide_eq_false n3]
        rfl
      · unfold B_check_arrows_1
        walk_at "a1ev"
        rw [cutD_take, ← List.map_take, flat_prs]
        walk_at "a1ev"
        rw [ev_are_two]
        by_cases n1 : Two ns (a, b)
        · rw [decide_eq_true n1]
          walk_at "a1ev"
          rw [show (D.tup [D.str a, D.str b]) = prD (a, b) from rfl, in_prs]
          by_cases n2 : (a, b) ∈ ls.take i
          · rw [decide_eq_true n2]
            rfl
          · rw [decide_eq_false n2]
            have n3 : b ∈ leading ns (ls.take i) a := leading_mem.mpr ⟨n1.2.1, (hb.resolve_left fun z => z n1).resolve_left n2⟩
            walk_at "a1ev"
            rw [tl]
            walk_at "a1ev"
            rw [decide_eq_true n3]
            rfl
        · rw [decide_eq_false n1]
          rfl) (ρ := [.dat false (sL ns), .dat false (pL ls), .no, .no, .no, .no]) ⟨_, _, _, _, rfl⟩
  have e1 : mEnum (maCons (mDat (mVar 1)) (mp [])) [.dat false (sL ns), .dat false (pL ls), .no, .no, .no, .no] = .ok (enD false 0 (ls.map prD)) [.dat false (sL ns), .dat false (pL ls), .no, .no, .no, .no] := rfl
  refine ⟨fun nb => runD_nx rfl ?_, fun x hb => runD_er rfl ?_⟩
  · obtain ⟨ρ', h1, _⟩ := loop.1 nb
    refine ⟨ρ', ?_⟩
    show sE (mEnum (maCons (mDat (mVar 1)) (mp []))) (fun its => forD _ _ its) [.dat false (sL ns), .dat false (pL ls), .no, .no, .no, .no] = _
    unfold sE
    rw [e1]
    exact h1
  · obtain ⟨ρ', h1⟩ := loop.2 x hb
    refine ⟨ρ', ?_⟩
    show sE (mEnum (maCons (mDat (mVar 1)) (mp []))) (fun its => forD _ _ its) [.dat false (sL ns), .dat false (pL ls), .no, .no, .no, .no] = _
    unfold sE
    rw [e1]
    exact h1
open Classical in
theorem ev_check_pairs {ns : List Str} {vs : List Pr} (h1 : ns.length ≤ 1000) (h2 : vs.length ≤ 1000) : (NoBad (PairBad ns) vs → D_check_pairs [sL ns, pL vs] = .ok true .non) ∧ (∀ p, FirstBad (PairBad ns) vs p → D_check_pairs [sL ns, pL vs] = .er "InvalidPair" (prD p)) := by
  unfold D_check_pairs
  have loop := check_loop (t := tgTup 2 (tgsCons (tgName 2) (tgsCons (tgTup 2 (tgsCons (tgName 3) (tgsCons (tgName 4) tgsNil))) tgsNil))) (f := false) (b := B_check_pairs_1)
    (k := "InvalidPair") (ed := prD) (xs := vs) (e := prD) (fun ρ => ∃ v2 v3 v4 v5, ρ = [.dat false (sL ns), .dat false (pL vs), v2, v3, v4, v5]) (PairBad ns) (fun _ _ => rfl)
    (fun i p ρ hi hI => by
      obtain ⟨v2, v3, v4, v5, rfl⟩ := hI
      obtain ⟨a, b⟩ := p
      refine ⟨[.dat false (sL ns), .dat false (pL vs), .dat true (.int (i : Nat)), .dat true (.str a), .dat true (.str b), v5], rfl, fun nb => ⟨[.dat false (sL ns), .dat false (pL vs), .dat true (.int (i : Nat)), .dat true (.str a), .dat true (.str b), .dat true (pL (vs.take i))], ?_, _, _, _, _, rfl⟩,
        fun hb => ⟨[.dat false (sL ns), .dat false (pL vs), .dat true (.int (i : Nat)), .dat true (.str a), .dat true (.str b), .dat true (pL (vs.take i))], ?_⟩⟩
      · have n1 : Two ns (a, b) := Classical.byContradiction fun z => nb (.inl z)
        have n2 : (a, b) ∉ vs.take i := fun z => nb (.inr (.inl z))
        have n3 : (b, a) ∉ vs.take i := fun z => nb (.inr (.inr z))
        unfold B_check_pairs_1
        walk_at "a1ev"
        rw [cutD_take, ← List.map_take, flat_prs]
        walk_at "a1ev"
        rw [ev_are_two, decide_eq_true n1]
        walk_at "a1ev"
        rw [show (D.tup [D.str a, D.str b]) = prD (a, b) from rfl, in_prs, decide_eq_false n2]
        walk_at "a1ev"
        rw [show (D.tup [D.str b, D.str a]) = prD (b, a) from rfl, in_prs, decide_eq_false n3]
        rfl
      · unfold B_check_pairs_1
        walk_at "a1ev"
        rw [cutD_take, ← List.map_take, flat_prs]
        walk_at "a1ev"
        rw [ev_are_two]
        by_cases n1 : Two ns (a, b)
        · rw [decide_eq_true n1]
          walk_at "a1ev"
          rw [show (D.tup [D.str a, D.str b]) = prD (a, b) from rfl, in_prs]
          by_cases n2 : (a, b) ∈ vs.take i
          · rw [decide_eq_true n2]
            rfl
          · have n3 : (b, a) ∈ vs.take i := (hb.resolve_left fun z => z n1).resolve_left n2
            rw [decide_eq_false n2]
            walk_at "a1ev"
            rw [show (D.tup [D.str b, D.str a]) = prD (b, a) from rfl, in_prs, decide_eq_true n3]
            rfl
        · rw [decide_eq_false n1]
          rfl) (ρ := [.dat false (sL ns), .dat false (pL vs), .no, .no, .no, .no]) ⟨_, _, _, _, rfl⟩
  have e1 : mEnum (maCons (mDat (mVar 1)) (mp [])) [.dat false (sL ns), .dat false (pL vs), .no, .no, .no, .no] = .ok (enD false 0 (vs.map prD)) [.dat false (sL ns), .dat false (pL vs), .no, .no, .no, .no] := rfl
  refine ⟨fun nb => runD_nx rfl ?_, fun x hb => runD_er rfl ?_⟩
  · obtain ⟨ρ', h1, _⟩ := loop.1 nb
    refine ⟨ρ', ?_⟩
    show sE (mEnum (maCons (mDat (mVar 1)) (mp []))) (fun its => forD _ _ its) [.dat false (sL ns), .dat false (pL vs), .no, .no, .no, .no] = _
    unfold sE
    rw [e1]
    exact h1
  · obtain ⟨ρ', h1⟩ := loop.2 x hb
    refine ⟨ρ', ?_⟩
    show sE (mEnum (maCons (mDat (mVar 1)) (mp []))) (fun its => forD _ _ its) [.dat false (sL ns), .dat false (pL vs), .no, .no, .no, .no] = _
    unfold sE
    rw [e1]
    exact h1
theorem atI_0 {α : Type} {a : α} {l : List α} : atI (a :: l) 0 = some a := by
  unfold atI ixN
  rw [if_pos (by decide), if_pos (by simp only [List.length_cons]; omega)]
  rfl
theorem atI_1 {α : Type} {a b : α} {l : List α} : atI (a :: b :: l) 1 = some b := by
  unfold atI ixN
  rw [if_pos (by decide), if_pos (by simp only [List.length_cons]; omega)]
  rfl
theorem atI_2 {α : Type} {a b c : α} {l : List α} : atI (a :: b :: c :: l) 2 = some c := by
  unfold atI ixN
  rw [if_pos (by decide), if_pos (by simp only [List.length_cons]; omega)]
  rfl
/-- a diagram -/
def diagN : List Str := ["_names", "_arrows", "_pairs"]
abbrev diag (ns : List Str) (ls vs : List Pr) : D := .obj "Diagram" diagN [sL ns, pL ls, pL vs]
theorem ev_init {ns : List Str} {ls vs : List Pr} (g : Good ns ls vs) (hx : ∀ x ∈ ns, x.length ≤ 1000) (h2 : ls.length ≤ 1000) (h3 : vs.length ≤ 1000) : D_Diagram_init [sL ns, pL ls, pL vs] = .ok diagN [sL ns, pL ls, pL vs] := by
  have hi := g.hi
  have e1 := (ev_check_things (by omega) hx).1 g.n ⟨g.lo, g.hi⟩
  have e2 := (ev_check_arrows (ns := ns) (by omega) h2).1 g.l
  have e3 := (ev_check_pairs (ns := ns) (by omega) h3).1 g.v
  unfold D_Diagram_init runI
  rw [if_pos (show [sL ns, pL ls, pL vs].length + 1 = 4 from rfl)]
  walk_at "a1ev"
  rw [e1]
  walk_at "a1ev"
  rw [e2]
  walk_at "a1ev"
  rw [e3]
  walk_at "a1ev"
  rfl
theorem fld_names {ns : List Str} {ls vs : List Pr} : fldD "Diagram" "_names" (diag ns ls vs) = some (sL ns) := rfl
theorem fld_arrows {ns : List Str} {ls vs : List Pr} : fldD "Diagram" "_arrows" (diag ns ls vs) = some (pL ls) := rfl
theorem fld_pairs {ns : List Str} {ls vs : List Pr} : fldD "Diagram" "_pairs" (diag ns ls vs) = some (pL vs) := rfl
theorem ev_made {ns : List Str} {ls vs : List Pr} (g : Good ns ls vs) (hx : ∀ x ∈ ns, x.length ≤ 1000) (h2 : ls.length ≤ 1000) (h3 : vs.length ≤ 1000) : D_law_made [.tup [sL ns, pL ls, pL vs]] = .ok true (diag ns ls vs) := by
  unfold D_law_made
  refine runD_ok (fr := true) rfl ?_
  have e := ev_init g hx h2 h3
  refine ⟨[.dat false (.tup [sL ns, pL ls, pL vs])], ?_⟩
  walk_at "a1ev"
  rw [atI_0]
  walk_at "a1ev"
  rw [atI_1]
  walk_at "a1ev"
  rw [atI_2]
  walk_at "a1ev"
  rw [e]
  rfl
theorem ev_names {ns : List Str} {ls vs : List Pr} : D_Diagram_names [diag ns ls vs] = .ok true (sL ns) := by
  have h := flat_strs ns
  unfold D_Diagram_names
  refine runD_ok (fr := true) rfl ⟨[.dat false (diag ns ls vs)], ?_⟩
  show sRet _ [.dat false (diag ns ls vs)] = _
  simp only [sRet, sE, mKeep, mOne, mListK, mE, mb, mFld, mLook, lookV, isSet, mp, mo, List.getElem?_cons_zero, if_true, fld_names, Option.map_some, flatD, Bool.false_or, h]
theorem ev_arrows {ns : List Str} {ls vs : List Pr} : D_Diagram_arrows [diag ns ls vs] = .ok true (pL ls) := by
  have h := flat_prs ls
  unfold D_Diagram_arrows
  refine runD_ok (fr := true) rfl ⟨[.dat false (diag ns ls vs)], ?_⟩
  show sRet _ [.dat false (diag ns ls vs)] = _
  simp only [sRet, sE, mKeep, mOne, mListK, mE, mb, mFld, mLook, lookV, isSet, mp, mo, List.getElem?_cons_zero, if_true, fld_arrows, Option.map_some, flatD, Bool.false_or, h]
theorem ev_pairs {ns : List Str} {ls vs : List Pr} : D_Diagram_pairs [diag ns ls vs] = .ok true (pL vs) := by
  have h := flat_prs vs
  unfold D_Diagram_pairs
  refine runD_ok (fr := true) rfl ⟨[.dat false (diag ns ls vs)], ?_⟩
  show sRet _ [.dat false (diag ns ls vs)] = _
  simp only [sRet, sE, mKeep, mOne, mListK, mE, mb, mFld, mLook, lookV, isSet, mp, mo, List.getElem?_cons_zero, if_true, fld_pairs, Option.map_some, flatD, Bool.false_or, h]
end F48
section F49
open PySem PySem.Spec PyProof.Rows L2 He Ds
/-! ### rules of reading, step by step -/
section
variable {ρ ρ1 ρ2 ρ3 : List Slot}
theorem k_mp {α : Type} {a : α} : mp a ρ = .ok a ρ := rfl
theorem k_E {m : M (Bool × D)} {a : Bool × D} (h : m ρ = .ok a ρ1) : mE m ρ = .ok (fun _ => some a) ρ1 := by
  unfold mE mb; rw [h]; rfl
theorem k_look {i : Nat} (h : (match ρ[i]? with | some s => isSet s | none => false) = true) : mLook i ρ = .ok (lookV i) ρ := by
  unfold mLook; exact if_pos h
theorem k_op {f : D → D → Option D} {ma mc : M Look} {fa fb : Look} {a b : Bool × D} {z : D} (h1 : ma ρ = .ok fa ρ1) (h2 : mc ρ1 = .ok fb ρ2) (h3 : fa ρ2 = some a) (h4 : fb ρ2 = some b) (h5 : f a.2 b.2 = some z) : mOp f ma mc ρ = .ok (true, z) ρ2 := by
  unfold mOp mb; rw [h1]; dsimp only; rw [h2]; dsimp only; rw [h3, h4]; dsimp only; rw [h5]
theorem k_un {f : D → Option D} {ma : M Look} {fa : Look} {a : Bool × D} {z : D} (h1 : ma ρ = .ok fa ρ1) (h3 : fa ρ1 = some a) (h5 : f a.2 = some z) : mUn f ma ρ = .ok (true, z) ρ1 := by
  unfold mUn mb; rw [h1]; dsimp only; rw [h3]; dsimp only; rw [h5]
theorem k_bin {β : Type} {f : Bool × D → Bool × D → M β} {ma mc : M Look} {fa fb : Look} {a b : Bool × D} {z : β} (h1 : ma ρ = .ok fa ρ1) (h2 : mc ρ1 = .ok fb ρ2) (h3 : fa ρ2 = some a) (h4 : fb ρ2 = some b) (h5 : f a b ρ2 = .ok z ρ3) : mBin f ma mc ρ = .ok z ρ3 := by
  unfold mBin mb; rw [h1]; dsimp only; rw [h2]; dsimp only; rw [h3, h4]; exact h5
theorem k_ixL {f g : Bool} {xs : List D} {i : Int} {d : D} (h : atI xs i = some d) : mIxL (f, .lst xs) (g, .int i) ρ = .ok (f || flatD d, d) ρ := by
  unfold mIxL; dsimp only; rw [h]; rfl
theorem k_one {β : Type} {f : Bool × D → M β} {ma : M Look} {fa : Look} {a : Bool × D} {z : β} (h1 : ma ρ = .ok fa ρ1) (h3 : fa ρ1 = some a) (h5 : f a ρ1 = .ok z ρ3) : mOne f ma ρ = .ok z ρ3 := by
  unfold mOne mb; rw [h1]; dsimp only; rw [h3]; exact h5
theorem k_dat {m : M (Bool × D)} {f : Bool} {d : D} (h : m ρ = .ok (f, d) ρ1) : mDat m ρ = .ok (.dat f d) ρ1 := by
  unfold mDat mb; rw [h]; rfl
theorem k_own {m : M (Bool × List D)} {f : Bool} {d : List D} (h : m ρ = .ok (f, d) ρ1) : mOwn m ρ = .ok (.own f d) ρ1 := by
  unfold mOwn mb; rw [h]; rfl
theorem k_keep {m : M (Bool × List D)} {f : Bool} {d : List D} (h : m ρ = .ok (f, d) ρ1) : mKeep m ρ = .ok (f, .lst d) ρ1 := by
  unfold mKeep mb; rw [h]; rfl
theorem k_cons {me : M Slot} {ma : M (List Slot)} {s : Slot} {ss : List Slot} (h1 : me ρ = .ok s ρ1) (h2 : ma ρ1 = .ok ss ρ2) : maCons me ma ρ = .ok (s :: ss) ρ2 := by
  unfold maCons mb; rw [h1]; dsimp only; rw [h2]; rfl
theorem k_tup {ma : M (List Slot)} {ss : List Slot} {f : Bool} {ds : List D} (h1 : ma ρ = .ok ss ρ1) (h2 : dats ss = some (f, ds)) (h3 : decide (ds.length ≤ 1000) = true) : mTup ma ρ = .ok (f, .tup ds) ρ1 := by
  unfold mTup mDats mb; rw [h1]; dsimp only; rw [h2]; dsimp only; rw [if_pos (of_decide_eq_true h3)]; rfl
theorem k_lst {ma : M (List Slot)} {ss : List Slot} {r : Bool × List D} (h1 : ma ρ = .ok ss ρ1) (h2 : dats ss = some r) (h3 : decide (r.2.length ≤ 1000) = true) : mLst ma ρ = .ok r ρ1 := by
  unfold mLst mDats mb; rw [h1]; dsimp only; rw [h2]; dsimp only; rw [if_pos (of_decide_eq_true h3)]; rfl
theorem k_rng {f : List D → Option (List (Bool × D))} {ma : M (List Slot)} {ss : List Slot} {r : Bool × List D} {its : List (Bool × D)} (h1 : ma ρ = .ok ss ρ1) (h2 : dats ss = some r) (h3 : f r.2 = some its) : mRng f ma ρ = .ok its ρ1 := by
  unfold mRng mDats mb; rw [h1]; dsimp only; rw [h2]; dsimp only; rw [h3]; rfl
theorem k_it {f : Bool × D → Option (List (Bool × D))} {m : M (Bool × D)} {a : Bool × D} {its : List (Bool × D)} (h1 : m ρ = .ok a ρ1) (h3 : f a = some its) : mIt f m ρ = .ok its ρ1 := by
  unfold mIt mb; rw [h1]; dsimp only; rw [h3]; rfl
theorem k_pool {i : Nat} {f : List Int → List D → OutP} {ma : M (List Slot)} {ss : List Slot} {r : Bool × List D} {ns ns' : List Int} {fr : Bool} {d : D} (h0 : hasPool i ρ = true) (h1 : ma ρ = .ok ss ρ1) (h2 : dats ss = some r) {a : Bool × D} (h3 : ρ1[i]? = some (.pool ns)) (h4 : f ns r.2 = .ok fr d ns') (h5 : (fr || flatD d, d) = a) (h6 : ρ1.set i (.pool ns') = ρ2) : mPool i f ma ρ = .ok a ρ2 := by
  subst h5 h6
  unfold mPool; rw [if_pos h0]; unfold mCallP mDats mb; rw [h1]; dsimp only; rw [h2]; dsimp only; rw [h3]; dsimp only; rw [h4]
theorem k_mut {i : Nat} {k : Bool → List D → Bool → List D → Option ((Bool × D) × (Bool × List D))} {ma : M (List Slot)} {ss : List Slot} {r : Bool × List D} {fr : Bool} {ds : List D} {a : Bool × D} {l : Bool × List D} (h0 : (getOwn i ρ).isSome = true) (h1 : ma ρ = .ok ss ρ1) (h2 : dats ss = some r) (h3 : getOwn i ρ1 = some (fr, ds)) (h4 : k r.1 r.2 fr ds = some (a, l)) (h5 : ρ1.set i (.own l.1 l.2) = ρ2) : mMut i ma k ρ = .ok a ρ2 := by
  subst h5
  unfold mMut; rw [if_pos h0]; unfold mDats mb; rw [h1]; dsimp only; rw [h2]; dsimp only; unfold onOwn; rw [h3]; dsimp only; rw [h4]
theorem k_T {m : M (Bool × D)} {a : Bool × D} {k : Bool} (h : m ρ = .ok a ρ1) (h2 : a.2 = .bl k) : mT m ρ = .ok k ρ1 := by
  obtain ⟨f, d⟩ := a
  dsimp only at h2
  subst h2
  unfold mT mb; rw [h]; rfl
theorem k_and {a b : M Bool} {k z : Bool} (h : a ρ = .ok k ρ1) (h2 : (if k = true then b else mp false) ρ1 = .ok z ρ2) : mAnd a b ρ = .ok z ρ2 := by
  unfold mAnd mb; rw [h]; exact h2
theorem k_or {a b : M Bool} {k z : Bool} (h : a ρ = .ok k ρ1) (h2 : (if k = true then mp true else b) ρ1 = .ok z ρ2) : mOr a b ρ = .ok z ρ2 := by
  unfold mOr mb; rw [h]; exact h2
theorem k_not {a : M Bool} {k : Bool} (h : a ρ = .ok k ρ1) : mNot a ρ = .ok (!k) ρ1 := by
  unfold mNot mb; rw [h]; rfl
theorem k_iteT {α : Type} {k : Bool} {a b : List Slot → α} {r : α} (h : k = true) (h2 : a ρ = r) : (if k = true then a else b) ρ = r := by rw [if_pos h]; exact h2
theorem k_iteF {α : Type} {k : Bool} {a b : List Slot → α} {r : α} (h : k = false) (h2 : b ρ = r) : (if k = true then a else b) ρ = r := by rw [if_neg (by rw [h]; decide)]; exact h2
theorem k_step2 {me ms : M (Bool × D)} {a s z : Bool × D} (h : me ρ = .ok a ρ1) (h2 : ms ρ1 = .ok s ρ2) (h3 : step2 a s.2 = some z) : mStep2 me ms ρ = .ok z ρ2 := by
  unfold mStep2 mb; rw [h]; dsimp only; rw [h2]; dsimp only; rw [h3]; rfl
theorem k_call {f : List D → Out} {ma : M (List Slot)} {ss : List Slot} {g : Bool} {ds : List D} {fr : Bool} {d : D} {a : Bool × D} (h1 : ma ρ = .ok ss ρ1) (h2 : dats ss = some (g, ds)) (h4 : f ds = .ok fr d) (h5 : (fr || flatD d, d) = a) : mCall f ma ρ = .ok a ρ1 := by
  subst h5
  unfold mCall mDats mb; rw [h1]; dsimp only; rw [h2]; dsimp only; rw [h4]
theorem k_callX {f : List D → Out} {ma : M (List Slot)} {ss : List Slot} {g : Bool} {ds : List D} {fr : Bool} {d : D} {a : Bool × D} (h1 : ma ρ = .ok ss ρ1) (h2 : dats ss = some (g, ds)) (h4 : f ds = .ok fr d) (h5 : (fr || flatD d, d) = a) : mCallX f ma ρ = .ok a ρ1 := by
  subst h5
  unfold mCallX mDats mb; rw [h1]; dsimp only; rw [h2]; dsimp only; rw [h4]
theorem k_prop {C : Str} {f : List D → Out} {m : M (Bool × D)} {g : Bool} {x : D} {fr : Bool} {d : D} {a : Bool × D} (h1 : m ρ = .ok (g, x) ρ1) (h2 : isObj C x = true) (h4 : f [x] = .ok fr d) (h5 : (fr || flatD d, d) = a) : mProp C f m ρ = .ok a ρ1 := by
  subst h5
  unfold mProp mb; rw [h1]; dsimp only; rw [if_pos h2, h4]; rfl
theorem k_makeX {C : Str} {f : List D → OutI} {ma : M (List Slot)} {ss : List Slot} {g : Bool} {ds : List D} {ns : List Str} {es : List D} (h1 : ma ρ = .ok ss ρ1) (h2 : dats ss = some (g, ds)) (h4 : f ds = .ok ns es) : mMakeX C f ma ρ = .ok (true, .obj C ns es) ρ1 := by
  unfold mMakeX mDats mb; rw [h1]; dsimp only; rw [h2]; dsimp only; rw [h4]; rfl
theorem k_catK {f g : Bool} {xs ys : List D} {z : Bool × List D} (h : decide (xs.length + ys.length ≤ 1000000) = true) (h2 : ((f || flatDs xs) && (g || flatDs ys), xs ++ ys) = z) : mCatK (f, .lst xs) (g, .lst ys) ρ = .ok z ρ := by
  subst h2
  unfold mCatK; dsimp only; rw [if_pos (of_decide_eq_true h)]; rfl
theorem k_enum {ma : M (List Slot)} {ss : List Slot} {g : Bool} {ds : List D} {its : List (Bool × D)} (h1 : ma ρ = .ok ss ρ1) (h2 : dats ss = some (g, ds)) (h4 : itEnum ds g = some its) : mEnum ma ρ = .ok its ρ1 := by
  unfold mEnum mDats mb; rw [h1]; dsimp only; rw [h2]; dsimp only; rw [h4]; rfl
theorem k_run {ρ : List Slot} {N n : Nat} {s : S} {ds : List D} {fr g : Bool} {d : D} (hn : ds.length = n) (h : s (initS N (ds.map (.dat false))) = .rt fr d ρ) (hf : (fr || flatD d) = g) : runD N n s ds = .ok g d := by
  subst hf
  unfold runD; rw [if_pos hn, h]
theorem k_runN {N n : Nat} {s : S} {ds : List D} (hn : ds.length = n) (h : s (initS N (ds.map (.dat false))) = .nx ρ) : runD N n s ds = .ok true .non := by
  unfold runD; rw [if_pos hn, h]
theorem k_runE {N n : Nat} {s : S} {ds : List D} {k : Str} {d : D} (hn : ds.length = n) (h : s (initS N (ds.map (.dat false))) = .er k d ρ) : runD N n s ds = .er k d := by
  unfold runD; rw [if_pos hn, h]
theorem k_compO {vs : List Nat} {j : Nat} {t : Tgt} {tt : M Bool} {te : M (Bool × D)} {fr : Bool} {ds : List D} {z : Bool × List D} (h : ρ[j]? = some (.own fr ds)) (h2 : compD vs t tt te (ρ.set j .no) (tagL fr ds) true [] (wipeS (ρ.set j .no) vs) = .ok z ρ1) (h3 : ρ1.set j (.own fr ds) = ρ2) : mCompO vs j t tt te ρ = .ok z ρ2 := by
  subst h3
  unfold mCompO; rw [h]; dsimp only; unfold hide; dsimp only; rw [h2]
theorem tag_true {α : Type} {e : α → D} {xs : List α} : tagL true (xs.map e) = xs.map fun x => (true, e x) := by
  unfold tagL; rw [List.map_map]; rfl
theorem toBls_map {α : Type} {p : α → Bool} : ∀ xs : List α, toBls (xs.map fun x => D.bl (p x)) = some (xs.map p)
  | [] => rfl
  | x :: xs => by rw [List.map_cons, toBls, toBls_map xs]; rfl
theorem any_bls {α : Type} {p : α → Bool} (xs : List α) : dAnyB (.lst (xs.map fun x => .bl (p x))) = some (.bl (xs.any p)) := by
  unfold dAnyB
  dsimp only
  rw [toBls_map xs, Option.map_some, List.any_map]
  rfl
theorem k_forC {t : Tgt} {b : S} {a : Bool × D} {as : List (Bool × D)} (h : t a ρ = some ρ1) (h2 : b ρ1 = .nx ρ2) : forD t b (a :: as) ρ = forD t b as ρ2 := by
  rw [forD, h]; dsimp only; rw [h2]
theorem k_mif {α : Type} {t : M Bool} {a b : M α} {k : Bool} {r : Res α} (h : t ρ = .ok k ρ1) (h2 : (if k = true then a else b) ρ1 = r) : mIf t a b ρ = r := by
  unfold mIf mb; rw [h]; exact h2
theorem k_callK {m : Nat} {ix : List Nat} {f : List D → Out} {ma : M (List Slot)} {ss : List Slot} {g : Bool} {ds : List D} {fr : Bool} {d : D} {a : Bool × D} (h1 : ma ρ = .ok ss ρ1) (h2 : dats ss = some (g, ds)) (h3 : decide (ds.length = m) = true) (h4 : f (pick ix ds) = .ok fr d) (h5 : (fr || flatD d, d) = a) : mCallK m ix f ma ρ = .ok a ρ1 := by
  subst h5
  unfold mCallK mDats mb; rw [h1]; dsimp only; rw [h2]; dsimp only; rw [if_pos (of_decide_eq_true h3), h4]; rfl
/-! statements -/
theorem k_set {i : Nat} {m : M (Bool × D)} {a : Bool × D} (h : m ρ = .ok a ρ1) (h2 : decide (i < ρ1.length) = true) (h3 : ρ1.set i (.dat a.1 a.2) = ρ2) : sSet i m ρ = .nx ρ2 := by
  subst h3
  unfold sSet sE; rw [h]; exact if_pos (of_decide_eq_true h2)
theorem k_setO {i : Nat} {m : M (Bool × List D)} {a : Bool × List D} (h : m ρ = .ok a ρ1) (h2 : decide (i < ρ1.length) = true) (h3 : ρ1.set i (.own a.1 a.2) = ρ2) : sSetO i m ρ = .nx ρ2 := by
  subst h3
  unfold sSetO sE; rw [h]; exact if_pos (of_decide_eq_true h2)
theorem k_seq {a b : S} {r : SRes} (h : a ρ = .nx ρ1) (h2 : b ρ1 = r) : sSeq a b ρ = r := by
  unfold sSeq; rw [h]; exact h2
theorem k_drop {m : M (Bool × D)} {a : Bool × D} (h : m ρ = .ok a ρ1) : sDrop m ρ = .nx ρ1 := by
  unfold sDrop sE; rw [h]
theorem k_if {t : M Bool} {a b : S} {k : Bool} {r : SRes} (h : t ρ = .ok k ρ1) (h2 : (if k = true then a else b) ρ1 = r) : sIf t a b ρ = r := by
  unfold sIf sE; rw [h]; exact h2
theorem k_ret {m : M (Bool × D)} {f : Bool} {d : D} (h : m ρ = .ok (f, d) ρ1) : sRet m ρ = .rt f d ρ1 := by
  unfold sRet sE; rw [h]
theorem k_par {is : List Nat} {ma : M (List Slot)} {ss : List Slot} (h : ma ρ = .ok ss ρ1) (h2 : setAll is ss ρ1 = some ρ2) : sPar is ma ρ = .nx ρ2 := by
  unfold sPar sE; rw [h]; dsimp only; rw [h2]
theorem k_for {mi : M (List (Bool × D))} {t : Tgt} {b : S} {its : List (Bool × D)} {r : SRes} (h : mi ρ = .ok its ρ1) (h2 : forD t b its ρ1 = r) : sFor mi t b ρ = r := by
  unfold sFor sE; rw [h]; exact h2
theorem k_comp {vs : List Nat} {mi : M (List (Bool × D))} {t : Tgt} {tt : M Bool} {te : M (Bool × D)} {its : List (Bool × D)} {z : Bool × List D} (h : mi ρ = .ok its ρ1) (h2 : compD vs t tt te ρ1 its true [] (wipeS ρ1 vs) = .ok z ρ2) : mComp vs mi t tt te ρ = .ok z ρ2 := by
  unfold mComp mb; rw [h]; exact h2
end
end F49
section F50
open PySem PySem.Spec PyProof.Rows L2 He Ds
/-! ### rules of reading, whose answers are found step by step -/
section
variable {ρ ρ1 ρ2 ρ3 ρ4 : List Slot}
def Args (ma : M (List Slot)) (ρ : List Slot) (g : Bool) (ds : List D) (ρ1 : List Slot) : Prop := ∃ ss, ma ρ = .ok ss ρ1 ∧ dats ss = some (g, ds)
theorem a_nil : Args (mp []) ρ true [] ρ := ⟨[], rfl, rfl⟩
theorem a_cons {m : M (Bool × D)} {ma : M (List Slot)} {f g : Bool} {d : D} {ds : List D} (h : m ρ = .ok (f, d) ρ1) (h2 : Args ma ρ1 g ds ρ2) : Args (maCons (mDat m) ma) ρ ((f || flatD d) && g) (d :: ds) ρ2 := by
  obtain ⟨ss, e1, e2⟩ := h2
  refine ⟨.dat f d :: ss, k_cons (k_dat h) e1, ?_⟩
  rw [dats, e2]; rfl
theorem a_consF {m : M (Bool × D)} {ma : M (List Slot)} {f f' g g' : Bool} {d : D} {ds : List D} (h : m ρ = .ok (f, d) ρ1) (h2 : Args ma ρ1 g ds ρ2) (hf : (f || flatD d) = f') (hg : (f' && g) = g') : Args (maCons (mDat m) ma) ρ g' (d :: ds) ρ2 := by
  subst hf hg
  exact a_cons h h2
theorem j_call {f : List D → Out} {ma : M (List Slot)} {g : Bool} {ds : List D} {d : D} (h : Args ma ρ g ds ρ1) (h4 : f ds = .ok true d) : mCall f ma ρ = .ok (true, d) ρ1 := by
  obtain ⟨ss, e1, e2⟩ := h
  exact k_call e1 e2 h4 rfl
theorem j_callX {f : List D → Out} {ma : M (List Slot)} {g : Bool} {ds : List D} {d : D} (h : Args ma ρ g ds ρ1) (h4 : f ds = .ok true d) : mCallX f ma ρ = .ok (true, d) ρ1 := by
  obtain ⟨ss, e1, e2⟩ := h
  exact k_callX e1 e2 h4 rfl
theorem j_callK {m : Nat} {ix : List Nat} {f : List D → Out} {ma : M (List Slot)} {g : Bool} {ds es : List D} {d : D} (h : Args ma ρ g ds ρ1) (h3 : decide (ds.length = m) = true) (h5 : pick ix ds = es) (h4 : f es = .ok true d) : mCallK m ix f ma ρ = .ok (true, d) ρ1 := by
  subst h5
  obtain ⟨ss, e1, e2⟩ := h
  exact k_callK e1 e2 h3 h4 rfl
theorem j_prop {C : Str} {f : List D → Out} {m : M (Bool × D)} {g : Bool} {x d : D} (h1 : m ρ = .ok (g, x) ρ1) (h2 : isObj C x = true) (h4 : f [x] = .ok true d) : mProp C f m ρ = .ok (true, d) ρ1 := k_prop h1 h2 h4 rfl
theorem j_poolC {f : List Int → List D → OutP} {ma : M (List Slot)} {g : Bool} {ds : List D} {d : D} {ns ns' : List Int} (h : Args ma ρ g ds ρ1) (h0 : ρ[0]? = some (.pool ns)) (h3 : ρ1[0]? = some (.pool ns)) (h4 : f ns ds = .ok true d ns') (h5 : ρ1.set 0 (.pool ns') = ρ2) : mPool 0 f ma ρ = .ok (true, d) ρ2 := by
  obtain ⟨ss, e1, e2⟩ := h
  exact k_pool (by unfold hasPool; rw [h0]) e1 e2 h3 h4 rfl h5
theorem j_makeX {C : Str} {f : List D → OutI} {ma : M (List Slot)} {g : Bool} {ds : List D} {ns : List Str} {es : List D} (h : Args ma ρ g ds ρ1) (h4 : f ds = .ok ns es) : mMakeX C f ma ρ = .ok (true, .obj C ns es) ρ1 := by
  obtain ⟨ss, e1, e2⟩ := h
  exact k_makeX e1 e2 h4
theorem j_mp {α : Type} {a : α} : mp a ρ = .ok a ρ := rfl
theorem j_var {i : Nat} {f : Bool} {d : D} (h : ρ[i]? = some (.dat f d)) : mVar i ρ = .ok (f, d) ρ := by unfold mVar; rw [h]
theorem j_retO {i : Nat} {ds : List D} (h : ρ[i]? = some (.own true ds)) (h2 : ρ.set i (.dat true (.lst ds)) = ρ1) : mRetV i ρ = .ok (true, .lst ds) ρ1 := by subst h2; unfold mRetV; rw [h]; rfl
theorem j_E {m : M (Bool × D)} {f : Bool} {d : D} (h : m ρ = .ok (f, d) ρ1) : mE m ρ = .ok (fun _ => some (f, d)) ρ1 := k_E h
theorem j_op {f : D → D → Option D} {ma mc : M Look} {fa fb : Look} {f1 f2 : Bool} {d1 d2 z : D} (h1 : ma ρ = .ok fa ρ1) (h2 : mc ρ1 = .ok fb ρ2) (h3 : fa ρ2 = some (f1, d1)) (h4 : fb ρ2 = some (f2, d2)) (h5 : f d1 d2 = some z) : mOp f ma mc ρ = .ok (true, z) ρ2 := k_op h1 h2 h3 h4 h5
theorem j_un {f : D → Option D} {ma : M Look} {fa : Look} {f1 : Bool} {d1 z : D} (h1 : ma ρ = .ok fa ρ1) (h3 : fa ρ1 = some (f1, d1)) (h5 : f d1 = some z) : mUn f ma ρ = .ok (true, z) ρ1 := k_un h1 h3 h5
theorem j_ixL {ma mc : M Look} {fa fb : Look} {f1 f2 f' : Bool} {xs : List D} {i : Int} {d : D} (h1 : ma ρ = .ok fa ρ1) (h2 : mc ρ1 = .ok fb ρ2) (h3 : fa ρ2 = some (f1, .lst xs)) (h4 : fb ρ2 = some (f2, .int i)) (h5 : atI xs i = some d) (h6 : (f1 || flatD d) = f') : mBin mIxL ma mc ρ = .ok (f', d) ρ2 := by
  have := k_bin h1 h2 h3 h4 (k_ixL (f := f1) (g := f2) (ρ := ρ2) h5)
  rwa [h6] at this
theorem k_ixT {f g : Bool} {xs : List D} {i : Int} {d : D} (h : atI xs i = some d) : mIxT (f, .tup xs) (g, .int i) ρ = .ok (f || flatD d, d) ρ := by
  unfold mIxT; dsimp only; rw [h]; rfl
theorem j_ixT {ma mc : M Look} {fa fb : Look} {f1 f2 f' : Bool} {xs : List D} {i : Int} {d : D} (h1 : ma ρ = .ok fa ρ1) (h2 : mc ρ1 = .ok fb ρ2) (h3 : fa ρ2 = some (f1, .tup xs)) (h4 : fb ρ2 = some (f2, .int i)) (h5 : atI xs i = some d) (h6 : (f1 || flatD d) = f') : mBin mIxT ma mc ρ = .ok (f', d) ρ2 := by
  have := k_bin h1 h2 h3 h4 (k_ixT (f := f1) (g := f2) (ρ := ρ2) h5)
  rwa [h6] at this
theorem j_list {m : M Look} {fa : Look} {f f' : Bool} {xs : List D} (h1 : m ρ = .ok fa ρ1) (h2 : fa ρ1 = some (f, .lst xs)) (h3 : (f || flatDs xs) = f') : mOne mListK m ρ = .ok (f', xs) ρ1 := by
  refine k_one h1 h2 ?_
  unfold mListK; dsimp only; rw [h3]; rfl
theorem j_listT {m : M Look} {fa : Look} {f f' : Bool} {xs : List D} (h1 : m ρ = .ok fa ρ1) (h2 : fa ρ1 = some (f, .tup xs)) (h3 : (f || flatDs xs) = f') : mOne mListK m ρ = .ok (f', xs) ρ1 := by
  refine k_one h1 h2 ?_
  unfold mListK; dsimp only; rw [h3]; rfl
theorem m1_str {x : Str} : [D.str x] = [x].map D.str := rfl
theorem m1_strs {x : List Str} : [D.lst (x.map D.str)] = [x].map sL := rfl
theorem j_lst1 {m : M (Bool × D)} {d : D} {f f' : Bool} {ds : List D} (h : m ρ = .ok (f, d) ρ1) (hf : (f || flatD d) = f') (hd : [d] = ds) : mLst (maCons (mDat m) (mp [])) ρ = .ok (f', ds) ρ1 := by
  subst hd hf
  obtain ⟨ss, e1, e2⟩ := a_cons h a_nil
  refine (k_lst e1 e2 rfl).trans ?_
  rw [Bool.and_true]
theorem j_lst {ma : M (List Slot)} {g : Bool} {ds : List D} (h : Args ma ρ g ds ρ1) (h2 : ds.length ≤ 1000) : mLst ma ρ = .ok (g, ds) ρ1 := by
  obtain ⟨ss, e1, e2⟩ := h
  exact k_lst e1 e2 (decide_eq_true h2)
theorem j_tup {ma : M (List Slot)} {g : Bool} {ds : List D} (h : Args ma ρ g ds ρ1) (h2 : ds.length ≤ 1000) : mTup ma ρ = .ok (g, .tup ds) ρ1 := by
  obtain ⟨ss, e1, e2⟩ := h
  exact k_tup e1 e2 (decide_eq_true h2)
theorem j_keep {m : M (Bool × List D)} {f : Bool} {d : List D} (h : m ρ = .ok (f, d) ρ1) : mKeep m ρ = .ok (f, .lst d) ρ1 := k_keep h
theorem j_T {m : M (Bool × D)} {f k : Bool} (h : m ρ = .ok (f, .bl k) ρ1) : mT m ρ = .ok k ρ1 := k_T h rfl
theorem j_and {a b : M Bool} {k z : Bool} (h : a ρ = .ok k ρ) (h2 : b ρ = .ok z ρ) : mAnd a b ρ = .ok (k && z) ρ := by
  refine k_and h ?_
  cases k with
  | true => rw [if_pos rfl, h2]; rfl
  | false => rfl
theorem j_or {a b : M Bool} {k z : Bool} (h : a ρ = .ok k ρ) (h2 : b ρ = .ok z ρ) : mOr a b ρ = .ok (k || z) ρ := by
  refine k_or h ?_
  cases k with
  | false => rw [if_neg (by decide), h2]; rfl
  | true => rfl
theorem j_not {a : M Bool} {k : Bool} (h : a ρ = .ok k ρ1) : mNot a ρ = .ok (!k) ρ1 := k_not h
theorem j_slL {m : M Look} {fa : Look} {ml mh : M (Option Int)} {lo hi : Option Int} {f : Bool} {xs : List D} (h1 : m ρ = .ok fa ρ1) (h2 : ml ρ1 = .ok lo ρ2) (h3 : mh ρ2 = .ok hi ρ3) (h4 : fa ρ3 = some (f, .lst xs)) (h5 : (f || flatDs xs) = true) {ys : List D} (h6 : cutD xs lo hi = ys) : mSl mSlL m ml mh ρ = .ok (true, ys) ρ3 := by
  subst h6
  unfold mSl mb; rw [h1]; dsimp only; rw [h2]; dsimp only; rw [h3]; dsimp only; rw [h4]; dsimp only
  unfold mSlL; dsimp only; rw [h5]; rfl
theorem j_part {m : M (Bool × D)} {f : Bool} {i : Int} (h : m ρ = .ok (f, .int i) ρ1) : mPart m ρ = .ok (some i) ρ1 := by
  unfold mPart mb; rw [h]; rfl
/-! what is walked -/
theorem j_it {k : Bool × D → Option (List (Bool × D))} {m : M (Bool × D)} {f : Bool} {d : D} {its : List (Bool × D)} (h1 : m ρ = .ok (f, d) ρ1) (h3 : k (f, d) = some its) : mIt k m ρ = .ok its ρ1 := k_it h1 h3
theorem it_strs {f : Bool} {xs : List Str} : itList (f, .lst (xs.map D.str)) = some (xs.map fun x => (true, D.str x)) := by
  rw [← tag_sL f]; rfl
theorem it_prs {f : Bool} {xs : List Pr} : itList (f, .lst (xs.map prD)) = some (xs.map fun x => (true, prD x)) := by
  rw [← tag_pL f]; rfl
theorem it_T {α : Type} {e : α → D} {xs : List α} : itList (true, .lst (xs.map e)) = some (xs.map fun x => (true, e x)) := by
  rw [← tag_true]; rfl
theorem j_rng {ma : M (List Slot)} {g : Bool} {ds : List D} {its : List (Bool × D)} {f : List D → Option (List (Bool × D))} (h : Args ma ρ g ds ρ1) (h3 : f ds = some its) : mRng f ma ρ = .ok its ρ1 := by
  obtain ⟨ss, e1, e2⟩ := h
  exact k_rng e1 e2 h3
theorem j_enum {ma : M (List Slot)} {g : Bool} {ds : List D} {its : List (Bool × D)} (h : Args ma ρ g ds ρ1) (h4 : itEnum ds g = some its) : mEnum ma ρ = .ok its ρ1 := by
  obtain ⟨ss, e1, e2⟩ := h
  exact k_enum e1 e2 h4
theorem en_map {α : Type} {e : α → D} {f : Bool} : ∀ {xs : List α} {i : Nat}, (∀ x ∈ xs, (f || flatD (e x)) = true) → enD f i (xs.map e) = (xs.zipIdx i).map fun p => (true, .tup [.int (p.2 : Nat), e p.1])
  | [], _, _ => rfl
  | x :: xs, i, h => by
    rw [List.map_cons, enD, en_map (fun y hy => h y (List.mem_cons_of_mem _ hy)), List.zipIdx_cons, List.map_cons, h x List.mem_cons_self]
theorem it_en {α : Type} {e : α → D} {f : Bool} {xs : List α} (h : ∀ x ∈ xs, (f || flatD (e x)) = true) : itEnum [.lst (xs.map e)] f = some ((xs.zipIdx).map fun p => (true, .tup [.int (p.2 : Nat), e p.1])) := by
  show some (enD f 0 (xs.map e)) = _
  rw [en_map h]
/-! comprehensions -/
theorem j_compA {α : Type} {e : α → Bool × D} {xs : List α} {g : α → D} {r : α → List Slot} {vs : List Nat} {mi : M (List (Bool × D))} {t : Tgt} {te : M (Bool × D)} (h1 : mi ρ = .ok (xs.map e) ρ1) (hl : xs.length ≤ 100000) {ρw : List Slot} (hw : wipeS ρ1 vs = ρw) (ht : ∀ a ∈ xs, t (e a) ρw = some (r a)) (hg : ∀ a ∈ xs, te (r a) = .ok (true, g a) (r a)) (hr : ∀ a ∈ xs, wipeS (r a) vs = ρw) (hu : unw ρ1 vs ρw = ρ2) : mComp vs mi t (mp true) te ρ = .ok (true, xs.map g) ρ2 := by
  subst hw hu
  refine k_comp h1 ?_
  refine (comp_map (p := fun _ => true) (g := g) (fun a ha => ⟨r a, ht a ha, rfl, fun _ => hg a ha, hr a ha⟩) hl).trans ?_
  rw [List.filter_eq_self.mpr (fun _ _ => rfl)]
theorem j_comp {α : Type} {e : α → Bool × D} {xs : List α} {p : α → Bool} {g : α → D} {r : α → List Slot} {vs : List Nat} {mi : M (List (Bool × D))} {t : Tgt} {tt : M Bool} {te : M (Bool × D)} (h1 : mi ρ = .ok (xs.map e) ρ1) (hl : xs.length ≤ 100000) {ρw : List Slot} (hw : wipeS ρ1 vs = ρw) (ht : ∀ a ∈ xs, t (e a) ρw = some (r a)) (hp : ∀ a ∈ xs, tt (r a) = .ok (p a) (r a)) (hg : ∀ a ∈ xs, te (r a) = .ok (true, g a) (r a)) (hr : ∀ a ∈ xs, wipeS (r a) vs = ρw) (hu : unw ρ1 vs ρw = ρ2) : mComp vs mi t tt te ρ = .ok (true, (xs.filter p).map g) ρ2 := by
  subst hw hu
  refine k_comp h1 ?_
  exact comp_map (p := p) (g := g) (fun a ha => ⟨r a, ht a ha, hp a ha, fun _ => hg a ha, hr a ha⟩) hl
theorem j_compO {α : Type} {e : α → D} {xs : List α} {p : α → Bool} {g : α → D} {r : α → List Slot} {vs : List Nat} {j : Nat} {t : Tgt} {tt : M Bool} {te : M (Bool × D)} (h1 : ρ[j]? = some (.own true (xs.map e))) (hl : xs.length ≤ 100000) {ρw : List Slot} (hw : wipeS (ρ.set j .no) vs = ρw) (ht : ∀ a ∈ xs, t (true, e a) ρw = some (r a)) (hp : ∀ a ∈ xs, tt (r a) = .ok (p a) (r a)) (hg : ∀ a ∈ xs, te (r a) = .ok (true, g a) (r a)) (hr : ∀ a ∈ xs, wipeS (r a) vs = ρw) {ρu : List Slot} (hu : unw (ρ.set j .no) vs ρw = ρu) (h3 : ρu.set j (.own true (xs.map e)) = ρ2) : mCompO vs j t tt te ρ = .ok (true, (xs.filter p).map g) ρ2 := by
  subst hw hu
  refine k_compO h1 ?_ h3
  rw [tag_true]
  exact comp_map (p := p) (g := g) (fun a ha => ⟨r a, ht a ha, hp a ha, fun _ => hg a ha, hr a ha⟩) hl
theorem inner_map {β : Type} {e : β → Bool × D} {vs : List Nat} {t : Tgt} {tt : M Bool} {te : M (Bool × D)} {ρw : List Slot} {p : β → Bool} {g : β → D} {r : β → List Slot} : ∀ {ys : List β} {acc : List D},
    (∀ b ∈ ys, t (e b) ρw = some (r b) ∧ tt (r b) = .ok (p b) (r b) ∧ te (r b) = .ok (true, g b) (r b) ∧ wipeS (r b) vs = ρw) → acc.length + ys.length ≤ 100000 →
    innerD vs t tt te (ys.map e) true acc ρw = .ok (true, acc ++ (ys.filter p).map g) ρw
  | [], acc, _, _ => by simp [innerD]
  | b :: ys, acc, h, hl => by
    obtain ⟨h1, h2, h3, h4⟩ := h b List.mem_cons_self
    rw [List.length_cons] at hl
    rw [List.map_cons, innerD, h1]
    dsimp only
    rw [h2]
    cases q : p b with
    | false =>
      dsimp only
      rw [h4, inner_map (fun c hc => h c (List.mem_cons_of_mem _ hc)) (by omega)]
      simp [q]
    | true =>
      dsimp only
      rw [h3]
      dsimp only
      rw [if_pos (by omega), h4, Bool.true_or, Bool.and_true, inner_map (fun c hc => h c (List.mem_cons_of_mem _ hc)) (by rw [List.length_append]; simp; omega)]
      simp [q]
theorem j_comp2 {α β : Type} {e : α → Bool × D} {xs : List α} {p : α → Bool} {r : α → List Slot} {ys : α → List β} {e1 : α → β → Bool × D} {p1 : α → β → Bool} {g : α → β → D} {rw1 : α → List Slot} {r1 : α → β → List Slot} {vs vs1 : List Nat} {mi mi1 : M (List (Bool × D))} {t t1 : Tgt} {tt tt1 : M Bool} {te : M (Bool × D)}
    (h1 : mi ρ = .ok (xs.map e) ρ1) {ρw : List Slot} (hw : wipeS ρ1 vs = ρw) (ht : ∀ a ∈ xs, t (e a) ρw = some (r a)) (hp : ∀ a ∈ xs, tt (r a) = .ok (p a) (r a)) (hi : ∀ a ∈ xs, mi1 (r a) = .ok ((ys a).map (e1 a)) (r a)) (hw1 : ∀ a ∈ xs, wipeS (r a) vs1 = rw1 a)
    (ht1 : ∀ a ∈ xs, ∀ b ∈ ys a, t1 (e1 a b) (rw1 a) = some (r1 a b)) (hp1 : ∀ a ∈ xs, ∀ b ∈ ys a, tt1 (r1 a b) = .ok (p1 a b) (r1 a b)) (hg : ∀ a ∈ xs, ∀ b ∈ ys a, te (r1 a b) = .ok (true, g a b) (r1 a b)) (hr1 : ∀ a ∈ xs, ∀ b ∈ ys a, wipeS (r1 a b) vs1 = rw1 a) (hr : ∀ a ∈ xs, wipeS (rw1 a) vs = ρw) (hr0 : ∀ a ∈ xs, wipeS (r a) vs = ρw) (hu : unw ρ1 vs ρw = ρ2) (hl : (xs.map fun a => (ys a).length).sum ≤ 100000) :
    mComp2 vs mi t tt vs1 mi1 t1 tt1 te ρ = .ok (true, (xs.filter p).flatMap fun a => ((ys a).filter (p1 a)).map (g a)) ρ2 := by
  subst hw hu
  unfold mComp2 mb
  rw [h1]
  dsimp only
  have gen : ∀ {zs : List α} {acc : List D}, (∀ a ∈ zs, a ∈ xs) → acc.length + (zs.map fun a => (ys a).length).sum ≤ 100000 →
      comp2D vs t tt vs1 mi1 t1 tt1 te ρ1 (zs.map e) true acc (wipeS ρ1 vs) = .ok (true, acc ++ (zs.filter p).flatMap fun a => ((ys a).filter (p1 a)).map (g a)) (unw ρ1 vs (wipeS ρ1 vs)) := by
    intro zs
    induction zs with
    | nil => intro acc _ _; simp [comp2D]
    | cons a zs ih =>
      intro acc hm hz
      have ha := hm a List.mem_cons_self
      rw [List.map_cons, List.sum_cons] at hz
      rw [List.map_cons, comp2D, ht a ha]
      dsimp only
      rw [hp a ha]
      cases q : p a with
      | false =>
        dsimp only
        rw [hr0 a ha, ih (fun b hb => hm b (List.mem_cons_of_mem _ hb)) (by omega)]
        simp [q]
      | true =>
        dsimp only
        rw [hi a ha]
        dsimp only
        rw [hw1 a ha, inner_map (fun b hb => ⟨ht1 a ha b hb, hp1 a ha b hb, hg a ha b hb, hr1 a ha b hb⟩) (by omega)]
        dsimp only
        have hf := List.length_filter_le (p1 a) (ys a)
        rw [hr a ha, ih (fun b hb => hm b (List.mem_cons_of_mem _ hb)) (by rw [List.length_append, List.length_map]; omega)]
        simp [q]
  have := gen (zs := xs) (acc := []) (fun _ h => h) (by simpa using hl)
  simpa using this
/-! statements -/
theorem j_set {i : Nat} {m : M (Bool × D)} {f : Bool} {d : D} (h : m ρ = .ok (f, d) ρ1) (h2 : decide (i < ρ1.length) = true) (h3 : ρ1.set i (.dat f d) = ρ2) : sSet i m ρ = .nx ρ2 := k_set h h2 h3
theorem j_setO {i : Nat} {m : M (Bool × List D)} {f : Bool} {ds : List D} (h : m ρ = .ok (f, ds) ρ1) (h2 : decide (i < ρ1.length) = true) (h3 : ρ1.set i (.own f ds) = ρ2) : sSetO i m ρ = .nx ρ2 := k_setO h h2 h3
def seqK (r : SRes) (b : S) : SRes := match r with
  | .nx ρ' => b ρ'
  | r => r
theorem j_seq {a b : S} {r1 r : SRes} (h : a ρ = r1) (h2 : seqK r1 b = r) : sSeq a b ρ = r := by
  subst h h2; rfl
theorem j_seqN {b : S} {r : SRes} (h : b ρ = r) : seqK (.nx ρ) b = r := h
theorem j_seqR {b : S} {f : Bool} {d : D} : seqK (.rt f d ρ) b = .rt f d ρ := rfl
theorem j_drop {m : M (Bool × D)} {a : Bool × D} (h : m ρ = .ok a ρ1) : sDrop m ρ = .nx ρ1 := k_drop h
theorem j_if {t : M Bool} {a b : S} {k : Bool} {r : SRes} (h : t ρ = .ok k ρ1) (h2 : (if k = true then a else b) ρ1 = r) : sIf t a b ρ = r := k_if h h2
theorem j_ret {m : M (Bool × D)} {f : Bool} {d : D} (h : m ρ = .ok (f, d) ρ1) : sRet m ρ = .rt f d ρ1 := k_ret h
theorem j_nil : sNil ρ = .nx ρ := rfl
theorem j_raise {k : Str} {ma : M (List Slot)} {g : Bool} {d : D} (h : Args ma ρ g [d] ρ1) : sRaise k ma ρ = .er k d ρ1 := by
  obtain ⟨ss, e1, e2⟩ := h
  unfold sRaise sE; rw [e1]; dsimp only; rw [e2]
def goInit : List D → Nat → List Slot
  | [], 0 => []
  | [], n + 1 => .no :: goInit [] n
  | d :: ds, 0 => .dat false d :: goInit ds 0
  | d :: ds, n + 1 => .dat false d :: goInit ds n
theorem goInit_nil : ∀ n : Nat, goInit [] n = List.replicate n .no
  | 0 => by rw [goInit]; rfl
  | n + 1 => by rw [goInit, goInit_nil n]; rfl
theorem goInit_eq : ∀ (ds : List D) (N : Nat), goInit ds N = ds.map (.dat false) ++ List.replicate (N - ds.length) .no
  | [], N => by rw [goInit_nil]; simp
  | d :: ds, 0 => by rw [goInit, goInit_eq ds 0]; simp
  | d :: ds, N + 1 => by rw [goInit, goInit_eq ds N]; simp
theorem initS_go {ds : List D} {N : Nat} {r : List Slot} (h : goInit ds N = r) : initS N (ds.map (.dat false)) = r := by
  subst h
  rw [goInit_eq, initS, List.length_map]
theorem initP_go {ds : List D} {N : Nat} {r : List Slot} {ns : List Int} (h : goInit ds N = r) : initS (N + 1) (.pool ns :: ds.map (.dat false)) = .pool ns :: r := by
  subst h
  rw [goInit_eq, initS, List.length_cons, List.length_map, Nat.add_sub_add_right]
  rfl
theorem go_d {d : D} {ds : List D} {n : Nat} : goInit (d :: ds) (n + 1) = .dat false d :: goInit ds n := by rw [goInit]
theorem go_n {n : Nat} : goInit [] (n + 1) = .no :: goInit [] n := by rw [goInit]
theorem go_0 : goInit [] 0 = [] := by rw [goInit]
theorem j_run {N n : Nat} {s : S} {ds : List D} {f : Bool} {d d' : D} {ρ0 : List Slot} (hn : ds.length = n) (h0 : goInit ds N = ρ0) (h : s ρ0 = .rt f d' ρ) (hf : (f || flatD d') = true) (hd : d' = d) : runD N n s ds = .ok true d := by
  subst hd
  exact k_run hn ((congrArg s (initS_go h0)).trans h) hf
theorem j_runN {N n : Nat} {s : S} {ds : List D} {ρ0 : List Slot} (hn : ds.length = n) (h0 : goInit ds N = ρ0) (h : s ρ0 = .nx ρ) : runD N n s ds = .ok true .non :=
  k_runN hn ((congrArg s (initS_go h0)).trans h)
theorem j_runE {N n : Nat} {s : S} {ds : List D} {k : Str} {d d' : D} {ρ0 : List Slot} (hn : ds.length = n) (h0 : goInit ds N = ρ0) (h : s ρ0 = .er k d' ρ) (hd : d' = d) : runD N n s ds = .er k d := by
  subst hd
  exact k_runE hn ((congrArg s (initS_go h0)).trans h)
theorem j_runP {N n : Nat} {s : S} {ds : List D} {f : Bool} {d d' : D} {ρ0 : List Slot} {ns ns' : List Int} (hn : ds.length + 1 = n) (h0 : goInit ds N = ρ0) (h : s (.pool ns :: ρ0) = .rt f d' (.pool ns' :: ρ)) (hf : (f || flatD d') = true) (hd : d' = d) : runP (N + 1) n s ns ds = .ok true d ns' := by
  subst hd
  unfold runP; rw [if_pos hn, initP_go h0, h]; dsimp only; rw [hf]
theorem j_pnil : mp ([] : List Slot) ρ = .ok [] ρ := rfl
theorem j_pcD {m : M (Bool × D)} {ma : M (List Slot)} {f : Bool} {d : D} {ss : List Slot} (h : m ρ = .ok (f, d) ρ1) (h2 : ma ρ1 = .ok ss ρ2) : maCons (mDat m) ma ρ = .ok (.dat f d :: ss) ρ2 := k_cons (k_dat h) h2
theorem j_pcO {m : M (Bool × List D)} {ma : M (List Slot)} {f : Bool} {d : List D} {ss : List Slot} (h : m ρ = .ok (f, d) ρ1) (h2 : ma ρ1 = .ok ss ρ2) : maCons (mOwn m) ma ρ = .ok (.own f d :: ss) ρ2 := k_cons (k_own h) h2
theorem sa_nil : setAll [] [] ρ = some ρ := rfl
theorem sa_cons {i : Nat} {is : List Nat} {s : Slot} {ss : List Slot} (h : decide (i < ρ.length) = true) (h2 : ρ.set i s = ρ1) (h3 : setAll is ss ρ1 = some ρ2) : setAll (i :: is) (s :: ss) ρ = some ρ2 := by
  subst h2
  rw [setAll, if_pos (of_decide_eq_true h)]; exact h3
theorem j_par {is : List Nat} {ma : M (List Slot)} {ss : List Slot} (h : ma ρ = .ok ss ρ1) (h2 : setAll is ss ρ1 = some ρ2) : sPar is ma ρ = .nx ρ2 := k_par h h2
theorem j_asg {t : Tgt} {m : M (Bool × D)} {f : Bool} {d : D} (h : m ρ = .ok (f, d) ρ1) (h2 : t (f, d) ρ1 = some ρ2) : sAsg t m ρ = .nx ρ2 := by
  unfold sAsg sE; rw [h]; dsimp only; rw [h2]
theorem map_snoc {α : Type} {e : α → D} {xs : List α} {x : α} : xs.map e ++ [e x] = (xs ++ [x]).map e := by rw [List.map_append]; rfl
theorem j_appM {α : Type} {e : α → D} {xs : List α} {x : α} {i : Nat} {ma : M (List Slot)} {g : Bool} (h0 : ρ[i]? = some (.own true (xs.map e))) (h : Args ma ρ g [e x] ρ1) (h3 : ρ1[i]? = some (.own true (xs.map e))) (hg : g = true) (hl : xs.length < 100000) (h5 : ρ1.set i (.own true ((xs ++ [x]).map e)) = ρ2) : mMut i ma kAppend ρ = .ok (true, .non) ρ2 := by
  subst hg
  obtain ⟨ss, e1, e2⟩ := h
  refine k_mut (fr := true) (ds := xs.map e) (l := (true, (xs ++ [x]).map e)) ?_ e1 e2 ?_ ?_ h5
  · unfold getOwn; rw [h0]; rfl
  · unfold getOwn; rw [h3]
  · unfold kAppend; dsimp only; rw [if_pos (by rw [List.length_map]; exact hl), map_snoc]; rfl
/-! targets, what a comprehension hides -/
theorem tg_name {i : Nat} {f : Bool} {d : D} {r : List Slot} (h : decide (i < ρ.length) = true) (h2 : ρ.set i (.dat f d) = r) : tgName i (f, d) ρ = some r := by
  subst h2; unfold tgName; exact if_pos (of_decide_eq_true h)
theorem tg_tup2 {t1 t2 : Tgt} {x y : D} (h1 : t1 (true, x) ρ = some ρ1) (h2 : t2 (true, y) ρ1 = some ρ2) : tgTup 2 (tgsCons t1 (tgsCons t2 tgsNil)) (true, .tup [x, y]) ρ = some ρ2 := by
  unfold tgTup; dsimp only; refine (if_pos rfl).trans ?_; unfold tgsCons; dsimp only; rw [Bool.true_or, h1]; dsimp only [Option.bind_some]; rw [Bool.true_or, h2]; rfl
theorem tg_tup3 {t1 t2 t3 : Tgt} {x y z : D} (h1 : t1 (true, x) ρ = some ρ1) (h2 : t2 (true, y) ρ1 = some ρ2) (h3 : t3 (true, z) ρ2 = some ρ3) : tgTup 3 (tgsCons t1 (tgsCons t2 (tgsCons t3 tgsNil))) (true, .tup [x, y, z]) ρ = some ρ3 := by
  unfold tgTup; dsimp only; refine (if_pos rfl).trans ?_; unfold tgsCons; dsimp only; rw [Bool.true_or, h1]; dsimp only [Option.bind_some]; rw [Bool.true_or, h2]; dsimp only [Option.bind_some]; rw [Bool.true_or, h3]; rfl
theorem o_cut {α : Type} {e : α → D} {xs : List α} {i : Nat} : cutD (xs.map e) none (some (i : Int)) = (xs.take i).map e := by rw [cutD_take, List.map_take]
/-- a walk that ends at the first item that is so -/
theorem for_check {α : Type} {e : α → Bool × D} {t : Tgt} {b : S} {xs : List α} {mk : α → List Slot → SRes} (hm : ∀ x ρ, (∀ s, mk x ρ ≠ .nx s) ∧ (∀ s, mk x ρ ≠ .ct s) ∧ ∀ s, mk x ρ ≠ .bk s) (I : List Slot → Prop) (B : List α → α → Prop)
    (hs : ∀ i x ρ, xs[i]? = some x → I ρ → ∃ ρ1, t (e x) ρ = some ρ1 ∧ (¬ B (xs.take i) x → ∃ ρ2, b ρ1 = .nx ρ2 ∧ I ρ2) ∧ (B (xs.take i) x → ∃ ρ2, b ρ1 = mk x ρ2)) {ρ : List Slot} (h0 : I ρ) :
    (NoBad B xs → ∃ ρ', forD t b (xs.map e) ρ = .nx ρ' ∧ I ρ') ∧ ∀ x, FirstBad B xs x → ∃ ρ', forD t b (xs.map e) ρ = mk x ρ' := by
  refine ⟨fun nb => ?_, fun x hx => ?_⟩
  · obtain ⟨ρ', h1, h2⟩ := for_inv (t := t) (b := b) (fun _ ρ => I ρ) (its := xs.map e) (k := 0) (ρ := ρ) h0 fun i a ρ ha hI => by
      obtain ⟨x, hx, rfl⟩ := map_get ha
      obtain ⟨ρ1, h1, h2, _⟩ := hs i x ρ hx hI
      obtain ⟨ρ2, h3, h4⟩ := h2 (nb i x hx)
      exact ⟨ρ1, ρ2, h1, h3, h4⟩
    exact ⟨ρ', h1, h2⟩
  · obtain ⟨n, hn, hb, hnb⟩ := hx
    have e0 : (xs.map e)[n]? = some (e x) := by rw [List.getElem?_map, hn]; rfl
    exact for_exit (fun _ ρ => I ρ) (fun r => ∃ ρ', r = mk x ρ') (fun s ⟨_, z⟩ => (hm x _).1 s z.symm) (fun s ⟨_, z⟩ => (hm x _).2.1 s z.symm) (fun s ⟨_, z⟩ => (hm x _).2.2 s z.symm) (k := 0) e0 h0
      (fun i a ρ hi ha hI => by
        obtain ⟨y, hy, rfl⟩ := map_get ha
        obtain ⟨ρ1, h1, h2, _⟩ := hs i y ρ hy hI
        obtain ⟨ρ2, h3, h4⟩ := h2 (hnb i y hi hy)
        exact ⟨ρ1, ρ2, h1, h3, h4⟩)
      (fun ρ hI => by
        obtain ⟨ρ1, h1, _, h3⟩ := hs n x ρ hn hI
        exact ⟨ρ1, h1, h3 hb⟩)
theorem mk_er {α : Type} {k : Str} {ed : α → D} (x : α) (ρ : List Slot) : (∀ s, (SRes.er k (ed x) ρ) ≠ .nx s) ∧ (∀ s, (SRes.er k (ed x) ρ) ≠ .ct s) ∧ ∀ s, (SRes.er k (ed x) ρ) ≠ .bk s := ⟨fun _ z => (nomatch z), fun _ z => (nomatch z), fun _ z => (nomatch z)⟩
theorem mk_rt {α : Type} {f : α → Bool} {ed : α → D} (x : α) (ρ : List Slot) : (∀ s, (SRes.rt (f x) (ed x) ρ) ≠ .nx s) ∧ (∀ s, (SRes.rt (f x) (ed x) ρ) ≠ .ct s) ∧ ∀ s, (SRes.rt (f x) (ed x) ρ) ≠ .bk s := ⟨fun _ z => (nomatch z), fun _ z => (nomatch z), fun _ z => (nomatch z)⟩
/-! operators of texts and numbers -/
theorem o_in {x : Str} {xs : List Str} : dIn (.str x) (.lst (xs.map D.str)) = some (.bl (decide (x ∈ xs))) := in_strs x xs
theorem o_nin {x : Str} {xs : List Str} : dNotIn (.str x) (.lst (xs.map D.str)) = some (.bl (!decide (x ∈ xs))) := notIn_strs x xs
abbrev iL (xs : List Int) : D := .lst (xs.map D.int)
theorem toPys_ints : ∀ xs : List Int, toPys (xs.map D.int) = some (xs.map PyData.int)
  | [] => rfl
  | x :: xs => by simp [toPys, toPy, toPys_ints xs]
theorem depth_ints : ∀ xs : List Int, PyData.depthAll (xs.map PyData.int) ≤ 1
  | [] => by simp [PyData.depthAll]
  | x :: xs => by
    have := depth_ints xs
    rw [List.map_cons]
    simp only [PyData.depthAll, PyData.depth]
    omega
theorem dAny_ints (x : Int) (xs : List Int) : dAny (.int x) (iL xs) = some (decide (x ∈ xs)) := by
  unfold dAny
  simp only [toPy, toPys_ints]
  have h := depth_ints xs
  rw [if_pos ⟨by simp [PyData.depth], by simp only [PyData.depth]; omega⟩]
  congr 1
  induction xs with
  | nil => rfl
  | cons y ys ih =>
    rw [List.map_cons, List.any_cons, ih (by have := depth_ints ys; omega)]
    by_cases e : x = y
    · subst e; simp [PyData.eqv]
    · have e2 : ¬ y = x := fun z => e z.symm
      simp [PyData.eqv, e, e2]
theorem o_ninI {x : Int} {xs : List Int} : dNotIn (.int x) (.lst (xs.map D.int)) = some (.bl (!decide (x ∈ xs))) := by unfold dNotIn; rw [dAny_ints]; rfl
theorem eqvAll_ints : ∀ xs ys : List Int, PyData.eqvAll (xs.map PyData.int) (ys.map PyData.int) = decide (xs = ys)
  | [], [] => by simp [PyData.eqvAll]
  | [], y :: ys => by simp [PyData.eqvAll]
  | x :: xs, [] => by simp [PyData.eqvAll]
  | x :: xs, y :: ys => by
    rw [List.map_cons, List.map_cons, PyData.eqvAll, eqvAll_ints xs ys, eqv_int]
    by_cases h : x = y
    · subst h; simp
    · simp [h]
theorem dEqv_ints (xs ys : List Int) : dEqv (iL xs) (iL ys) = some (decide (xs = ys)) := by
  have d1 : ∀ zs : List Int, (PyData.list (zs.map PyData.int)).depth ≤ 60 := fun zs => by
    have := depth_ints zs
    simp only [PyData.depth]; omega
  have tp : ∀ zs : List Int, toPy (iL zs) = some (.list (zs.map PyData.int)) := fun zs => by
    show (toPys _).map _ = _
    rw [toPys_ints]; rfl
  rw [dEqv_mk (tp xs) (tp ys) (d1 xs) (d1 ys), PyData.eqv, eqvAll_ints]
theorem o_eqI {x y : List Int} : dEq (.lst (x.map D.int)) (.lst (y.map D.int)) = some (.bl (decide (x = y))) := by unfold dEq; rw [dEqv_ints]; rfl
theorem o_eqi {x y : Int} : dEq (.int x) (.int y) = some (.bl (decide (x = y))) := eq_int x y
theorem o_nei {x y : Int} : dNe (.int x) (.int y) = some (.bl (!decide (x = y))) := ne_int x y
theorem o_eqL {x y : List Str} : dEq (.lst (x.map D.str)) (.lst (y.map D.str)) = some (.bl (decide (x = y))) := eq_strs x y
theorem o_neL {x y : List Str} : dNe (.lst (x.map D.str)) (.lst (y.map D.str)) = some (.bl (!decide (x = y))) := ne_strs x y
theorem o_neL0 {x : List Str} : dNe (.lst (x.map D.str)) (.lst []) = some (.bl (!decide (x = []))) := ne_strs x []
theorem o_eqLL0 {x : List (List Str)} : dEq (.lst (x.map sL)) (.lst []) = some (.bl (decide (x = []))) := eq_strss x []
theorem o_len {α : Type} {e : α → D} {xs : List α} : dLen (.lst (xs.map e)) = some (.int (xs.length : Nat)) := by
  show some (D.int ((xs.map e).length : Nat)) = _
  rw [List.length_map]
theorem o_isN {d : D} : dIsN d .non = some (.bl (isNon d)) := rfl
theorem o_add {x y : Int} : dAdd (.int x) (.int y) = some (.int (x + y)) := rfl
theorem o_neg {i : Int} : dNeg (.int i) = some (.int (-i)) := rfl
theorem o_at0 {α : Type} {e : α → D} {x : α} {xs : List α} : atI ((x :: xs).map e) 0 = some (e x) := atI_nat (j := 0) rfl
theorem o_last {α : Type} {e : α → D} {x : α} {xs : List α} : atI ((xs ++ [x]).map e) (-1) = some (e x) := by
  unfold atI
  have h1 : ixN ((xs ++ [x]).map e).length (-1) = some xs.length := by
    rw [List.length_map, List.length_append, List.length_singleton]
    unfold ixN
    rw [if_neg (by omega), if_pos (by omega)]
    congr 1
    omega
  rw [h1]
  show ((xs ++ [x]).map e)[xs.length]? = _
  rw [List.getElem?_map]
  simp
end
end F50
end Da
section F51
/-! What is a list or a tuple. -/
namespace Ds
open PySem PySem.Spec PyProof.Rows L2
end Ds
namespace Da
open PySem PySem.Spec PyProof.Rows L2 He Ds
abbrev tL (xs : List Str) : D := .tup (xs.map D.str)
section
variable [Tabl]
variable {K : PySem.W.Frag} {W : WX} {c : Cc} {G G' H : Hp} {σ : L2.St} {ρ : List Slot} {T : List En}
def itAny (a : Bool × D) : Option (List (Bool × D)) := match a.2 with
  | .lst ds => some (tagL a.1 ds)
  | .tup ds => some (tagL a.1 ds)
  | _ => none
/-! x in a list or a tuple of plain ones -/
def dAnyA (a b : D) : Option Bool := match toV a, b with
  | some x, .tup bs => (toVs bs).map fun ys => inV x ys
  | some x, .lst bs => (toVs bs).map fun ys => inV x ys
  | _, _ => none
def dInA (a b : D) : Option D := (dAnyA a b).map .bl
def dNotInA (a b : D) : Option D := (dAnyA a b).map fun z => .bl (!z)
theorem s_anyA {neg : Bool} : OpS K (rIn K neg) fun a b => (dAnyA a b).map fun z => .bl (if neg then !z else z) := by
  intro c G H f1 f2 x y a b d Q hK ia ib e q
  subst hK
  obtain ⟨z, hz, rfl⟩ := omap e
  unfold dAnyA at hz
  split at hz
  · rename_i u bs e1
    obtain ⟨us, e2, rfl⟩ := omap hz
    obtain ⟨rfl, h1⟩ := toV_eq ia.1 e1
    obtain ⟨p, vs, rfl, h2, h3⟩ := ib.2
    obtain ⟨rfl, h4⟩ := toVs_eq h3 e2
    exact ⟨p, vs, rfl, .inr h2, h1, h4, q _ (.bl _)⟩
  · rename_i u bs e1
    obtain ⟨us, e2, rfl⟩ := omap hz
    obtain ⟨rfl, h1⟩ := toV_eq ia.1 e1
    obtain ⟨p, vs, rfl, h2, h3⟩ := ib.2
    obtain ⟨rfl, h4⟩ := toVs_eq h3 e2
    exact ⟨p, vs, rfl, .inl (SqL.of h2), h1, h4, q _ (.bl _)⟩
  · cases hz
theorem s_inA : OpS K (rIn K false) dInA := s_anyA (neg := false)
theorem s_notInA : OpS K (rIn K true) dNotInA := s_anyA (neg := true)
end
theorem toVs_strs : ∀ xs : List Str, toVs (xs.map D.str) = some (xs.map V.str)
  | [] => rfl
  | x :: xs => by rw [List.map_cons, toVs, toVs_strs xs]; rfl
theorem inV_strs {x : Str} {xs : List Str} : inV (.str x) (xs.map V.str) = decide (x ∈ xs) := by
  unfold inV
  rw [Bool.eq_iff_iff, List.any_eq_true, decide_eq_true_eq]
  constructor
  · rintro ⟨y, hy, e⟩
    obtain ⟨z, hz, rfl⟩ := List.mem_map.mp hy
    have : z = x := by simpa [eqV] using e
    exact this ▸ hz
  · exact fun h => ⟨.str x, List.mem_map.mpr ⟨x, h, rfl⟩, by simp [eqV]⟩
theorem o_inA {x : Str} {xs : List Str} : dInA (.str x) (.lst (xs.map D.str)) = some (.bl (decide (x ∈ xs))) := by
  unfold dInA dAnyA; simp only [toV, toVs_strs, Option.map_some, inV_strs]
theorem o_inAT {x : Str} {xs : List Str} : dInA (.str x) (.tup (xs.map D.str)) = some (.bl (decide (x ∈ xs))) := by
  unfold dInA dAnyA; simp only [toV, toVs_strs, Option.map_some, inV_strs]
theorem itA_strs {f : Bool} {xs : List Str} : itAny (f, .lst (xs.map D.str)) = some (xs.map fun x => (true, D.str x)) := it_strs
theorem itA_tups {f : Bool} {xs : List Str} : itAny (f, .tup (xs.map D.str)) = some (xs.map fun x => (true, D.str x)) := it_strs
/-- these texts, in a list or a tuple -/
def SeqD (gv : D) (given : List Str) : Prop := gv = sL given ∨ gv = tL given
theorem SeqD.it {gv : D} {given : List Str} (h : SeqD gv given) {f : Bool} : itAny (f, gv) = some (given.map fun x => (true, D.str x)) := by
  rcases h with rfl | rfl
  · exact itA_strs
  · exact itA_tups
theorem SeqD.inn {gv : D} {given : List Str} (h : SeqD gv given) {x : Str} : dInA (.str x) gv = some (.bl (decide (x ∈ given))) := by
  rcases h with rfl | rfl
  · exact o_inA
  · exact o_inAT
end Da
end F51
section F52
/-! Dicts of the call's own whose keys are tuples of ints and texts. -/
namespace Da
open PySem PySem.Spec PyProof.Rows L2 He Ds
variable [Tabl]
section
variable {K : PySem.W.Frag} {W : WX} {c : Cc} {G G' H : Hp} {σ : L2.St} {ρ : List Slot} {T : List En}
def getT (ks : List (List Key)) (ds : List D) (k : List Key) : Option D := ((ks.zip ds).find? fun p => decide (p.1 = k)).map (·.2)
end
end Da
end F52
section F53
/-! Dicts with tuples as keys, looked at; dicts of own lists (setdefault .. append); dicts by pairs of a text and a bool. -/
namespace Da
open PySem PySem.Spec PyProof.Rows L2 He Ds
variable [Tabl]
/-! ### d.setdefault(k, e), k a tuple -/
section
variable {X : Cx} {pins : List (Addr × Obj)} {σ : L2.St} {H : Hp} {s : Shared} {a b : Addr} {r : Value} {d : V} {k : List Key} {A : Around} {E : Value → Shared → Prop}
end
section
variable {X : Cx} {o e f : Expr} {td ty tx : TE} {apos cpos : Pos}
end
section
variable {K : PySem.W.Frag} {W : WX} {c : Cc} {G G' H H' : Hp} {σ : L2.St} {ρ ρ1 ρ2 ρ3 : List Slot} {T : List En}
/-! ### d[k], d.get(k, e) of what is only looked at -/
/-! ### pairs of a text and a bool as keys -/
end
end Da
end F53
section F54
/-! Own lists that stand in a dict of the call's own: d.setdefault(k, []).append(v). -/
namespace Da
open PySem PySem.Spec PyProof.Rows L2 He Ds
variable [Tabl]
section
variable {K : PySem.W.Frag} {W : WX} {c : Cc} {G G' H H' : Hp} {σ : L2.St} {ρ ρ1 ρ2 ρ3 : List Slot} {T : List En}
theorem InL.len {fr : Bool} : ∀ {as : List Addr} {dss : List (List D)}, InL c G H fr as dss → as.length = dss.length
  | _, _, .nil => rfl
  | _, _, .cons _ _ _ _ t => by rw [List.length_cons, List.length_cons, t.len]
theorem InL.get {fr : Bool} : ∀ {as : List Addr} {dss : List (List D)} {j : Nat} {a : Addr}, InL c G H fr as dss → as[j]? = some a → ∃ vs ds, dss[j]? = some ds ∧ c.H0 a = none ∧ G a = none ∧ H a = some (.lst vs) ∧ DrA c.K G (Fl c fr) vs ds
  | _, _, _, _, .nil, e => by simp at e
  | _, _, 0, _, .cons h0 g h d _, e => by
    simp at e
    subst e
    exact ⟨_, _, rfl, h0, g, h, d⟩
  | _, _, j + 1, _, .cons _ _ _ _ t, e => by
    obtain ⟨vs, ds, h1, h2⟩ := t.get (j := j) (by simpa using e)
    exact ⟨vs, ds, by simpa using h1, h2⟩
theorem InL.set {fr : Bool} {a : Addr} {vs : List V} {ds : List D} (ha : H' a = some (.lst vs)) (hd : DrA c.K G (Fl c fr) vs ds) (k : ∀ b, b ≠ a → (H b ≠ none) → H' b = H b) : ∀ {as : List Addr} {dss : List (List D)} {j : Nat}, InL c G H fr as dss → as.Nodup → as[j]? = some a → InL c G H' fr as (dss.set j ds)
  | _, _, _, .nil, _, e => by simp at e
  | _, _, 0, .cons h0 g h d t, n, e => by
    simp at e
    subst e
    have n' := (List.nodup_cons.mp n).1
    exact .cons h0 g ha hd (t.keep (Same.refl G) fun b hb => ⟨k b (fun z => n' (z ▸ hb)) (t.mem hb).2.2, rfl⟩)
  | _, _, j + 1, .cons (a := a0) (as := as0) h0 g h d t, n, e => by
    have e' : as0[j]? = some a := by simpa using e
    have n' := List.nodup_cons.mp n
    have : a0 ≠ a := fun z => n'.1 (z ▸ List.mem_of_getElem? e')
    exact .cons h0 g (by rw [k a0 this (by rw [h]; intro z; cases z), h]) d (t.set ha hd k n'.2 e')
theorem InL.append {fr : Bool} : ∀ {as bs : List Addr} {dss ess : List (List D)}, InL c G H fr as dss → InL c G H fr bs ess → InL c G H fr (as ++ bs) (dss ++ ess)
  | _, _, _, _, .nil, t => t
  | _, _, _, _, .cons h0 g h d s, t => .cons h0 g h d (s.append t)
/-! ### such a thing is not changed any more -/
end
end Da
end F54
section F55
namespace Da
open PySem PySem.Spec PyProof.Rows L2 He Ds
/-! What the laws of barred things have in common (printed by tools/gen2.py). -/
end Da
end F55
section F56
/-! A list taken apart: a, b, c = some. -/
namespace Da
open PySem PySem.Spec PyProof.Rows L2 He Ds
variable [Tabl]
section
variable {X : Cx} {K : PySem.W.Frag} {es : List Expr} {pos : Pos}
end
end Da
end F56
section F57
/-! The place of a thing in a list that an expression shows. -/
namespace Da
open PySem PySem.Spec PyProof.Rows L2 He Ds
variable [Tabl]
section
variable {K : PySem.W.Frag} {W : WX}
end
end Da
end F57
section F58
/-! A result that is changed within an if, the last of a block. -/
namespace Da
open PySem PySem.Spec PyProof.Rows L2 He Ds
section
variable {K : PySem.W.Frag} {W : WX}
end
end Da
end F58
section F59
/-! x = [f(..), y]: looked at, what f gave changed by a loop and an append, x looked at no more. -/
namespace Da
open PySem PySem.Spec PyProof.Rows L2 He Ds
def MutOkL (K : PySem.W.Frag) (i j : Nat) (mu : D → Bool) (tm w : L2.TS) : Prop :=
  ∀ (G H : Hp) (Fr : Addr → Prop) (σ : L2.St) (q : Addr) (v1 v2 : V) (d : D) (E : Ends), j < σ.length → σ[i]? = some (some (.ref q)) → H q = some (.lst [v1, v2]) → Dr K G (fun b => Fr b ∧ b ≠ q) v1 d → Same G H → mu d = true →
    (∀ o H', (∀ b, ¬ Fr b → H b ≠ none → H' b = H b) → w E (σ.set j o) H') → tm E σ H
open Classical in
noncomputable def sScrL (i j : Nat) (f : List D → Out) (ma : M (List Slot)) (m2 : M (Bool × D)) (rd : RD) (mu : D → Bool) (rest : S) : S := fun ρ => match ma ρ with
  | .ok ss ρ0 => (match dats ss with
    | some r => (match f r.2 with
      | .ok true d => (match m2 ρ0 with
        | .ok (true, d2) ρ1 => if ρ1 = ρ0 ∧ (∀ s ∈ ρ0, plainS s = true) ∧ i < ρ0.length ∧ j < ρ0.length ∧ mu d = true then
          (match rd (ρ0.set i (.dat true (.lst [d, d2]))) with
          | .stay => rest ((ρ0.set i .no).set j .no)
          | .out r => (match isNx r with | true => .no | false => r)
          | .no => .no) else .no
        | _ => .no)
      | _ => .no)
    | none => .no)
  | _ => .no
section
variable {K : PySem.W.Frag} {W : WX}
theorem rel_set {c : Cc} {G H : Hp} {σ : L2.St} {ρ : List Slot} {j : Nat} {o : Option V} (hl : σ.length = ρ.length) (hj : j < ρ.length) (R : Rel c G H (σ.zip ρ ++ [])) : Rel c G H ((σ.set j o).zip (ρ.set j .no) ++ []) := by
  have e : (σ.zip ρ)[j]? = some (σ[j]'(by omega), ρ[j]) := by rw [List.getElem?_zip_eq_some]; exact ⟨List.getElem?_eq_getElem _, List.getElem?_eq_getElem _⟩
  exact Rel.back hl (by omega) ((R.out e).tail.no (o := o))
theorem ds_scrL {i j : Nat} {f : List D → Out} {ta : TA} {te2 : TE} {ma : M (List Slot)} {m2 : M (Bool × D)} {u w tm tX : L2.TS} {rd : RD} {rest : S} {mu : D → Bool} (ha : DA K W ta ma) (h2 : DE K W te2 m2) (hr : DRd K W u rd) (hw : DS K W w rest) (hm : MutOkL K i j mu tm w)
    (hX : ∀ E σ H, tSeq u tm E σ H → tX E σ H) : DS K W (tSeq (tAsg (tLst (tCons (tCall (spD K f) [] E0 ta) (tCons te2 tNil))) (gName i)) tX) (sScrL i j f ma m2 rd mu rest) := by
  intro c G H σ ρ E hK hl R p
  subst hK
  have hset : ∀ {v : V} {ρ0 : List Slot}, σ.length = ρ0.length → i < ρ0.length → (σ.set i (some v))[i]? = some (some v) := fun h1 h2 => List.getElem?_set_self (by omega)
  show ta σ H fun vs H1 => spD c.K f (vs ++ []) H1 (fun x H2 => te2 σ H2 fun y H3 => [x, y].length ≤ sizeLine ∧ ∀ q, H3 q = none → tX E (σ.set i (some (.ref q))) (upd H3 q (.lst [x, y]))) E0
  refine ha c G H σ ρ [] _ rfl hl R ?_
  unfold sScrL at p
  cases e : ma ρ with
  | no => rw [e] at p; exact p
  | er k d ρ' => rw [e] at p; exact p.elim
  | ok ss ρ0 =>
    rw [e] at p
    dsimp only at p
    intro hl0 G1 H1 R1 s1 vs hv R2
    cases e2 : dats ss with
    | none => rw [e2] at p; exact p.elim
    | some r =>
      rw [e2] at p
      dsimp only at p
      obtain ⟨hd, _⟩ := dats_ok R2 hv (show dats ss = some (r.1, r.2) from e2)
      rw [List.append_nil]
      refine ⟨G1, r.2, R1.gs, R1.tb, hd.top, ?_⟩
      cases e3 : f r.2 with
      | no => rw [e3] at p; exact p.elim
      | er k d => rw [e3] at p; exact p.elim
      | ok fr d =>
        rw [e3] at p
        cases fr with
        | false => exact p.elim
        | true =>
          dsimp only at p ⊢
          intro v G' H' sH tb sG gs gg h
          have R3 : Rel c G' H' (σ.zip ρ0 ++ []) := R1.growO sH tb sG gs gg
          have R5 : Rel c G' H' (σ.zip ρ0 ++ [(some v, .dat true d)]) := (R3.dat (h.mono (Same.refl G') fun a k z => R1.g0n (k z))).perm (by rw [List.append_nil]; exact List.perm_append_singleton _ _)
          refine h2 c G' H' σ ρ0 [(some v, .dat true d)] _ rfl hl0 R5 ?_
          cases e5 : m2 ρ0 with
          | no => rw [e5] at p; exact p
          | er k d ρ' => rw [e5] at p; exact p.elim
          | ok gd ρ1 =>
            obtain ⟨g, d2⟩ := gd
            rw [e5] at p
            cases g with
            | false => exact p.elim
            | true =>
              dsimp only at p
              split at p
              case isFalse => exact p.elim
              case isTrue hc =>
                obtain ⟨rfl, pl, hi, hj, hmu⟩ := hc
                intro hl1 G2 H2 R6 s6 y dy
                refine ⟨by show 2 ≤ sizeLine; decide, fun q nq => hX _ _ _ ?_⟩
                have R7 : Rel c G2 H2 (σ.zip ρ1 ++ []) := R6.subl (by rw [List.append_nil]; exact List.sublist_append_left _ _)
                have sq : Same G2 (upd G2 q (.lst [v, y])) := same_new (Same.refl G2) (R7.gn nq)
                have hv2 : Dr c.K G2 (fun a => true = true → G1 a = none) v d := h.up s6
                have dl : Dr c.K (upd G2 q (.lst [v, y])) (Fl c true) (.ref q) (.lst [d, d2]) := .lst upd_same (fun _ => R7.g0n (R7.gn nq)) (.cons ((hv2.mono (Same.refl G2) fun a k z => R1.g0n (k z)).up sq) (.cons (dy.up sq) .nil))
                have R8 : Rel c (upd G2 q (.lst [v, y])) (upd H2 q (.lst [v, y])) ((σ.set i (some (.ref q))).zip (ρ1.set i (.dat true (.lst [d, d2]))) ++ []) := Rel.put hl0 hi ((R7.new nq).dat dl)
                have hl4 : (σ.set i (some (V.ref q))).length = (ρ1.set i (.dat true (.lst [d, d2]))).length := by rw [List.length_set, List.length_set]; exact hl0
                show u { E with nx := tm E } (σ.set i (some (.ref q))) (upd H2 q (.lst [v, y]))
                refine hr c _ _ _ _ _ rfl hl4 R8 ?_
                cases e4 : rd (ρ1.set i (.dat true (.lst [d, d2]))) with
                | no => rw [e4] at p; exact p
                | out r =>
                  rw [e4] at p
                  dsimp only at p ⊢
                  cases z : isNx r with
                  | true => rw [z] at p; exact p.elim
                  | false =>
                    rw [z] at p
                    refine ⟨rfl, spo_nx z ?_⟩
                    rw [List.length_set]
                    exact SPo.later (SPo.later (SPo.later (SPo.later p s1) sG) s6) sq
                | stay =>
                  rw [e4] at p
                  intro G4 H4 R9 s9
                  have dr : Dr c.K G4 (fun b => H1 b = none ∧ b ≠ q) v d := by
                    refine Dr.up (Dr.up (Dr.up (Dr.inG (fun a fa ga => ⟨?_, fun z => ?_⟩) h) s6) sq) s9
                    · cases z : H1 a with
                      | none => rfl
                      | some o => exact absurd ((gg a (by rw [z]; intro z; cases z)).trans (fa rfl)) ga
                    · subst z
                      cases z2 : G' a with
                      | none => exact ga z2
                      | some o =>
                        have := R7.gs _ _ (s6 _ _ z2)
                        rw [nq] at this
                        cases this
                  refine hm G4 H4 (fun b => H1 b = none) _ q v y d E (by rw [List.length_set]; omega) (hset hl0 hi) (R9.gs _ _ (s9 _ _ upd_same)) dr R9.gs hmu fun o H5 k => ?_
                  refine hw c G1 H5 _ ((ρ1.set i .no).set j .no) E rfl (by rw [List.length_set, List.length_set, List.length_set, List.length_set]; exact hl0) (rel_set (by rw [List.length_set, List.length_set]; exact hl0) (by rw [List.length_set]; exact hj) (Rel.scr hl0 hi R1 pl R9 (((sG.trans s6).trans sq).trans s9) fun b h1 h2 => k b (fun z => h1 z) h2)) ?_
                  rw [List.length_set, List.length_set]
                  exact SPo.later p s1
theorem k_scrL {i j : Nat} {f : List D → Out} {ma : M (List Slot)} {m2 : M (Bool × D)} {rd : RD} {rest : S} {mu : D → Bool} {ρ ρ0 ρ1 ρ2 : List Slot} {ss : List Slot} {g : Bool} {ds : List D} {d d2 : D} {r : SRes} (h1 : ma ρ = .ok ss ρ0) (h2 : dats ss = some (g, ds)) (h3 : f ds = .ok true d) (h4 : m2 ρ0 = .ok (true, d2) ρ0)
    (h5 : ∀ s ∈ ρ0, plainS s = true) (h6 : decide (i < ρ0.length ∧ j < ρ0.length) = true) (h7 : mu d = true) (e1 : ρ0.set i (.dat true (.lst [d, d2])) = ρ1) (h8 : rd ρ1 = .stay) (e2 : (ρ0.set i .no).set j .no = ρ2) (h9 : rest ρ2 = r) : sScrL i j f ma m2 rd mu rest ρ = r := by
  subst e1 e2
  unfold sScrL
  rw [h1]; dsimp only; rw [h2]; dsimp only; rw [h3]; dsimp only; rw [h4]; dsimp only
  have h6 := of_decide_eq_true h6
  rw [if_pos ⟨rfl, h5, h6.1, h6.2, h7⟩, h8]; exact h9
/-! for s in x[0]: s.append(v); x[0].append([]) -/
def mu_for (d : D) : Bool := match d with
  | .lst ds => decide (ds.length < 1000) && ds.all fun x => match x with
    | .lst ys => decide (ys.length < 1000) && ys.all fun y => match y with
      | .int _ => true
      | _ => false
    | _ => false
  | _ => false
theorem mut_for {i j : Nat} {v : V} {w : L2.TS} (hij : i ≠ j) : MutOkL K i j mu_for
    (tSeq (tFor (iList K (tOp (rIxL K) (tVar i) (tC (.int 0)))) (gName j) (tDrop (tBM K "list" rAppend (tVar j) (tCons (tC v) tNil)))) (tSeq (tDrop (tBM K "list" rAppend (tOp (rIxL K) (tVar i) (tC (.int 0))) (tCons (tLst tNil) tNil))) w)) w := by
  intro G H Fr σ q v1 v2 d E hj hσ hq dr gs hmu k
  unfold mu_for at hmu
  split at hmu
  · rename_i ds
    rw [Bool.and_eq_true] at hmu
    have z1 := of_decide_eq_true hmu.1
    cases dr with
    | lst ea fa t =>
      rename_i a xs
      have l1 := t.len
      have ha := gs _ _ ea
      -- each item is a list of ints, elsewhere
      have it : ∀ (m : Nat) (x : V), xs[m]? = some x → ∃ b zs, x = .ref b ∧ b ≠ a ∧ b ≠ q ∧ Fr b ∧ H b = some (.lst zs) ∧ zs.length < 1000 := by
        intro m x hx
        have hm : m < ds.length := by
          have := (List.getElem?_eq_some_iff.mp hx).1
          omega
        obtain ⟨x', h1, h2⟩ := t.get' (List.getElem?_eq_getElem hm)
        rw [hx] at h1
        cases h1
        have hall := List.all_eq_true.mp hmu.2 _ (List.getElem_mem hm)
        generalize ds[m] = dm at h2 hall
        cases dm with
        | lst ys =>
          dsimp only at hall
          rw [Bool.and_eq_true] at hall
          cases h2 with
          | lst eb fb tb =>
            rename_i b zs
            refine ⟨b, zs, rfl, fun z => ?_, fb.2, fb.1, gs _ _ eb, ?_⟩
            · subst z
              rw [ea] at eb
              cases eb
              have hm2 : m < ys.length := by rw [← tb.len]; exact (List.getElem?_eq_some_iff.mp hx).1
              obtain ⟨x', h3, h4⟩ := tb.get' (List.getElem?_eq_getElem hm2)
              rw [hx] at h3
              cases h3
              have h5 := List.all_eq_true.mp hall.2 _ (List.getElem_mem hm2)
              generalize ys[m] = ym at h4 h5
              cases h4 <;> cases h5
            · rw [tb.len]; exact of_decide_eq_true hall.1
        | _ => cases hall
      let Pv : Nat → L2.St → Hp → Prop := fun n σ' H' => (∃ o, σ' = σ.set j o) ∧ H' q = some (.lst [.ref a, v2]) ∧ H' a = some (.lst xs) ∧ (∀ (m : Nat) (x : V), xs[m]? = some x → ∃ b zs, x = .ref b ∧ b ≠ a ∧ b ≠ q ∧ Fr b ∧ H' b = some (.lst zs) ∧ zs.length < 1000 + n) ∧ ∀ b, ¬ Fr b → H b ≠ none → H' b = H b
      have hσ' : ∀ o, (σ.set j o)[i]? = some (some (.ref q)) := fun o => by rw [List.getElem?_set_ne (Ne.symm hij)]; exact hσ
      have p0 : Pv 0 σ H := ⟨⟨_, (List.set_getElem_self hj).symm⟩, hq, ha, it, fun _ _ _ => rfl⟩
      refine ⟨.ref q, hσ, q, _, 0, .ref a, rfl, rfl, SqL.of hq, atI_nat (j := 0) rfl, a, rfl, ⟨xs, SqL.of ha⟩, for_list Pv p0 (fun _ _ _ _ p => SqL.of p.2.2.1) (fun n x σ' H' hx p => ?_) fun σ' H' p => ?_⟩
      · obtain ⟨⟨o, rfl⟩, p1, p2, p3, p4⟩ := p
        obtain ⟨b, zs, rfl, n1, n2, f1, hb, hz⟩ := p3 n x hx
        have hn : n < xs.length := (List.getElem?_eq_some_iff.mp hx).1
        have hj2 : ((σ.set j o).set j (some (V.ref b)))[j]? = some (some (.ref b)) := List.getElem?_set_self (by rw [List.length_set]; exact hj)
        refine ⟨.ref b, hj2, .inl ⟨rfl, zs, SqL.of hb⟩, b, zs, v, rfl, rfl, hb, Nat.lt_of_lt_of_le (show zs.length < 100000 by omega) (by decide), ?_⟩
        refine ⟨⟨some (.ref b), by rw [List.set_set]⟩, by rw [upd_ne (Ne.symm n2)]; exact p1, by rw [upd_ne (Ne.symm n1)]; exact p2, fun m x hm => ?_, fun c c1 c2 => ?_⟩
        · obtain ⟨b', zs', rfl, n3, n4, f2, hb', hz'⟩ := p3 m x hm
          by_cases e : b' = b
          · subst e
            rw [hb] at hb'
            cases hb'
            exact ⟨b', _, rfl, n3, n4, f2, upd_same, by rw [List.length_append, List.length_singleton]; omega⟩
          · exact ⟨b', zs', rfl, n3, n4, f2, by rw [upd_ne e]; exact hb', by omega⟩
        · rw [upd_ne (show c ≠ b from fun z => c1 (by rw [z]; exact f1))]
          exact p4 c c1 c2
      · obtain ⟨⟨o, rfl⟩, p1, p2, p3, p4⟩ := p
        refine ⟨.ref q, hσ' o, q, _, 0, .ref a, rfl, rfl, SqL.of p1, atI_nat (j := 0) rfl, .inl ⟨rfl, _, SqL.of p2⟩, Nat.zero_le _, fun r nr => ?_⟩
        have hra : a ≠ r := fun z => by rw [← z, p2] at nr; cases nr
        refine ⟨a, xs, .ref r, rfl, rfl, by rw [upd_ne hra]; exact p2, Nat.lt_of_lt_of_le (show xs.length < 100000 by omega) (by decide), ?_⟩
        refine k o _ fun c c1 c2 => ?_
        have hca : c ≠ a := fun z => c1 (by rw [z]; exact fa.1)
        have hcr : c ≠ r := fun z => by
          subst z
          rw [p4 c c1 c2] at nr
          exact c2 nr
        rw [upd_ne hca, upd_ne hcr]
        exact p4 c c1 c2
  · cases hmu
theorem ds_scrL_1 {i j : Nat} {f : List D → Out} {ta : TA} {te2 : TE} {ma : M (List Slot)} {m2 : M (Bool × D)} {u w tm : L2.TS} {rd : RD} {rest : S} {mu : D → Bool} (ha : DA K W ta ma) (h2 : DE K W te2 m2) (hr : DRd K W u rd) (hw : DS K W w rest) (hm : MutOkL K i j mu tm w) :
    DS K W (tSeq (tAsg (tLst (tCons (tCall (spD K f) [] E0 ta) (tCons te2 tNil))) (gName i)) (tSeq u tm)) (sScrL i j f ma m2 rd mu rest) := ds_scrL ha h2 hr hw hm fun _ _ _ h => h
end
end Da
end F59
section F60
/-! A part of a tuple: t[lo:hi]. -/
namespace Da
open PySem PySem.Spec PyProof.Rows L2 He Ds
variable [Tabl]
section
variable {K : PySem.W.Frag} {W : WX}
end
end Da
end F60
section F61
namespace Da
open PySem PySem.Spec PyProof.Rows L2 He Ds
variable [Tabl]
section
variable {K : PySem.W.Frag} {W : WX} {c : Cc} {G G' H : Hp} {σ : L2.St} {ρ : List Slot}
/-! ### a new instance, its values by name -/
/-! ### try: ... except DeedError as e: ... return .. (slot i is e's, N slots in all) -/
end
/-! ### the clause of k03: the class's letter, the value -/
/-! ### a def that lets no error out -/
end Da
end F61
section F62
/-! The caught error as a datum, and a def that is given it. -/
namespace Da
open PySem PySem.Spec PyProof.Rows L2 He Ds
variable [Tabl]
/-! ### isinstance and .value of an error that stands pinned -/
section
variable {X : Cx} {a C : Addr} {oe : Obj} {cls : Value} {d : Option Addr}
end
/-! ### a def given the caught error -/
structure FnEx (P : Program) (w : World) (K : PySem.W.Frag) (mg : Str → Option Value) (base : Heap) (CX : CXT) (k : Nat) (f : Addr) (fd : FuncData) (ps : List Str) (sp : Addr → Value → Option Addr → Sp) : Prop where
  many : ∀ a cls d vs H Q E, sp a cls d vs H Q E → vs.length = ps.length
  does : ∀ (A : Around) (outer : List Env) (s : Shared) (H : Hp) (args : PySem.Args) (us : List Value) (vs : List V) (Q : VK) (E : XK) (p : Addr × Obj) (cls : Value) (d : Option Addr), L2H.RoomH k A → L2H.PinOk outer H s p → Zc cls d p.2 → (∃ z, p.2.data = .fields z) →
    Env0 P w K mg base A outer s H → BindsTo s fd args (ps.zip us) → Vals vs us → sp p.1 cls d vs H Q E → codeAny (model P w) A (.call (.ref f) args) (CR CX outer P w H s Q E) s
section
variable {P : Program} {w : World} {K : PySem.W.Frag} {mg : Str → Option Value} {base : Heap} {x qual : Str} {prm : Arguments} {body : List Stmt} {sc : Scope} {f : Addr} {fd : FuncData}
end
section
variable {X : Cx} {CX : CXT} {k j : Nat} {x : Str} {ps : List Str} {sp : Addr → Value → Option Addr → Sp} {p pos : Pos} {e : Expr} {es : List Expr} {t : TA} {a : Addr} {oe : Obj} {cls : Value} {d : Option Addr} {pn : List (Addr × Obj)}
end
/-! ### the caught error among the data: a, k, x are its address, its class, its dict's address -/
section
variable {K : PySem.W.Frag} {mg : Str → Option Value} {W : WX} {a : Addr} {k : Str} {x : Addr}
/-! ### the clause -/
end
end Da
end F62
section F63
/-! Own lists within an own list: [[], [], ..], x[a] + x[b], x[i].append(y). -/
namespace Da
open PySem PySem.Spec PyProof.Rows L2 He Ds
variable [Tabl]
section
variable {K : PySem.W.Frag} {W : WX} {c : Cc} {G G' H H' : Hp} {σ : L2.St} {ρ ρ1 ρ2 ρ3 : List Slot} {T : List En}
/-- an own list among own lists -/
theorem InL.at {fr : Bool} {as : List Addr} {dss : List (List D)} {i : Int} {ds : List D} (h : InL c G H fr as dss) (e : atI dss i = some ds) : ∃ j a vs, ixN dss.length i = some j ∧ as[j]? = some a ∧ dss[j]? = some ds ∧ atI (refs as) i = some (.ref a) ∧ H a = some (.lst vs) ∧ DrA c.K G (Fl c fr) vs ds := by
  unfold atI at e
  cases q : ixN dss.length i with
  | none => rw [q] at e; cases e
  | some j =>
    rw [q] at e
    have e' : dss[j]? = some ds := e
    have hj : j < as.length := by rw [h.len]; exact (List.getElem?_eq_some_iff.mp e').1
    have ea : as[j]? = some as[j] := List.getElem?_eq_getElem hj
    obtain ⟨vs, ds', h1, _, _, h2, h3⟩ := h.get ea
    rw [e'] at h1
    cases h1
    refine ⟨j, _, vs, rfl, ea, e', ?_, h2, h3⟩
    unfold atI refs
    rw [List.length_map, h.len, q]
    show (as.map V.ref)[j]? = _
    rw [List.getElem?_map, ea]
    rfl
/-! ### reading -/
end
end Da
end F63
section F64
/-! itertools.combinations. -/
namespace CpCmb
open PySem PySem.Spec
open Sem (wp)
theorem mro_cmb : mroOf (.type "itertools.combinations") = pure [.type "itertools.combinations", .type "object"] := by rw [mroOf_type]; kernel_rfl
theorem lookup_cmb_new : typeLookup (.type "itertools.combinations") "__new__" = pure (some (.builtin "itertools.combinations.__new__")) := by rw [typeLookup_type, builtinLookup_eq_fast]; kernel_rfl
theorem slot_cmb_init : Slot "itertools.combinations" "__init__" "object.__init__" :=
  .of (owner := "object") (n := "__init__") (by rw [typeLookup_type, builtinLookup_eq_fast]; kernel_rfl) (by decide +kernel) (by decide +kernel) (by decide +kernel)
    (by first | exact .inl (by decide +kernel) | exact .inr (by decide +kernel)) (by rw [isSubtype_type]; kernel_rfl)
theorem sub_cmb : isSubtype (.type "itertools.combinations") (.type "itertools.combinations") = pure true := by rw [isSubtype_type]; kernel_rfl
theorem called_cmb : TypeCalled "itertools.combinations" "itertools.combinations.__new__" "object.__init__" :=
  ⟨by decide +kernel, by decide +kernel, ⟨_, _, mro_cmb⟩, madeBy_type mro_cmb lookup_cmb_new (by decide +kernel), by decide +kernel, sub_cmb, slot_cmb_init⟩
theorem typeCall_cmb_2 (a b : Value) : checkTypeCall "itertools.combinations" ⟨[a, b], []⟩ = pure () := by kernel_rfl
theorem newCall_cmb_2 (a b : Value) : checkBuiltinCall "itertools.combinations.__new__" ⟨[.type "itertools.combinations", a, b], []⟩ = pure () := by kernel_rfl
theorem entry_cmb_new : entryFor table "itertools.combinations.__new__" = some Builtin.«itertools.combinations.__new__» := entryFor_of_tree (by kernel_rfl)
theorem slot_cmb_iter : Slot "itertools.combinations" "__iter__" "itertools.combinations.__iter__" :=
  .of (owner := "itertools.combinations") (n := "__iter__") (by rw [typeLookup_type, builtinLookup_eq_fast]; kernel_rfl) (by decide +kernel) (by decide +kernel) (by decide +kernel)
    (by first | exact .inl (by decide +kernel) | exact .inr (by decide +kernel)) sub_cmb
theorem slot_cmb_next : Slot "itertools.combinations" "__next__" "itertools.combinations.__next__" :=
  .of (owner := "itertools.combinations") (n := "__next__") (by rw [typeLookup_type, builtinLookup_eq_fast]; kernel_rfl) (by decide +kernel) (by decide +kernel) (by decide +kernel)
    (by first | exact .inl (by decide +kernel) | exact .inr (by decide +kernel)) sub_cmb
theorem entry_cmb_iter : entryFor table "itertools.combinations.__iter__" = some Builtin.«dict_keyiterator.__iter__» :=
  entryFor_alias (id' := "dict_keyiterator.__iter__") (by kernel_rfl) (by first | rfl | decide +kernel | (unfold String.splitOn; simp +decide [String.splitOnAux])) (by decide +kernel) (by kernel_rfl)
theorem entry_cmb_next : entryFor table "itertools.combinations.__next__" = some Builtin.«itertools.combinations.__next__» := entryFor_of_tree (by kernel_rfl)
theorem owner_cmb : Manifest.owners.lookup "itertools.combinations" = some Manifest.sig_itertools_combinations := by kernel_rfl
theorem args_cmb_iter (a : Value) : argsOk "itertools.combinations.__iter__" ⟨[a], []⟩ := by
  unfold argsOk; rw [signature?_of (id := "itertools.combinations.__iter__") (n := ['_', '_', 'r', 'e', 't', 'i', '_', '_']) (o := "itertools.combinations".toList.reverse) (by kernel_rfl) owner_cmb]; kernel_rfl
theorem args_cmb_next (a : Value) : argsOk "itertools.combinations.__next__" ⟨[a], []⟩ := by
  unfold argsOk; rw [signature?_of (id := "itertools.combinations.__next__") (n := ['_', '_', 't', 'x', 'e', 'n', '_', '_']) (o := "itertools.combinations".toList.reverse) (by kernel_rfl) owner_cmb]; kernel_rfl
theorem noDict_cmb : typeHasDict (.type "itertools.combinations") = false := by decide +kernel
/-- the record of a walk: the pool, how far, what was handed out last, the places -/
abbrev CmbV (P : Addr) (st : Int) (last : Value) (ix : List Nat) : Array Value := (.ref P :: .int st 0 :: last :: ix.map fun n : Nat => Value.int (n : Int) 0).toArray
abbrev IsCmb (h : Heap) (it P : Addr) (st : Int) (last : Value) (ix : List Nat) : Prop := h.get? it = some { cls := .type "itertools.combinations", dict := none, data := .fields (CmbV P st last ix), slots := #[] }
abbrev IsPool (h : Heap) (P : Addr) (us : List Value) : Prop := h.get? P = some { cls := .type "tuple", dict := none, data := .seq us.toArray, slots := #[] }
section
variable {prog : Program} {w : World} {A : Around} {E : Value → Shared → Prop} {s : Shared}
end
/-- the sub-lists of a length, the earliest places first -/
def cmb {α : Type} : Nat → List α → List (List α)
  | 0, _ => [[]]
  | _ + 1, [] => []
  | r + 1, x :: xs => (cmb r xs).map (x :: ·) ++ cmb (r + 1) xs
def stepOk (nx : Nat → List Nat → Option (List Nat)) (n r : Nat) : Bool := let L := cmb r (List.range n)
  (L[0]? == some (List.range r)) && (List.range L.length).all fun i => match L[i]? with
    | some ix => nx n ix == L[i + 1]?
    | none => true
/-- what a turn hands out -/
def CmbT (s : Shared) (it P : Addr) (us : List Value) (ix : List Nat) (Q : Option Value → Shared → Prop) : Prop :=
  ∀ h', h'.get? s.heap.objs.size = some { cls := .type "tuple", dict := none, data := .seq (ix.map fun i => us.toArray.getD i .none).toArray, slots := #[] } → IsCmb h' it P 1 (.ref s.heap.objs.size) ix → (∀ b o, b ≠ it → s.heap.get? b = some o → h'.get? b = some o) → Q (some (.ref s.heap.objs.size)) { s with heap := h' }
open CpRep (StopE)
def CmbE (s : Shared) (it : Addr) (E : Value → Shared → Prop) : Prop := ∀ e h', StopE e h' → (∀ b o, b ≠ it → s.heap.get? b = some o → h'.get? b = some o) → E e { s with heap := h' }
section
variable {prog : Program} {w : World} {A : Around} {E : Value → Shared → Prop} {s : Shared}
theorem iter_cmb {it P : Addr} {st : Int} {last : Value} {ix : List Nat} {Q : Value → Shared → Prop} (hit : IsCmb s.heap it P st last ix) (h : Q (.ref it) s) : wpAny (model prog w) A (pyIter (.ref it)) Q E s := by
  have hT : s.TypeIs (.ref it) "itertools.combinations" := ⟨_, hit, rfl⟩
  refine wpAny_pyIter_slot hT slot_cmb_iter (wpAny_call_entry slot_cmb_iter hT entry_cmb_iter ?_ (args_cmb_iter _))
  show wpAny _ _ (ret (.ref it)) _ _ s
  exact wpAny_pure ⟨_, rfl, "itertools.combinations", _, hT, slot_cmb_next.lookup, h⟩
theorem nums_of {P : Addr} {st : Int} {last : Value} {ix : List Nat} (f : Value → Nat) (hf : ∀ n t, f (.int n t) = n.toNat) : List.map f (List.drop 3 (CmbV P st last ix).toList) = ix := by
  show List.map f (ix.map _) = ix
  rw [List.map_map]
  induction ix with
  | nil => rfl
  | cons a as ih => rw [List.map_cons, ih]; show f _ :: _ = _; rw [hf]; rfl
theorem stop_at {it : Addr} {Q : Fin → Shared → Prop} {h1 : Heap} (hh : A.handled = none) (k : ∀ b o, b ≠ it → s.heap.get? b = some o → h1.get? b = some o) (hE : CmbE s it E) : wpAny (model prog w) A.in1 (Builtin.Itertools.itStop (α := Fin)) Q E { s with heap := h1 } := by
  unfold Builtin.Itertools.itStop
  refine wpAny_bind ?_
  simp only [newExc, newTuple]
  refine wpAny_bind (wpAny_newObj_type ?_ (by size_fits))
  refine wpAny_bind (m := firstArgMember _ _) (wpAny_of_eq (a := Value.none) (by first | rfl | (simp only [firstArgMember]; rfl)) ?_)
  refine wpAny_newObj_type ?_ (by size_fits)
  simp only [raiseNew]
  refine wpAny_bind (wpAny_handled ?_)
  first | rw [show A.in1.handled = none from hh] | rw [hh]
  refine wpAny_bind (wpAny_pure (wpAny_throw ?_))
  exact hE _ _ ⟨_, _, _, rfl, Heap.get?_push_size _ rfl, rfl, rfl, rfl⟩ fun b o n e => Heap.get?_push_of_some _ (Heap.get?_push_of_some _ (k b o n e))
theorem upd_cmb {h : Heap} {it P : Addr} {st : Int} {last : Value} {ix : List Nat} {f : Array Value → Array Value} {st' : Int} {last' : Value} {ix' : List Nat} (hit : IsCmb h it P st last ix) (e : f (CmbV P st last ix) = CmbV P st' last' ix') : IsCmb (h.update it (Obj.mapFields f)) it P st' last' ix' := by
  unfold IsCmb
  rw [← e]
  exact Heap.get?_update_self _ hit rfl
theorem hand_out {it P : Addr} {last : Value} {us : List Value} {ix : List Nat} {pk : Sem Value} {g : Value → Sem Fin} {Q : Fin → Shared → Prop} {h1 : Heap} (hpk : pk = (Builtin.Itertools.itPoolItems (.ref P) >>= fun items => newTuple (ix.map fun i => items.getD i .none)))
    (hg : ∀ v, g v = (do let before ← field (.ref it) 2; setField (.ref it) 2 v; letGo [before] [v]; ret v)) (hit : IsCmb h1 it P 1 last ix) (hp : IsPool s.heap P us) (hne : it ≠ P) (hl : ix.length ≤ 1000) (sz : h1.objs.size = s.heap.objs.size) (k : ∀ b o, b ≠ it → s.heap.get? b = some o → h1.get? b = some o)
    (hQ : ∀ h', h'.get? s.heap.objs.size = some { cls := .type "tuple", dict := none, data := .seq (ix.map fun i => us.toArray.getD i .none).toArray, slots := #[] } → IsCmb h' it P 1 (.ref s.heap.objs.size) ix → (∀ b o, b ≠ it → s.heap.get? b = some o → h'.get? b = some o) → Q (.done (.ret (.ref s.heap.objs.size))) { s with heap := h' }) :
    wpAny (model prog w) A (pk >>= g) Q E { s with heap := h1 } := by
  subst hpk
  have hp1 : IsPool h1 P us := k P _ (Ne.symm hne) hp
  refine wpAny_bind (wpAny_bind ?_)
  unfold Builtin.Itertools.itPoolItems
  refine wpAny_bind (wpAny_seqItems hp1 rfl (wpAny_pure ?_))
  refine wpAny_newObj_type ?_ ?_
  · have e1 : (h1.push { cls := .type "tuple", data := .seq (ix.map fun i => us.toArray.getD i .none).toArray }).get? it = _ := Heap.get?_push_of_some _ hit
    have e2 : (h1.push { cls := .type "tuple", data := .seq (ix.map fun i => us.toArray.getD i .none).toArray }).get? h1.objs.size = _ := Heap.get?_push_size _ rfl
    have il : it < h1.objs.size := Heap.lt_size hit
    rw [hg]
    refine wpAny_bind (wpAny_field e1 rfl (x := last) rfl ?_)
    refine wpAny_bind (wpAny_setField e1 rfl (by show 2 < (CmbV P 1 last ix).size; simp) ?_)
    refine wpAny_bind (wpAny_letGo (wpAny_pure ?_))
    show Q (.done (.ret (.ref h1.objs.size))) _
    rw [sz] at e2 ⊢
    refine hQ _ ?_ ?_ ?_
    · exact (Heap.get?_update_other _ _ (by rw [← sz]; exact Nat.ne_of_lt il)).trans e2
    · exact upd_cmb e1 (by simp [CmbV])
    · exact fun b o n e => (Heap.get?_update_other _ _ (Ne.symm n)).trans (Heap.get?_push_of_some _ (k b o n e))
  · show (ix.map _).toArray.size ≤ sizeLine
    rw [List.size_toArray, List.length_map]
    exact Nat.le_trans hl (by decide)
theorem cmb_ex : ∃ nx : Nat → List Nat → Option (List Nat), (∀ (prog : Program) (w : World) (A : Around) (E : Value → Shared → Prop) (s : Shared) (it P : Addr) (last : Value) (us : List Value) (ix : List Nat) (Q : Option Value → Shared → Prop), A.handled = none → IsCmb s.heap it P 1 last ix → IsPool s.heap P us → it ≠ P → us.length ≤ 1000 → (∀ ix', nx us.length ix = some ix' → ix'.length ≤ 1000 ∧ CmbT s it P us ix' Q) → (nx us.length ix = none → CmbE s it E) → wpAny (model prog w) A (callSpecial? (.ref it) "__next__") Q E s) ∧ ∀ n < 9, ∀ r < n + 1, stepOk nx n r = true := by
  apply Exists.intro
  apply And.intro
  · intro prog w A E s it P last us ix Q hh hit hp hne hlen hq he
    have hT : s.TypeIs (.ref it) "itertools.combinations" := ⟨_, hit, rfl⟩
    refine wpAny_callSpecial?_slot (name := Str.ofString "__next__") hT slot_cmb_next (wpAny_call_entry slot_cmb_next hT entry_cmb_next ?_ (args_cmb_next _))
    show wpAny _ _ (field (.ref it) 0 >>= _) _ _ s
    refine wpAny_bind (wpAny_field hit rfl (x := .ref P) rfl ?_)
    show wpAny _ _ (Builtin.Itertools.itNumbersFrom (.ref it) 3 >>= _) _ _ s
    refine wpAny_bind ?_
    unfold Builtin.Itertools.itNumbersFrom
    refine wpAny_bind (wpAny_load hit ?_)
    refine wpAny_pure ?_
    rw [nums_of _ fun _ _ => rfl]
    refine wpAny_bind ?_
    unfold Builtin.Itertools.itIntField
    refine wpAny_bind (wpAny_field hit rfl (x := .int 1 0) rfl (wpAny_pure ?_))
    show wpAny _ _ (Builtin.Itertools.itPoolItems (.ref P) >>= _) _ _ s
    unfold Builtin.Itertools.itPoolItems
    refine wpAny_bind (wpAny_bind (wpAny_seqItems hp rfl (wpAny_pure ?_)))
    rw [List.size_toArray]
    generalize hn : us.length = n at hq he
    split
    · rename_i x ix' heq
      obtain ⟨hl, hq'⟩ := hq ix' heq
      unfold Builtin.Itertools.itSetNumbersFrom
      refine wpAny_bind (wpAny_updateFields hit rfl ?_ ?_)
      · refine hand_out (ix := ix') rfl (fun v => rfl) (upd_cmb hit (last' := last) (ix' := ix') (by simp [CmbV, rawInt])) hp hne hl (Heap.size_update _ _ _) (fun b o n e => (Heap.get?_update_other _ _ (Ne.symm n)).trans e) fun h' e1 e2 e3 => ⟨_, rfl, hq' h' e1 e2 e3⟩
      · simp [CmbV]
        have : (1000 : Nat) + 3 ≤ sizeLine + 3 := by decide
        omega
    · rename_i x heq
      have he' := he heq
      refine wpAny_bind (wpAny_setField hit rfl (by show 1 < (CmbV P 1 last ix).size; simp) ?_)
      exact stop_at hh (fun b o n e => (Heap.get?_update_other _ _ (Ne.symm n)).trans e) he'
  · decide +kernel
theorem cmb_first {it P : Addr} {last : Value} {us : List Value} {ix : List Nat} {Q : Option Value → Shared → Prop} (hit : IsCmb s.heap it P 0 last ix) (hp : IsPool s.heap P us) (hne : it ≠ P) (hl : ix.length ≤ 1000) (hQ : CmbT s it P us ix Q) : wpAny (model prog w) A (callSpecial? (.ref it) "__next__") Q E s := by
  have hT : s.TypeIs (.ref it) "itertools.combinations" := ⟨_, hit, rfl⟩
  refine wpAny_callSpecial?_slot (name := Str.ofString "__next__") hT slot_cmb_next (wpAny_call_entry slot_cmb_next hT entry_cmb_next ?_ (args_cmb_next _))
  show wpAny _ _ (field (.ref it) 0 >>= _) _ _ s
  refine wpAny_bind (wpAny_field hit rfl (x := .ref P) rfl ?_)
  show wpAny _ _ (Builtin.Itertools.itNumbersFrom (.ref it) 3 >>= _) _ _ s
  refine wpAny_bind ?_
  unfold Builtin.Itertools.itNumbersFrom
  refine wpAny_bind (wpAny_load hit ?_)
  refine wpAny_pure ?_
  rw [nums_of _ fun _ _ => rfl]
  refine wpAny_bind ?_
  unfold Builtin.Itertools.itIntField
  refine wpAny_bind (wpAny_field hit rfl (x := .int 0 0) rfl (wpAny_pure ?_))
  show wpAny _ _ (setField (.ref it) 1 (rawInt 1) >>= _) _ _ s
  refine wpAny_bind (wpAny_setField hit rfl (by show 1 < (CmbV P 0 last ix).size; simp) ?_)
  refine hand_out (ix := ix) rfl (fun v => rfl) (upd_cmb hit (last' := last) (by simp [CmbV, rawInt])) hp hne hl (Heap.size_update _ _ _) (fun b o n e => (Heap.get?_update_other _ _ (Ne.symm n)).trans e) fun h' e1 e2 e3 => ⟨_, rfl, hQ h' e1 e2 e3⟩
theorem cmb_over {it P : Addr} {last : Value} {ix : List Nat} {Q : Option Value → Shared → Prop} (hh : A.handled = none) (hit : IsCmb s.heap it P 2 last ix) (hE : CmbE s it E) : wpAny (model prog w) A (callSpecial? (.ref it) "__next__") Q E s := by
  have hT : s.TypeIs (.ref it) "itertools.combinations" := ⟨_, hit, rfl⟩
  refine wpAny_callSpecial?_slot (name := Str.ofString "__next__") hT slot_cmb_next (wpAny_call_entry slot_cmb_next hT entry_cmb_next ?_ (args_cmb_next _))
  show wpAny _ _ (field (.ref it) 0 >>= _) _ _ s
  refine wpAny_bind (wpAny_field hit rfl (x := .ref P) rfl ?_)
  show wpAny _ _ (Builtin.Itertools.itNumbersFrom (.ref it) 3 >>= _) _ _ s
  refine wpAny_bind ?_
  unfold Builtin.Itertools.itNumbersFrom
  refine wpAny_bind (wpAny_load hit ?_)
  refine wpAny_pure ?_
  refine wpAny_bind ?_
  unfold Builtin.Itertools.itIntField
  refine wpAny_bind (wpAny_field hit rfl (x := .int 2 0) rfl (wpAny_pure ?_))
  refine wpAny_bind (wpAny_rule ?_)
  exact stop_at hh (fun b o n e => e) hE
end
open L2 PyProof.Rows
theorem pyNext_of {prog : Program} {w : World} {A : Around} {E : Value → Shared → Prop} {s : Shared} {v : Value} {Q : Option Value → Shared → Prop}
    (h : wpAny (model prog w) A (callSpecial? v "__next__") (fun r s1 => ∃ u, r = some u ∧ Q (some u) s1) (fun e s1 => StopE e s1.heap ∧ Q none s1) s) : wpAny (model prog w) A (pyNext v) Q E s := by
  unfold pyNext
  refine wpAny_bind (wpAny_attempt ?_)
  refine wpAny_mono h ?_ ?_
  · rintro r s1 ⟨u, rfl, q⟩
    exact wpAny_pure q
  · rintro e s1 ⟨⟨a, o, vs, rfl, ho, hc, _, _⟩, q⟩
    refine wpAny_bind (wpAny_isInstance (T := "StopIteration") (b := true) ⟨_, ho, hc⟩ isSubtype_stop ?_)
    exact wpAny_pure q
/-- all choices of r among n places -/
abbrev cmbI (n r : Nat) : List (List Nat) := cmb r (List.range n)
theorem cmb_lt {α : Type} : ∀ {r : Nat} {xs ys : List α}, ys ∈ cmb r xs → ys.length = r ∧ ∀ y ∈ ys, y ∈ xs
  | 0, xs, ys, h => by
    have : ys = [] := by simpa [cmb] using h
    subst this
    exact ⟨rfl, fun y h => by simp at h⟩
  | r + 1, [], ys, h => by simp [cmb] at h
  | r + 1, x :: xs, ys, h => by
    rw [cmb, List.mem_append, List.mem_map] at h
    rcases h with ⟨zs, h, rfl⟩ | h
    · obtain ⟨h1, h2⟩ := cmb_lt h
      exact ⟨by rw [List.length_cons, h1], fun y hy => (List.mem_cons.mp hy).elim (fun e => e ▸ List.mem_cons_self) fun z => List.mem_cons_of_mem _ (h2 y z)⟩
    · obtain ⟨h1, h2⟩ := cmb_lt h
      exact ⟨h1, fun y hy => List.mem_cons_of_mem _ (h2 y hy)⟩
theorem cmb_none {α : Type} : ∀ {r : Nat} {xs : List α}, xs.length < r → cmb r xs = []
  | 0, _, h => by omega
  | r + 1, [], _ => rfl
  | r + 1, x :: xs, h => by
    rw [List.length_cons] at h
    rw [cmb, cmb_none (r := r) (by omega), cmb_none (r := r + 1) (by omega)]
    rfl
theorem step_get {nx : Nat → List Nat → Option (List Nat)} {n r : Nat} (h : stepOk nx n r = true) : (cmbI n r)[0]? = some (List.range r) ∧ ∀ i ix, (cmbI n r)[i]? = some ix → nx n ix = (cmbI n r)[i + 1]? := by
  unfold stepOk at h
  rw [Bool.and_eq_true, List.all_eq_true] at h
  refine ⟨by simpa using h.1, fun i ix e => ?_⟩
  have := h.2 i (List.mem_range.mpr (List.getElem?_eq_some_iff.mp e).1)
  rw [e] at this
  simpa using this
theorem vals_pick {xs : List V} {us : List Value} (rv : Vals xs us) : ∀ {ix : List Nat}, (∀ i ∈ ix, i < xs.length) → Vals (ix.filterMap fun j => xs[j]?) (ix.map fun i => us.toArray.getD i .none)
  | [], _ => .nil
  | i :: ix, h => by
    have hi : i < xs.length := h i List.mem_cons_self
    obtain ⟨u, hu, ru⟩ := rv.get (List.getElem?_eq_getElem hi)
    have hu2 : us.toArray.getD i .none = u := by
      rw [Array.getD_eq_getD_getElem?, List.getElem?_toArray, hu]; rfl
    rw [List.filterMap_cons, List.getElem?_eq_getElem hi, List.map_cons, hu2]
    exact .cons ru (vals_pick rv fun j hj => h j (List.mem_cons_of_mem _ hj))
/-- choices of r among things that stood in a list -/
def Itq (xs : List V) (r : Nat) : It := ⟨fun i _ => i < (cmbI xs.length r).length, fun i H v H' => ∃ T ix, (cmbI xs.length r)[i]? = some ix ∧ v = .ref T ∧ H T = none ∧ H' = upd H T (.tup (ix.filterMap fun j => xs[j]?)), fun i _ => (cmbI xs.length r).length ≤ i⟩
def TnC (it P : Addr) (us : List Value) (r : Nat) (i : Nat) (h : Heap) : Prop := it ≠ P ∧ IsPool h P us ∧ ∃ st last ix, IsCmb h it P st last ix ∧ ((st = 0 ∧ i = 0 ∧ (cmbI us.length r)[0]? = some ix) ∨ (st = 1 ∧ 0 < i ∧ (cmbI us.length r)[i - 1]? = some ix) ∨ (st = 2 ∧ (cmbI us.length r).length ≤ i))
theorem turn_cmb {P : Program} {w : World} {K : PySem.W.Frag} {tg : Expr} {xs : List V} {us : List Value} {r : Nat} (it p : Addr) (rv : Vals xs us) (hn : us.length < 9) (hr : r < 1000) : Turn P w K tg (Itq xs r) [it, p] it (TnC it p us r) where
  mem := by simp
  obj := fun i h st b hb => by
    obtain ⟨_, hp, s0, last, ix, hit, _⟩ := st
    have e : b = it ∨ b = p := by simpa using hb
    rcases e with rfl | rfl
    · exact ⟨_, hit, fun v z => nomatch z⟩
    · exact ⟨_, hp, fun v z => nomatch z⟩
  keep := fun i h h' st k => by
    obtain ⟨ne, hp, s0, last, ix, hit, q⟩ := st
    exact ⟨ne, k p (by simp) _ hp, s0, last, ix, k it (by simp) _ hit, q⟩
  item := by
    intro X hP hw hK hc i pins s σ H E I hf st hg
    subst hP hw hK
    obtain ⟨ne, hp, s0, last, ix, hit, q⟩ := st
    have hl := rv.length
    have hg' : i < (cmbI us.length r).length := by rw [← hl]; exact hg
    have hle : r ≤ us.length := by
      rcases Nat.lt_or_ge us.length r with z | z
      · rw [show cmbI us.length r = [] from cmb_none (by rw [List.length_range]; exact z)] at hg'
        simp at hg'
      · exact z
    obtain ⟨nx, run, chk⟩ := cmb_ex
    obtain ⟨g0, g1⟩ := step_get (chk us.length hn r (by omega))
    have fin : ∀ ix', (cmbI us.length r)[i]? = some ix' → ∀ h', h'.get? s.heap.objs.size = some { cls := .type "tuple", dict := none, data := .seq (ix'.map fun i => us.toArray.getD i .none).toArray, slots := #[] } → IsCmb h' it p 1 (.ref s.heap.objs.size) ix' → (∀ b o, b ≠ it → s.heap.get? b = some o → h'.get? b = some o) →
        wpAny (model X.prog X.w) X.A (letOwnedTupleGo tg (.ref it) (.ref s.heap.objs.size)) (fun _ s2 => ∃ x H', Inv X pins σ H' s2 ∧ RelV x (.ref s.heap.objs.size) ∧ (Itq xs r).yld i H x H' ∧ TnC it p us r (i + 1) s2.heap ∧ ∀ b ∈ [it, p], H' b = none) E { s with heap := h' } := by
      intro ix' ei h' e1 e2 k
      obtain ⟨m1, m2⟩ := cmb_lt (List.mem_of_getElem? ei)
      have vp := vals_pick rv (ix := ix') fun j hj => by rw [hl]; exact List.mem_range.mp (m2 j hj)
      have il : it < s.heap.objs.size := Heap.lt_size hit
      have pl : p < s.heap.objs.size := Heap.lt_size hp
      have new : ObjOk X.prog X.w (upd H s.heap.objs.size (.tup (ix'.filterMap fun j => xs[j]?))) h' s.heap.objs.size (.tup (ix'.filterMap fun j => xs[j]?)) :=
        ⟨by
          have := vp.length
          rw [List.length_map] at this
          show (ix'.filterMap fun j => xs[j]?).length ≤ sizeLine
          have z : (1000 : Nat) ≤ sizeLine := by decide
          omega, _, vp, ⟨_, e1, rfl, _, rfl⟩⟩
      have I1 : Inv X pins σ (upd H s.heap.objs.size (.tup (ix'.filterMap fun j => xs[j]?))) { s with heap := h' } :=
        I.turnedNew (t' := s.toks) (ch := [it, p]) (fun c o hb q => k c o (fun q' => hb (by simp [q'])) q) hf (Nat.le_refl _) new
      refine go_of (s := { s with heap := h' }) (n := "itertools.combinations") e2 rfl rfl (by decide) ⟨.ref s.heap.objs.size, _, I1, rfl, ⟨s.heap.objs.size, ix', by rw [hl]; exact ei, rfl, I.hok.fresh (Nat.le_refl _), rfl⟩, ⟨ne, k p _ (Ne.symm ne) hp, 1, _, ix', e2, .inr (.inl ⟨rfl, Nat.succ_pos i, by rw [Nat.add_sub_cancel]; exact ei⟩)⟩, fun c hcm => ?_⟩
      have hlt : c < s.heap.objs.size := by
        have e' : c = it ∨ c = p := by simpa using hcm
        rcases e' with rfl | rfl
        · exact il
        · exact pl
      rw [upd_ne (Nat.ne_of_lt hlt)]
      exact (hf c hcm).1
    refine pyNext_of ?_
    rcases q with ⟨rfl, rfl, q⟩ | ⟨rfl, i0, q⟩ | ⟨rfl, q⟩
    · obtain ⟨m1, m2⟩ := cmb_lt (List.mem_of_getElem? q)
      exact cmb_first hit hp ne (by omega) fun h' e1 e2 k => ⟨_, rfl, _, rfl, fin ix q h' e1 e2 k⟩
    · have en := g1 (i - 1) ix q
      rw [show i - 1 + 1 = i from by omega] at en
      refine run X.prog X.w X.A _ s it p last us ix _ (I.ok.hd hc) hit hp ne (by omega) (fun ix' e => ?_) fun e => ?_
      · rw [en] at e
        obtain ⟨m1, m2⟩ := cmb_lt (List.mem_of_getElem? e)
        exact ⟨by omega, fun h' e1 e2 k => ⟨_, rfl, _, rfl, fin ix' e h' e1 e2 k⟩⟩
      · rw [en, List.getElem?_eq_getElem hg'] at e
        cases e
    · omega
  done := by
    intro X hP hw hK hc i pins s σ H E I hf st hg
    subst hP hw hK
    obtain ⟨ne, hp, s0, last, ix, hit, q⟩ := st
    have hl := rv.length
    have hg' : (cmbI us.length r).length ≤ i := by rw [← hl]; exact hg
    have fin : ∀ h', (∀ b o, b ≠ it → s.heap.get? b = some o → h'.get? b = some o) → Inv X pins σ H { s with heap := h' } := fun h' k =>
      I.turnedL (t' := s.toks) (ch := [it, p]) (fun c o hb q => k c o (fun q' => hb (by simp [q'])) q) hf
    refine pyNext_of ?_
    rcases q with ⟨rfl, rfl, q⟩ | ⟨rfl, i0, q⟩ | ⟨rfl, q⟩
    · have := (List.getElem?_eq_some_iff.mp q).1
      omega
    · have hlt := (List.getElem?_eq_some_iff.mp q).1
      have hle : r ≤ us.length := by
        rcases Nat.lt_or_ge us.length r with z | z
        · rw [show cmbI us.length r = [] from cmb_none (by rw [List.length_range]; exact z)] at hlt
          simp at hlt
        · exact z
      obtain ⟨nx, run, chk⟩ := cmb_ex
      obtain ⟨g0, g1⟩ := step_get (chk us.length hn r (by omega))
      have en := g1 (i - 1) ix q
      rw [show i - 1 + 1 = i from by omega, List.getElem?_eq_none hg'] at en
      refine run X.prog X.w X.A _ s it p last us ix _ (I.ok.hd hc) hit hp ne (by omega) (fun ix' e => ?_) fun _ e h' se k => ⟨se, rfl, fin h' k⟩
      rw [en] at e
      cases e
    · exact cmb_over (I.ok.hd hc) hit fun e h' se k => ⟨se, rfl, fin h' k⟩
  self := fun A i s Q E st h => by
    obtain ⟨ne, hp, s0, last, ix, hit, q⟩ := st
    exact iter_cmb hit h
end CpCmb
end F64
section F65
namespace Ds
open PySem PySem.Spec PyProof.Rows L2
end Ds
namespace Da
open PySem PySem.Spec PyProof.Rows L2 He Ds CpCmb
variable [Tabl]
theorem ty_ok {K : PySem.W.Frag} {h : Heap} {mg : Str → Option Value} (X : K.In h) (G : h.Ns mainGlobals mg) {x : Str} {i : String} (c : (match PySem.W.nsIn K mainGlobals x with | some (some (.type b)) => decide (b = i) | _ => false) = true) : mg x = some (.type i) := by
  split at c
  · rename_i b e
    have := of_decide_eq_true c
    subst this
    exact PySem.W.mg_of X G e
  · cases c
section
variable {K : PySem.W.Frag} {W : WX} {c : Cc} {G G' H : Hp} {σ : L2.St} {ρ : List Slot} {T : List En}
def pkD (ds : List D) (ix : List Nat) : List D := ix.filterMap fun j => ds[j]?
def cbD (f : Bool) (ds : List D) (r : Nat) : List (Bool × D) := (cmbI ds.length r).map fun ix => (f || flatDs (pkD ds ix), .tup (pkD ds ix))
theorem draPick {F : Addr → Prop} {vs : List V} {ds : List D} (t : DrA K G F vs ds) (ix : List Nat) : DrA K G F (ix.filterMap fun j => vs[j]?) (pkD ds ix) := by
  unfold pkD
  induction ix with
  | nil => exact .nil
  | cons j ix ih =>
    rw [List.filterMap_cons, List.filterMap_cons]
    cases e : ds[j]? with
    | none =>
      have : vs[j]? = none := List.getElem?_eq_none (by rw [t.len]; exact List.getElem?_eq_none_iff.mp e)
      rw [this]
      exact ih
    | some d =>
      obtain ⟨v, h2, h3⟩ := t.get' e
      rw [h2]
      exact .cons h3 ih
end
end Da
end F65
section F66
/-! itertools.combinations of a range. -/
namespace CpCmb
open PySem PySem.Spec PyProof.Rows L2
open Sem (wp)
theorem meets_cmb_rng (l : Addr) (a0 b0 : Int) (n : Nat) (r : Int) (t : Tok) (h0 : 0 ≤ r) (h1 : r ≤ 1000) (hus : n ≤ 1000) :
    Meets (Builtin.«itertools.combinations.__new__» ⟨[.type "itertools.combinations", .ref l, .int r t], []⟩)
      (fun A R s => (A.handled = none ∧ (∃ tr u v, IsRange s.heap l a0 b0 1 tr u v) ∧ Builtin.Range.small a0 b0 1 = true ∧ Builtin.Range.rangeSize a0 b0 1 = n) ∧ ∀ (h1 h' : Heap) (tk : Nat) (acc : Array Value) (P it : Addr), ItemsOf (fun i v => ∃ t, v = .int (a0 + i * 1) t) acc n → (∀ b o, s.heap.get? b = some o → h1.get? b = some o) → h1.objs.size ≤ P → h1.objs.size ≤ it → P ≠ it → IsPool h' P acc.toList → IsCmb h' it P (if r.toNat > acc.toList.length then 2 else 0) .none (List.range r.toNat) → (∀ b o, h1.get? b = some o → h'.get? b = some o) → R (.ok (.ret (.ref it))) { s with heap := h', toks := tk }) := by
  intro prog w A R s ⟨⟨hh, ⟨tr, u, v, hr⟩, hsm, hsz⟩, h⟩
  have hsub := sub_cmb
  have hdn := noDict_cmb
  obtain ⟨hp, g, dd, tk, os⟩ := s
  have hn : ¬ ((!(decide (-(2 ^ 63 : Int) ≤ r) && decide (r < (2 ^ 63 : Int)))) = true) := by
    have a : decide (-(2 ^ 63 : Int) ≤ r) = true := decide_eq_true (by omega)
    have b : decide (r < (2 ^ 63 : Int)) = true := decide_eq_true (by omega)
    rw [a, b]
    decide
  have hsub2 : isSubtype (.type "itertools.combinations") (.type ("itertools." ++ "combinations")) = pure true := by
    rw [show ("itertools." ++ "combinations" : String) = "itertools.combinations" from by decide +kernel]
    exact sub_cmb
  repeat (first
      | wp_step
      | simp only [List.head?_cons, Option.some_or, List.getElem?_cons_succ, List.getElem?_cons_zero, List.length_cons, List.length_nil, List.forIn_nil]
      | (refine wpAny_ite_false (decide_eq_false hn) ?_)
      | (refine wpAny_of_eq (a := true) hsub2 ?_))
  refine wpAny_ite_false ?_ ?_
  · have a : decide (r < -2 ^ 63) = false := decide_eq_false (by omega)
    have b : decide (r ≥ 2 ^ 63) = false := decide_eq_false (by omega)
    rw [a, b]; rfl
  refine wpAny_pure ?_
  refine wpAny_bind (L2.collect_range (show A.in1.handled = none from hh) hr hsm hsz (Nat.le_trans hus (by decide)) fun h' tk2 acc k hi => ?_)
  refine wpAny_ite_false (decide_eq_false (by omega)) ?_
  refine wpAny_ite_false ?_ ?_
  · show decide (decide (r > 2 ^ 20) = true) = false
    rw [decide_eq_false (show ¬ (r > 2 ^ 20) by omega)]; rfl
  refine wpAny_bind (wpAny_newObj_type (wpAny_pure ?_) ?_)
  · refine wpAny_bind ?_
    unfold Builtin.Itertools.itNewRecord
    refine wpAny_ite_true ?_ ?_
    · rw [hdn]; rfl
    refine wpAny_newObj_type (wpAny_pure ?_) ?_
    · have e1 : (h'.push { cls := .type "tuple", data := .seq acc.toList.toArray }).get? h'.objs.size = some { cls := .type "tuple", data := .seq acc.toList.toArray } := Heap.get?_push_size _ rfl
      refine h h' _ tk2 acc h'.objs.size (h'.push { cls := .type "tuple", data := .seq acc.toList.toArray }).objs.size hi k (Nat.le_refl _) ?_ ?_ ?_ ?_ ?_
      · rw [Heap.size_push]; exact Nat.le_succ _
      · rw [Heap.size_push]; exact Nat.ne_of_lt (Nat.lt_succ_self _)
      · exact Heap.get?_push_of_some _ e1
      · exact (Heap.get?_push_size _ rfl).trans (by
          have e : (rawInt (if r.toNat > acc.toList.length then 2 else 0)) = Value.int (if r.toNat > acc.toList.length then 2 else 0) 0 := rfl
          show some ({ cls := _, dict := none, data := Data.fields (_ :: rawInt (if r.toNat > acc.toList.length then 2 else 0) :: _ :: List.map (fun i : Nat => rawInt i) (List.range r.toNat)).toArray, slots := #[] } : Obj) = _
          rw [e]
          rfl)
      · exact fun b o e => Heap.get?_push_of_some _ (Heap.get?_push_of_some _ e)
    · show (_ :: _ :: _ :: List.map _ (List.range r.toNat)).toArray.size ≤ sizeLine + 2
      rw [List.size_toArray]
      simp only [List.length_cons, List.length_map, List.length_range]
      have : (1000 : Nat) + 3 ≤ sizeLine + 2 := by decide
      omega
  · show acc.toList.toArray.size ≤ sizeLine
    have z : acc.size = n := hi.1
    rw [List.size_toArray, Array.length_toList, z]
    exact Nat.le_trans hus (by decide)
section
variable {prog : Program} {w : World} {A : Around} {E : Value → Shared → Prop} {s : Shared}
theorem call_cmbR {l : Addr} {a0 b0 : Int} {n : Nat} {r : Nat} {t tr u v : Tok} {Q : Value → Shared → Prop} (hh : A.handled = none) (hl : IsRange s.heap l a0 b0 1 tr u v) (hsm : Builtin.Range.small a0 b0 1 = true) (hsz : Builtin.Range.rangeSize a0 b0 1 = n) (hu : n ≤ 1000) (hr : r ≤ 1000)
    (h : ∀ (h1 h' : Heap) (tk : Nat) (acc : Array Value) (P it : Addr), ItemsOf (fun i v => ∃ t, v = .int (a0 + i * 1) t) acc n → (∀ b o, s.heap.get? b = some o → h1.get? b = some o) → h1.objs.size ≤ P → h1.objs.size ≤ it → P ≠ it → IsPool h' P acc.toList → IsCmb h' it P (if r > acc.toList.length then 2 else 0) .none (List.range r) → (∀ b o, h1.get? b = some o → h'.get? b = some o) → Q (.ref it) { s with heap := h', toks := tk }) :
    wpAny (model prog w) A (call (.type "itertools.combinations") [.ref l, .int (r : Int) t]) Q E s := by
  refine callType_new called_cmb (by decide +kernel) (typeCall_cmb_2 _ _) (newCall_cmb_2 _ _) (fun obj => F.args_object_init_3 obj _ _) entry_cmb_new (meets_cmb_rng l a0 b0 n (r : Int) t (Int.natCast_nonneg r) (by omega) hu) ⟨⟨hh, ⟨_, _, _, hl⟩, hsm, hsz⟩, fun h1 h' tk acc P it hi k1 z1 z2 ne hp hit k2 => ?_⟩
  rw [Int.toNat_natCast] at hit
  exact ⟨⟨_, hit, rfl⟩, h h1 h' tk acc P it hi k1 z1 z2 ne hp hit k2⟩
end
def iCmbR (K : PySem.W.Frag) (tn tr : TE) : TI := fun σ H R => tn σ H fun x H1 => ∃ n : Nat, x = .int n ∧ n < 9 ∧ tr σ H1 fun y H2 => ∃ r : Nat, y = .int r ∧ r < 1000 ∧ R (Itq (rgV 0 n) r) H2
theorem pi_cmbR {X : Cx} {tg : Expr} {e e2 : Expr} {tn tr : TE} {x : Str} {p p2 q pos : Pos} (hc : X.calm = true) (hg : Gl X x) (hm : X.mg x = some (.type "itertools.combinations")) (hg2 : Gl X "range") (hm2 : X.mg "range" = none) (he : PE X e tn) (hr : PE X e2 tr)
    (na : starEach [e] X.env = (false, eval e X.env) :: starEach [] X.env := by rfl)
    (hs : starEach [.Call (.Name "range" p2) [e] [] q, e2] X.env = (false, eval (.Call (.Name "range" p2) [e] [] q) X.env) :: starEach [e2] X.env := by rfl) (hs2 : starEach [e2] X.env = (false, eval e2 X.env) :: starEach [] X.env := by rfl) (hpl : (backTo pos (starEach [e2] X.env)).any (·.1) = false := by rfl) (hdb : (x == ("__debug__" : Str)) = false := by decide) :
    PI X tg (.Call (.Name x p) [.Call (.Name "range" p2) [e] [] q, e2] [] pos) (iCmbR X.K tn tr) := by
  refine ⟨fun pins s σ H R I h => ?_⟩
  refine Call_ (ld_glob I hg hm (PyProof.Rows.callWith_type1 (args_cons ?_ hs) hs hpl) hdb)
  refine Call_ (ld_blt I hg2 hm2 boot_range (PyProof.Rows.callWith_type1 (one_arg he I h (fun v s2 y H2 I2 rv q1 => ?_) na) na))
  obtain ⟨n, rfl, hn, q1⟩ := q1
  obtain ⟨t0, rfl⟩ := rv
  refine call_range_1 ?_
  have f2 : FpOk X pins H2 s2.heap.objs.size := I2.fpOk (Nat.le_refl _) (I2.hok.fresh (Nat.le_refl _))
  have hr0 := IsRange.new s2.heap 0 n 1 s2.toks t0 (s2.toks + 1)
  have I3 : Inv X pins σ H2 { s2 with heap := s2.heap.push { cls := .type "range", data := .fields #[.int 0 s2.toks, .int n t0, .int 1 (s2.toks + 1)] }, toks := s2.toks + 1 + 1 } := I2.kept fun b u e => Heap.get?_push_of_some _ e
  have I4 := I3.pinned (fp := [s2.heap.objs.size]) (fun b hb => by
    have e : b = s2.heap.objs.size := by simpa using hb
    exact e ▸ f2) fun b hb => by
    have e : b = s2.heap.objs.size := by simpa using hb
    subst e
    exact ⟨_, hr0, fun v z => nomatch z⟩
  refine one_arg hr I4 q1 (fun v2 s3 y H3 I5 rv2 q2 => ?_) hs2
  obtain ⟨r, rfl, hr1, q⟩ := q2
  obtain ⟨t1, rfl⟩ := rv2
  have hr2 : IsRange s3.heap s2.heap.objs.size 0 n 1 s2.toks t0 (s2.toks + 1) := (I5.pin _ (List.mem_append_right _ (List.mem_append_right _ (mem_pinsAt (fp := [s2.heap.objs.size]) (by simp) hr0)))).1
  have I6 : Inv X pins σ H3 s3 := I5.unpinned
  refine call_cmbR (I6.ok.hd hc) hr2 (small_one (by decide) (by decide) (by omega) (by omega)) (rangeSize_nat 0 n) (by omega) (by omega) fun h1 h' tk acc P it hi k1 z1 z2 ne hp hit k2 => iter_cmb hit ?_
  have I7 : Inv X pins σ H3 { s3 with heap := h1 } := I6.kept (t' := s3.toks) k1
  have I8 : Inv X pins σ H3 { s3 with heap := h', toks := tk } := I7.kept (t' := tk) k2
  have rv : Vals (rgV 0 n) acc.toList := vals_rg hi
  have hl := rv.length
  have hl2 : acc.toList.length = n := by rw [← hl, rgV_length]; omega
  refine ⟨it, [it, P], _, _, H3, rfl, I8, turn_cmb (r := r) it P rv (by omega) hr1, ⟨Ne.symm ne, hp, _, _, _, hit, ?_⟩, fun c hcm => ?_, q⟩
  · rcases Nat.lt_or_ge acc.toList.length r with z | z
    · rw [if_pos z]
      exact .inr (.inr ⟨rfl, by rw [show cmbI acc.toList.length r = [] from cmb_none (by rw [List.length_range]; exact z)]; exact Nat.le_refl _⟩)
    · rw [if_neg (by omega)]
      obtain ⟨nx, run, chk⟩ := cmb_ex
      obtain ⟨g0, g1⟩ := step_get (chk acc.toList.length (by omega) r (by omega))
      exact .inl ⟨rfl, rfl, g0⟩
  · have e' : c = it ∨ c = P := by simpa using hcm
    rcases e' with rfl | rfl
    · exact I7.fpOk z2 (I7.hok.fresh z2)
    · exact I7.fpOk z1 (I7.hok.fresh z1)
end CpCmb
namespace Ds
open PySem PySem.Spec PyProof.Rows L2 CpCmb
theorem pi_cmbRK {X : Cx} {K : PySem.W.Frag} {tg : Expr} {e e2 : Expr} {tn tr : TE} {x : Str} {p p2 q pos : Pos} (hc : X.calm = true) (hg : Gl X x) (hm : X.mg x = some (.type "itertools.combinations")) (hg2 : Gl X "range") (hm2 : X.mg "range" = none) (he : PE X e tn) (hr : PE X e2 tr) (hK : X.K = K := by rfl)
    (na : starEach [e] X.env = (false, eval e X.env) :: starEach [] X.env := by rfl)
    (hs : starEach [.Call (.Name "range" p2) [e] [] q, e2] X.env = (false, eval (.Call (.Name "range" p2) [e] [] q) X.env) :: starEach [e2] X.env := by rfl) (hs2 : starEach [e2] X.env = (false, eval e2 X.env) :: starEach [] X.env := by rfl) (hpl : ((backTo pos (starEach [e2] X.env)).any fun x => x.1) = false := by rfl) (hdb : (x == ("__debug__" : Str)) = false := by decide) :
    PI X tg (.Call (.Name x p) [.Call (.Name "range" p2) [e] [] q, e2] [] pos) (iCmbR K tn tr) := hK ▸ pi_cmbR hc hg hm hg2 hm2 he hr na hs hs2 hpl hdb
end Ds
end F66
section F67
/-! combinations(range(n), r). -/
namespace Da
open PySem PySem.Spec PyProof.Rows L2 He Ds CpCmb
variable [Tabl]
section
variable {K : PySem.W.Frag} {W : WX} {c : Cc} {G G' H : Hp} {σ : L2.St} {ρ : List Slot} {T : List En}
def rgN (n : Nat) : List D := (List.range n).map fun i : Nat => D.int (i : Int)
def itCmbN (a : D) : Option Nat := match a with
  | .int n => if 0 ≤ n ∧ n < 9 then some n.toNat else none
  | _ => none
def itCmbR (n : Nat) (b : Bool × D) : Option (List (Bool × D)) := match b.2 with
  | .int r => if 0 ≤ r ∧ r < 1000 then some (cbD true (rgN n) r.toNat) else none
  | _ => none
def mCmbR (m1 m2 : M (Bool × D)) : M (List (Bool × D)) := mb m1 fun a => match itCmbN a.2 with
  | some n => mIt (itCmbR n) m2
  | none => mno
theorem rgN_dr {F : Addr → Prop} (n : Nat) : DrA K G F (rgV 0 n) (rgN n) := by
  unfold rgV rgN
  rw [show ((n : Int) - 0).toNat = n from by omega]
  generalize List.range n = l
  induction l with
  | nil => exact .nil
  | cons i l ih =>
    rw [List.map_cons, List.map_cons]
    refine .cons ?_ ih
    rw [Int.zero_add]
    exact .int _
theorem di_cmbR {t1 t2 : TE} {m1 m2 : M (Bool × D)} (h1 : DE K W t1 m1) (h2 : DE K W t2 m2) : DI K W (iCmbR K t1 t2) (mCmbR m1 m2) := by
  intro c G H σ ρ T R' hK hl R p
  refine h1 c G H σ ρ T _ hK hl R (Post.imp (Post.bind p) fun a ρ1 G1 H1 hl1 R1 s1 q v dv => ?_)
  cases e : itCmbN a.2 with
  | none => rw [e] at q; exact q.elim
  | some n =>
    rw [e] at q
    dsimp only at q
    obtain ⟨f, a⟩ := a
    unfold itCmbN at e
    split at e
    · rename_i n0 e0
      split at e
      · rename_i hn
        obtain ⟨k, rfl⟩ := Int.eq_ofNat_of_zero_le hn.1
        have ek : k = n := by rw [Int.toNat_natCast] at e; exact Option.some.inj e
        subst ek
        dsimp only at e0
        subst e0
        cases dv
        refine ⟨k, rfl, by omega, ?_⟩
        refine it_core (te := t2) h2 hK hl1 R1 q fun b u its G2 H2 ρ2 hl2 R2 s2 r e q => ?_
        subst hK
        obtain ⟨fb, b⟩ := b
        unfold itCmbR at e
        split at e
        · rename_i r0 e1
          split at e
          · rename_i hr
            cases e
            obtain ⟨m, rfl⟩ := Int.eq_ofNat_of_zero_le hr.1
            dsimp only at e1
            subst e1
            cases r
            refine ⟨m, rfl, by omega, q _ fun i Gc Hc Ec RR _ s3 => (fun s4 => ⟨fun a ha => ?_, fun hi => ?_⟩) RR.gs⟩
            · unfold cbD at ha
              rw [List.getElem?_map] at ha
              have hlen : (rgN k).length = (rgV 0 k).length := by unfold rgN; rw [rgV_length, List.length_map, List.length_range]; omega
              cases e2 : (cmbI (rgN k).length ((m : Nat) : Int).toNat)[i]? with
              | none => rw [e2] at ha; cases ha
              | some ix =>
                rw [e2] at ha
                have e3 : (true || flatDs (pkD (rgN k) ix), D.tup (pkD (rgN k) ix)) = a := Option.some.inj ha
                subst e3
                rw [Int.toNat_natCast, hlen] at e2
                refine ⟨by show i < (cmbI (rgV 0 k).length m).length; exact (List.getElem?_eq_some_iff.mp e2).1, fun x H' hy => ?_⟩
                obtain ⟨P, ix', e4, rfl, hP, rfl⟩ := hy
                rw [e2] at e4
                cases e4
                have gP : Gc P = none := s4.free hP
                have sG : ∀ o, Same Gc (upd Gc P o) := fun o => same_new (Same.refl Gc) gP
                refine ⟨upd Gc P (.tup (ix.filterMap fun j => (rgV 0 k)[j]?)), same_new (Same.refl Hc) hP, sG _, fun b u e => ?_, fun b hb => upd_ne fun e => hb (e ▸ hP), ?_⟩
                · by_cases hb : b = P
                  · subst hb
                    rw [upd_same] at e ⊢
                    exact e
                  · rw [upd_ne hb] at e ⊢
                    exact s4 b u e
                · exact .tup upd_same ((draPick (G := Gc) (rgN_dr k) ix).up (sG _))
            · show (cmbI (rgV 0 k).length m).length ≤ i
              have hi2 : (cbD true (rgN k) ((m : Nat) : Int).toNat).length ≤ i := hi
              unfold cbD at hi2
              rw [List.length_map, Int.toNat_natCast] at hi2
              have hlen : (rgN k).length = (rgV 0 k).length := by unfold rgN; rw [rgV_length, List.length_map, List.length_range]; omega
              rwa [hlen] at hi2
          · cases e
        · cases e
      · cases e
    · cases e
end
/-! n >> k -/
def dShr := dI (fun _ j => decide (0 ≤ j)) fun i j => .int (i / 2 ^ j.toNat)
theorem s_shr {K : PySem.W.Frag} : OpS K (rI (fun _ j => 0 ≤ j) fun i j => .int (i / 2 ^ j.toNat)) dShr := ops_int (fun i j h => of_decide_eq_true h) fun _ _ => .int _
/-- the places of r among n, each in a tuple -/
theorem cb_rg (n r : Nat) : cbD true (rgN n) r = (cmbI n r).map fun ix => (true, D.tup (ix.map fun j : Nat => D.int (j : Int))) := by
  unfold cbD
  rw [show (rgN n).length = n from by unfold rgN; rw [List.length_map, List.length_range]]
  refine List.map_congr_left fun ix hx => ?_
  obtain ⟨m1, m2⟩ := cmb_lt hx
  have : pkD (rgN n) ix = ix.map fun j : Nat => D.int (j : Int) := by
    unfold pkD
    clear hx m1
    induction ix with
    | nil => rfl
    | cons j ix ih =>
      have hj := List.mem_range.mp (m2 j List.mem_cons_self)
      have e : (rgN n)[j]? = some (D.int (j : Int)) := by
        unfold rgN
        rw [List.getElem?_map, List.getElem?_range hj]; rfl
      rw [List.filterMap_cons, e, List.map_cons, ih fun k hk => m2 k (List.mem_cons_of_mem _ hk)]
  rw [this]; rfl
theorem j_cmbR {ρ ρ1 ρ2 : List Slot} {m1 m2 : M (Bool × D)} {f g : Bool} {n r : Nat} (h1 : m1 ρ = .ok (f, .int n) ρ1) (hn : n < 9) (h2 : m2 ρ1 = .ok (g, .int r) ρ2) (hr : r < 1000) :
    mCmbR m1 m2 ρ = .ok ((cmbI n r).map fun ix => (true, D.tup (ix.map fun j : Nat => D.int (j : Int)))) ρ2 := by
  unfold mCmbR mb
  rw [h1]
  dsimp only
  rw [show itCmbN (D.int (n : Int)) = some n from by
    unfold itCmbN
    dsimp only
    rw [if_pos ⟨Int.natCast_nonneg n, by omega⟩, Int.toNat_natCast]]
  dsimp only
  unfold mIt mb
  rw [h2]
  dsimp only
  rw [show itCmbR n (g, D.int (r : Int)) = some (cbD true (rgN n) r) from by
    unfold itCmbR
    dsimp only
    rw [if_pos ⟨Int.natCast_nonneg r, by omega⟩, Int.toNat_natCast], cb_rg]
  rfl
end Da
end F67
section F68
/-! A list of one's own handed to a def that only looks at it. -/
namespace Da
open PySem PySem.Spec PyProof.Rows L2 He Ds
section
variable [Tabl]
variable {K : PySem.W.Frag} {W : WX} {c : Cc} {G G' H : Hp} {σ : L2.St} {ρ : List Slot} {T : List En}
def mBor (i : Nat) (f : List D → Out) (ma : M (List Slot)) : M (Bool × D) := fun ρ => match ρ[i]? with
  | some (.own _ _) => mDats ma (fun r => fun ρ' => match ρ'[i]? with
    | some (.own _ ds) => (match f (.lst ds :: r.2) with
      | .ok true (.bl b) => .ok (true, .bl b) ρ'
      | _ => .no)
    | _ => .no) ρ
  | _ => .no
theorem spd_bor {f : List D → Out} {F0 : Addr → Prop} {fr : Bool} {xs ds : List D} {vs : List V} {Q : VK} {E' : XK} {E : List En} {p : Addr} {b : Bool} (R : Rel c G H ((some (.ref p), .own fr xs) :: E)) (hd : DrA c.K G F0 vs ds) (e : f (.lst xs :: ds) = .ok true (.bl b))
    (q : ∀ G' H', Rel c G' H' ((some (.ref p), .own fr xs) :: E) → Same G G' → Q (.bl b) H') : spD c.K f (.ref p :: vs) H Q E' := by
  obtain ⟨p', eq, h1, h2, ⟨h3, us, h4, h5⟩, h6⟩ := R.head rfl
  cases eq
  obtain ⟨R1, sG⟩ := R.freezeO rfl h4 h3
  refine ⟨upd G p (.lst us), .lst xs :: ds, R1.gs, R1.tb, .cons (.lst upd_same trivial (h5.top.up sG)) (hd.top.up sG), ?_⟩
  rw [e]
  intro v G1 H1 o tb s1 s2 gg h
  have hp1 : G1 p = some (.lst us) := s1 _ _ upd_same
  have hp2 : H1 p = some (.lst us) := s2 _ _ hp1
  have sG2 : Same G fun b => if b = p then none else G1 b := fun b u eb => by
    by_cases z : b = p
    · rw [z, h1] at eb; cases eb
    · show (if b = p then none else G1 b) = some u
      rw [if_neg z]
      exact s1 b u (by rw [upd_ne z]; exact eb)
  have tb2 : TbsAt c.K (fun b => if b = p then none else G1 b) H1 := fun t ht => by
    obtain ⟨k1, ps, k2, k3, k4⟩ := tb t ht
    have np : t.1 ≠ p := fun z => by rw [z, hp2] at k2; cases k2
    refine ⟨by show (if t.1 = p then none else G1 t.1) = none; rw [if_neg np]; exact k1, ps, k2, k3, fun pos cv ec => ?_⟩
    obtain ⟨a, e1, e2⟩ := k4 pos cv ec
    refine ⟨a, e1, ?_⟩
    have na : a ≠ p := fun z => by rw [z, hp1] at e2; cases e2
    show (if a = p then none else G1 a) = _
    rw [if_neg na]; exact e2
  have R2 : Rel c (fun b => if b = p then none else G1 b) H1 ((some (.ref p), .own fr xs) :: E) := R.growO o tb2 sG2 (fun b u eb => by
    by_cases z : b = p
    · have : (none : Option HO) = some u := by rw [← eb]; show none = (if b = p then none else G1 b); rw [if_pos z]
      cases this
    · refine s2 b u ?_
      have : (if b = p then none else G1 b) = some u := eb
      rwa [if_neg z] at this) fun b hb => by
    by_cases z : b = p
    · show (if b = p then none else G1 b) = G b
      rw [if_pos z, z, h1]
    · show (if b = p then none else G1 b) = G b
      rw [if_neg z, gg b hb, upd_ne z]
  cases h
  exact q _ _ R2 sG2
theorem de_bor {i : Nat} {f : List D → Out} {ta : TA} {ma : M (List Slot)} (ha : DA K W ta ma) : DE K W (tCall (spD K f) [] E0 (tCons (tVar i) ta)) (mBor i f ma) := by
  intro c G H σ ρ T Q hK hl R p
  unfold mBor at p
  cases e : ρ[i]? with
  | none => rw [e] at p; exact p.elim
  | some s => cases s with
    | own f0 d0 =>
      rw [e] at p
      dsimp only at p
      obtain ⟨o, e1, e2⟩ := zip_get hl e
      obtain ⟨p0, rfl, _⟩ := (slot_own (s := .own f0 d0) rfl).mp (R.sl _ (zip_mem e2))
      refine ⟨.ref p0, e1, ?_⟩
      refine dats_core ha hK hl R p fun fr ds vs G2 H2 ρ2 hl2 R2 s2 hd hn q => ?_
      subst hK
      dsimp only at q
      cases e3 : ρ2[i]? with
      | none => rw [e3] at q; exact q.elim
      | some s3 => cases s3 with
        | own f3 d3 =>
          rw [e3] at q
          dsimp only at q
          obtain ⟨o4, e4, e5⟩ := zip_get hl2 e3
          have eo : o4 = some (.ref p0) := Option.some.inj (e4.symm.trans e1)
          subst eo
          cases ef : f (.lst d3 :: ds) with
          | ok b d =>
            rw [ef] at q
            cases b with
            | true =>
              cases d with
              | bl b =>
                dsimp only at q
                rw [List.append_nil]
                refine spd_bor (R2.out e5) hd ef fun G1 H1 R3 sG => ?_
                exact q hl2 G1 H1 (R3.perm ((cons_erase e5).symm.append_right T)) sG _ (.bl b)
              | _ => exact q.elim
            | false => exact q.elim
          | _ => rw [ef] at q; exact q.elim
        | _ => rw [e3] at q; exact q.elim
    | _ => rw [e] at p; exact p.elim
end
theorem j_bor {ρ ρ1 : List Slot} {i : Nat} {f : List D → Out} {ma : M (List Slot)} {g f0 f1 b : Bool} {d0 d1 ds : List D} (h : Args ma ρ g ds ρ1) (h0 : ρ[i]? = some (.own f0 d0)) (h1 : ρ1[i]? = some (.own f1 d1)) (h2 : f (.lst d1 :: ds) = .ok true (.bl b)) : mBor i f ma ρ = .ok (true, .bl b) ρ1 := by
  obtain ⟨ss, e1, e2⟩ := h
  unfold mBor
  rw [h0]
  dsimp only
  unfold mDats mb
  rw [e1]
  dsimp only
  rw [e2]
  dsimp only
  rw [h1]
  dsimp only
  rw [h2]
end Da
end F68
section F69
namespace Da
open PySem PySem.Spec PyProof.Rows L2 He Ds
def B_law_subsets_1 : S := (sDrop (mMut 1 (maCons (mDat (mKeep (mComp [4] (mRng rng1 (maCons (mDat (mVar 0)) (mp []))) (tgName 4) (mT (mOp dEq (mE (mOp dMod (mE (mUn dInt (mE (mOp dShr (mLook 2) (mLook 4))))) (mE (mp (true, D.int 2))))) (mE (mp (true, D.int 1))))) (mVar 4)))) (mp [])) kAppend))
noncomputable def D_law_subsets : List D → Out := runD 6 1 (sSeq (sSetO 1 (mLst (mp [])))
 (sSeq (sFor (mRng rng1 (maCons (mDat (mOp dShl (mE (mp (true, D.int 1))) (mLook 0))) (mp []))) (tgName 2)
 B_law_subsets_1)
 (sRet (mKeep (mComp [3] (mIt itList (mKeep (mOne mSortK (mE (mKeep (mCompO [5] 1 (tgName 5) (mp true) (mTup (maCons (mDat (mUn dLen (mLook 5))) (maCons (mDat (mVar 5)) (mp [])))))))))) (tgName 3) (mp true) (mBin mIxT (mLook 3) (mE (mp (true, D.int 1)))))))))
def B_law_due_1 : S := (sIf (mT (mOp dEq (mE (mKeep (mCompO [6] 3 (tgName 6) (mT (mOp dEq (mE (mKeep (mComp [7] (mIt itList (mVar 6)) (tgName 7) (mT (mOp dNotIn (mLook 7) (mLook 4))) (mVar 7)))) (mE (mKeep (mLst (mp [])))))) (mp (true, D.int 1))))) (mE (mKeep (mLst (mp []))))))
 (sSeq (sSet 5 (mKeep (mComp [7, 8] (mEnum (maCons (mDat (mBin mIxT (mLook 0) (mE (mp (true, D.int 2))))) (mp []))) (tgTup 2 (tgsCons (tgName 7) (tgsCons (tgName 8) tgsNil))) (mT (mOp dNotIn (mLook 7) (mLook 4))) (mVar 8))))
 (sIf (mT (mOp dIsN (mE (mCall D_law_stuck (maCons (mDat (mTup (maCons (mDat (mBin mIxT (mLook 0) (mE (mp (true, D.int 0))))) (maCons (mDat (mBin mIxT (mLook 0) (mE (mp (true, D.int 1))))) (maCons (mDat (mVar 5)) (mp [])))))) (maCons (mDat (mVar 1)) (maCons (mDat (mVar 2)) (mp [])))))) (mE (mp (true, D.non)))))
 (sDrop (mMut 3 (maCons (mDat (mVar 4)) (mp [])) kAppend))
 sNil))
 sNil)
noncomputable def D_law_due : List D → Out := runD 9 3 (sSeq (sSetO 3 (mLst (mp [])))
 (sSeq (sFor (mIt itList (mCall D_law_subsets (maCons (mDat (mUn dLen (mE (mBin mIxT (mLook 0) (mE (mp (true, D.int 2))))))) (mp [])))) (tgName 4)
 B_law_due_1)
 (sRet (mRetV 3))))
def D_is_told_withoutS : List D → Out := runD 7 4 (sSeq (sSet 4 (mKeep (mComp [5, 6] (mEnum (maCons (mDat (mProp "Diagram" D_Diagram_pairs (mVar 0))) (mp []))) (tgTup 2 (tgsCons (tgName 5) (tgsCons (tgName 6) tgsNil))) (mT (mOp dNotInA (mLook 5) (mLook 3))) (mVar 6))))
 (sRet (mCallX D_is_told (maCons (mDat (mMakeX "Diagram" D_Diagram_init (maCons (mDat (mProp "Diagram" D_Diagram_names (mVar 0))) (maCons (mDat (mProp "Diagram" D_Diagram_arrows (mVar 0))) (maCons (mDat (mVar 4)) (mp [])))))) (maCons (mDat (mVar 1)) (maCons (mDat (mVar 2)) (mp [])))))))
def D_holds_one : List D → Out := runD 4 2 (sRet (mUn dAnyB (mE (mKeep (mComp [2] (mIt itList (mVar 0)) (tgName 2) (mp true) (mUn dAllB (mE (mKeep (mComp [3] (mIt itList (mVar 2)) (tgName 3) (mp true) (mOp dInA (mLook 3) (mLook 1)))))))))))
def B_cures_1 : S := (sIf (mAnd (mNot (mT (mBor 4 D_holds_one (maCons (mDat (mVar 6)) (mp []))))) (mT (mCallX D_is_told_withoutS (maCons (mDat (mVar 0)) (maCons (mDat (mVar 1)) (maCons (mDat (mVar 2)) (maCons (mDat (mVar 6)) (mp []))))))))
 (sDrop (mMut 4 (maCons (mDat (mKeep (mOne mListK (mLook 6)))) (mp [])) kAppend))
 sNil)
def B_cures_2 : S := (sFor (mCmbR (mVar 3) (mVar 5)) (tgName 6)
 B_cures_1)
def D_cures : List D → Out := runD 7 3 (sSeq (sDrop (mCallX D_check_asked (maCons (mDat (mVar 0)) (maCons (mDat (mVar 1)) (maCons (mDat (mVar 2)) (mp []))))))
 (sSeq (sSet 3 (mUn dLen (mE (mProp "Diagram" D_Diagram_pairs (mVar 0)))))
 (sSeq (sSetO 4 (mLst (mp [])))
 (sSeq (sFor (mRng rng1 (maCons (mDat (mOp dAdd (mLook 3) (mE (mp (true, D.int 1))))) (mp []))) (tgName 5)
 B_cures_2)
 (sRet (mRetV 4))))))
noncomputable def B_law_right_1 : S := (sSeq (sIf (mT (mOp dNeR (mE (mUn dRepr (mE (mCall D_cures (maCons (mDat (mVar 4)) (maCons (mDat (mVar 6)) (maCons (mDat (mVar 7)) (mp [])))))))) (mE (mUn dRepr (mLook 5)))))
 (sRet (mp (true, D.bl false)))
 sNil)
 (sSeq (sSet 10 (mKeep (mSl mSlL (mE (mKeep (mComp [11] (mIt itList (mBin mIxT (mLook 1) (mE (mp (true, D.int 0))))) (tgName 11) (mT (mOp dNotIn (mLook 11) (mLook 2))) (mVar 11)))) (mp none) (mPart (mp (true, D.int 3))))))
 (sRet (mOp dEqR (mE (mUn dRepr (mE (mCall D_cures (maCons (mDat (mVar 4)) (maCons (mDat (mVar 6)) (maCons (mDat (mVar 10)) (mp [])))))))) (mE (mUn dRepr (mE (mCall D_law_due (maCons (mDat (mVar 1)) (maCons (mDat (mVar 2)) (maCons (mDat (mVar 10)) (mp []))))))))))))
noncomputable def D_law_right : List Int → List D → OutP := runP 12 1 (sSeq (sAsg (tgTup 3 (tgsCons (tgName 1) (tgsCons (tgName 2) (tgsCons (tgName 3) tgsNil)))) (mPool 0 D_law_case (maCons (mDat (mp (true, D.int 6))) (mp []))))
 (sSeq (sPar [4, 5] (maCons (mDat (mCall D_law_made (maCons (mDat (mVar 1)) (mp [])))) (maCons (mDat (mCall D_law_due (maCons (mDat (mVar 1)) (maCons (mDat (mVar 2)) (maCons (mDat (mVar 3)) (mp [])))))) (mp []))))
 (sSeq (sPar [6, 7] (maCons (mDat (mKeep (mOne mListK (mLook 2)))) (maCons (mDat (mKeep (mOne mListK (mLook 3)))) (mp []))))
 (sScrL 8 9 D_cures (maCons (mDat (mVar 4)) (maCons (mDat (mVar 6)) (maCons (mDat (mVar 7)) (mp [])))) (mCallK 3 [2, 1, 0] D_cures (maCons (mDat (mVar 7)) (maCons (mDat (mVar 6)) (maCons (mDat (mVar 4)) (mp []))))) (rIf (mOr (mT (mOp dNeR (mE (mUn dRepr (mLook 8))) (mE (mUn dRepr (mE (mKeep (mLst (maCons (mDat (mVar 5)) (maCons (mDat (mVar 5)) (mp [])))))))))) (mT (mOp dNe (mE (mKeep (mLst (maCons (mDat (mVar 6)) (maCons (mDat (mVar 7)) (mp [])))))) (mE (mKeep (mLst (maCons (mDat (mVar 2)) (maCons (mDat (mVar 3)) (mp []))))))))) (sRet (mp (true, D.bl false)))) mu_for B_law_right_1))))
end Da
end F69
namespace Da
open PySem PySem.Spec PyProof.Rows L2 He Ds
local macro_rules | `(tactic| walk_at "a2ev") => `(tactic| try simp only [runD, runP, runI, initS, sSeq, sE, sSet, sSetO, sSetD, sRet, sRetN, sNil, sIf, sDrop, sAsg, sPar, sRaise, setAll, mb, mp, mo, mno, mVar, mLook, lookV, isSet, mE, mOp, mUn, mBin, mOne, mT, mBl, mTru, truD, mAnd, mOr, mNot, mAndV, mOrV, mNotV, mNotT, mIf, mTup, mLst, mKeep, mDats, dats, mDat, mOwn, maCons, mCall, mCallX, mRetV, mFld, fldD, mProp, outN, outM, isObj, flatD, flatDs, mMut, onOwn, getOwn, kAppend, kInsert, kPopAt, kExtend, mPop, sPut, sGuard, hasDct, putS, mDisp1, keyOf, mListK, mCatK, mIxL, mIxT, mSl, mSlL, mPart, sSelfC, outI, outIN, mMake, mMakeX, mMeth, mMethN, isObjM, tgName, tgTup, tgsCons, tgsNil,
  List.map_cons, List.map_nil, List.length_cons, List.length_nil, List.cons_append, List.nil_append, List.replicate, List.getElem?_cons_zero, List.getElem?_cons_succ, List.set_cons_zero, List.set_cons_succ, if_true, if_false, ite_true, ite_false, Bool.true_and, Bool.and_true, Bool.or_true, Bool.true_or, Bool.false_or, Bool.or_false, Bool.false_and, Bool.and_false, Option.map_some, Option.bind_some, Nat.add_eq, Nat.reduceAdd, Nat.reduceSub, Nat.reduceLeDiff, Nat.reduceLT, Nat.reduceEqDiff, Option.isSome_some, reduceCtorEq, decide_true, decide_false, Bool.not_true, Bool.not_false, not_true_eq_false, not_false_eq_true, Bool.not_eq_true, in_strs, notIn_strs, in_prs, eq_str, ne_str, eq_int, ne_int, eq_bl, ne_bl, eq_strs, ne_strs, eq_strss])
local macro_rules | `(tactic| walk_at "a2evh") => `(tactic| try simp only [runD, runP, runI, initS, sSeq, sE, sSet, sSetO, sSetD, sRet, sRetN, sNil, sIf, sDrop, sAsg, sPar, sRaise, setAll, mb, mp, mo, mno, mVar, mLook, lookV, isSet, mE, mOp, mUn, mBin, mOne, mT, mBl, mTru, truD, mAnd, mOr, mNot, mAndV, mOrV, mNotV, mNotT, mIf, mTup, mLst, mKeep, mDats, dats, mDat, mOwn, maCons, mCall, mCallX, mRetV, mFld, fldD, mProp, outN, outM, isObj, flatD, flatDs, mMut, onOwn, getOwn, kAppend, kInsert, kPopAt, kExtend, mPop, sPut, sGuard, hasDct, putS, mDisp1, keyOf, mListK, mCatK, mIxL, mIxT, mSl, mSlL, mPart, sSelfC, outI, outIN, mMake, mMakeX, mMeth, mMethN, isObjM, tgName, tgTup, tgsCons, tgsNil,
  List.map_cons, List.map_nil, List.length_cons, List.length_nil, List.cons_append, List.nil_append, List.replicate, List.getElem?_cons_zero, List.getElem?_cons_succ, List.set_cons_zero, List.set_cons_succ, if_true, if_false, ite_true, ite_false, Bool.true_and, Bool.and_true, Bool.or_true, Bool.true_or, Bool.false_or, Bool.or_false, Bool.false_and, Bool.and_false, Option.map_some, Option.bind_some, Nat.add_eq, Nat.reduceAdd, Nat.reduceSub, Nat.reduceLeDiff, Nat.reduceLT, Nat.reduceEqDiff, Option.isSome_some, reduceCtorEq, decide_true, decide_false, Bool.not_true, Bool.not_false, not_true_eq_false, not_false_eq_true, Bool.not_eq_true, in_strs, notIn_strs, in_prs, eq_str, ne_str, eq_int, ne_int, eq_bl, ne_bl, eq_strs, ne_strs, eq_strss, *])
local macro_rules | `(tactic| walk_at "b3rdx") => `(tactic| repeat (first | with_reducible apply k_E | with_reducible apply k_op | with_reducible apply k_bin | with_reducible apply k_ixL | with_reducible apply k_un | with_reducible apply k_one | with_reducible apply k_dat | with_reducible apply k_own | with_reducible apply k_keep | with_reducible apply k_cons | with_reducible apply k_tup | with_reducible apply k_lst | with_reducible apply k_rng | with_reducible apply k_it | with_reducible apply k_pool | with_reducible apply k_mut | with_reducible apply k_T | with_reducible apply k_tru | with_reducible apply k_and | with_reducible apply k_or | with_reducible apply k_not | with_reducible apply k_seq | with_reducible apply k_drop | with_reducible apply k_if | with_reducible apply k_ret | with_reducible apply k_par | with_reducible apply k_for | with_reducible apply k_comp | with_reducible apply k_set | with_reducible apply k_setO | with_reducible apply k_step2 | with_reducible apply k_callK | with_reducible apply k_mif | with_reducible apply k_compO | with_reducible apply k_call | with_reducible apply k_callX | with_reducible apply k_prop | with_reducible apply k_fld | with_reducible apply k_make | with_reducible apply k_makeX | with_reducible apply k_catK | with_reducible apply k_enum | with_reducible apply k_look | with_reducible apply k_mp | ((with_reducible apply k_iteT); (first | rfl | assumption)) | ((with_reducible apply k_iteF); (first | rfl | assumption)) | assumption | with_reducible rfl | rfl))
local macro_rules | `(tactic| walk_at "b3rdg") => `(tactic| (apply Eq.trans; walk_at "b3rdx"))
section F70
open PySem PySem.Spec PyProof.Rows L2 He Ds
/-! ### the pool -/
def PoolOk (ns : List Int) (n : Nat) : Prop := ∃ a b c : Int, ns = [a, b, c] ∧ 0 ≤ a ∧ 0 ≤ b ∧ b < 2 ^ 62 ∧ 0 ≤ c ∧ c ≤ n
theorem PoolOk.mono {ns : List Int} {n m : Nat} (h : PoolOk ns n) (l : n ≤ m) : PoolOk ns m := by
  obtain ⟨a, b, c, h1, h2, h3, h4, h5, h6⟩ := h
  exact ⟨a, b, c, h1, h2, h3, h4, h5, by omega⟩
theorem dgt_int (x y : Int) : dGt (.int x) (.int y) = some (.bl (decide (y < x))) := rfl
theorem dadd_int (x y : Int) : dAdd (.int x) (.int y) = some (.int (x + y)) := rfl
theorem dmod_int {x y : Int} (h : 0 < y) : dMod (.int x) (.int y) = some (.int (x % y)) := by
  unfold dMod dI; exact if_pos (decide_eq_true h)
theorem log_lt {x : Int} {n : Nat} (h : x.natAbs < 2 ^ n) (h0 : 0 < n) : x.natAbs.log2 < n := PySem.Flt.log2_lt_of h0 h
theorem dfdiv_int {x y : Int} (h : 0 < y) (h2 : y < 2 ^ 200) : dFdiv (.int x) (.int y) = some (.int (x / y)) := by
  unfold dFdiv dI
  have := log_lt (x := y) (n := 200) (by omega) (by decide)
  exact if_pos (by simp [h]; omega)
theorem dmul_int {x y : Int} (h : x.natAbs < 2 ^ 200) (h2 : y.natAbs < 2 ^ 200) : dMul (.int x) (.int y) = some (.int (x * y)) := by
  unfold dMul dI
  have := log_lt h (by decide)
  have := log_lt h2 (by decide)
  exact if_pos (decide_eq_true (by omega))
theorem dpow3 {x : Int} (h : x.natAbs < 2 ^ 200) : dPow (.int x) (.int 3) = some (.int (x ^ 3)) := by
  unfold dPow dI
  have := log_lt h (by decide)
  exact if_pos (by simp; omega)
theorem dint_int (x : Int) : dInt (.int x) = some (.int x) := rfl
theorem runP_ok {N n : Nat} {s : S} {ns ns' : List Int} {ds : List D} {fr : Bool} {d : D} (hn : ds.length + 1 = n) (h : ∃ ρ, s (initS N (.pool ns :: ds.map (.dat false))) = .rt fr d (.pool ns' :: ρ)) : runP N n s ns ds = .ok (fr || flatD d) d ns' := by
  obtain ⟨ρ, h⟩ := h
  unfold runP
  rw [if_pos hn, h]
theorem seq_nx {a b : S} {ρ ρ1 : List Slot} (h : a ρ = .nx ρ1) : sSeq a b ρ = b ρ1 := by
  unfold sSeq; rw [h]
theorem at3_0 {a b c : D} : atI [a, b, c] 0 = some a := rfl
theorem at3_1 {a b c : D} : atI [a, b, c] 1 = some b := rfl
theorem at3_2 {a b c : D} : atI [a, b, c] 2 = some c := rfl
theorem ixN3_0 : ixN 3 0 = some 0 := rfl
theorem ixN3_2 : ixN 3 2 = some 2 := rfl
theorem ev_draw {ns : List Int} {n : Nat} {m : Int} (h : PoolOk ns n) (hn : n ≤ 1000000000) (hm : 0 < m) (hm2 : m < 2 ^ 200) : ∃ d ns', D_law_draw ns [.int m] = .ok true (.int d) ns' ∧ 0 ≤ d ∧ d < m ∧ PoolOk ns' (n + 1) := by
  obtain ⟨a, b, c, rfl, ha, hb, hb2, hc, hcn⟩ := h
  by_cases c0 : 0 < a
  · refine ⟨a % m, [a / m, b, c], ?_, Int.emod_nonneg _ (by omega), Int.emod_lt_of_pos _ hm, _, _, _, rfl, Int.ediv_nonneg ha (by omega), hb, hb2, hc, by omega⟩
    unfold D_law_draw
    refine (runP_ok (fr := true) rfl ?_).trans rfl
    try simp only [runD, runP, runI, initS, sSeq, sE, sSet, sSetO, sSetD, sRet, sRetN, sNil, sIf, sDrop, sAsg, sPar, sRaise, setAll, mb, mp, mo, mno, mVar, mLook, lookV, isSet, mE, mOp, mUn, mBin, mOne, mT, mBl, mTru, truD, mAnd, mOr, mNot, mAndV, mOrV, mNotV, mNotT, mIf, mTup, mLst, mKeep, mDats, dats, mDat, mOwn, maCons, mCall, mCallX, mRetV, mFld, fldD, mProp, outN, outM, isObj, flatD, flatDs, mMut, onOwn, getOwn, kAppend, kInsert, kPopAt, kExtend, mPop, sPut, sGuard, hasDct, putS, mDisp1, keyOf, mListK, mCatK, mIxL, mIxT, mSl, mSlL, mPart, sSelfC, outI, outIN, mMake, mMakeX, mMeth, mMethN, isObjM, tgName, tgTup, tgsCons, tgsNil, List.map_cons, List.map_nil, List.length_cons, List.length_nil, List.cons_append, List.nil_append, List.replicate, List.getElem?_cons_zero, List.getElem?_cons_succ, List.set_cons_zero, List.set_cons_succ, if_true, if_false, ite_true, ite_false, Bool.true_and, Bool.and_true, Bool.or_true, Bool.true_or, Bool.false_or, Bool.or_false, Bool.false_and, Bool.and_false, Option.map_some, Option.bind_some, Nat.add_eq, Nat.reduceAdd, Nat.reduceSub, Nat.reduceLeDiff, Nat.reduceLT, Nat.reduceEqDiff, Option.isSome_some, reduceCtorEq, decide_true, decide_false, Bool.not_true, Bool.not_false, not_true_eq_false, not_false_eq_true, Bool.not_eq_true, in_strs, notIn_strs, in_prs, eq_str, ne_str, eq_int, ne_int, eq_bl, ne_bl, eq_strs, ne_strs, eq_strss, sPoolSet, poolS, sGuard, hasPool, mPool, mCallP, at3_0, at3_1, at3_2, dgt_int, decide_eq_true c0, dint_int, dmod_int hm, dfdiv_int hm hm2, ixN3_0]
    exact ⟨_, rfl⟩
  · unfold D_law_draw
    have p1 : (0 : Int) < 162259276829213363391578010288127 := by decide
    have p2 : (162259276829213363391578010288127 : Int) < 2 ^ 110 := by decide
    have p3 : (0 : Int) < 170141183460469231731687303715884105727 := by decide
    have p4 : (0 : Int) < 1048576 ∧ (1048576 : Int) < 2 ^ 200 := by decide
    have p5 : (0 : Int) < 15485863 ∧ (15485863 : Int) < 2 ^ 30 := by decide
    have p6 : (0 : Int) < 32452843 ∧ (32452843 : Int) < 2 ^ 30 := by decide
    generalize (162259276829213363391578010288127 : Int) = M1 at p1 p2 ⊢
    generalize (170141183460469231731687303715884105727 : Int) = M2 at p3 ⊢
    generalize (1048576 : Int) = M3 at p4 ⊢
    generalize (15485863 : Int) = M4 at p5 ⊢
    generalize (32452843 : Int) = M5 at p6 ⊢
    have hp3 : ∀ x : Int, x.natAbs < 2 ^ 200 → dPow (.int x) (.int 3) = some (.int (x ^ 3)) := fun x h => dpow3 h
    have hmu : ∀ x y : Int, x.natAbs < 2 ^ 200 → y.natAbs < 2 ^ 200 → dMul (.int x) (.int y) = some (.int (x * y)) := fun x y h h2 => dmul_int h h2
    generalize dPow = P at hp3 ⊢
    generalize dMul = U at hmu ⊢
    have q4 : M4 * (c + 1) ≤ M4 * 2 ^ 40 := Int.mul_le_mul_of_nonneg_left (by omega) (by omega)
    have q5 : M5 * (c + 1) ≤ M5 * 2 ^ 40 := Int.mul_le_mul_of_nonneg_left (by omega) (by omega)
    have r4 : 0 ≤ M4 * (c + 1) := Int.mul_nonneg (by omega) (by omega)
    have r5 : 0 ≤ M5 * (c + 1) := Int.mul_nonneg (by omega) (by omega)
    have hg1 : U (.int M4) (.int (c + 1)) = some (.int (M4 * (c + 1))) := hmu _ _ (by omega) (by omega)
    have hg2 : U (.int M5) (.int (c + 1)) = some (.int (M5 * (c + 1))) := hmu _ _ (by omega) (by omega)
    have hg3 : P (.int (b + M4 * (c + 1))) (.int 3) = some (.int ((b + M4 * (c + 1)) ^ 3)) := hp3 _ (by omega)
    have e1 : 0 ≤ (b + M4 * (c + 1)) ^ 3 % M1 := Int.emod_nonneg _ (by omega)
    have e2 : (b + M4 * (c + 1)) ^ 3 % M1 < M1 := Int.emod_lt_of_pos _ p1
    have g5 : dMod (.int ((b + M4 * (c + 1)) ^ 3)) (.int M1) = some (.int ((b + M4 * (c + 1)) ^ 3 % M1)) := dmod_int p1
    generalize (b + M4 * (c + 1)) ^ 3 % M1 = x at e1 e2 g5
    generalize (b + M4 * (c + 1)) ^ 3 = y at hg3 g5
    have hg4 : P (.int (x + M5 * (c + 1))) (.int 3) = some (.int ((x + M5 * (c + 1)) ^ 3)) := hp3 _ (by omega)
    have g6 : dMod (.int ((x + M5 * (c + 1)) ^ 3)) (.int M2) = some (.int ((x + M5 * (c + 1)) ^ 3 % M2)) := dmod_int p3
    generalize (x + M5 * (c + 1)) ^ 3 = z at hg4 g6
    generalize z % M2 = w at g6
    refine ⟨w / M3 % m, [a, b, c + 1], ?_, Int.emod_nonneg _ (by omega), Int.emod_lt_of_pos _ hm, _, _, _, rfl, ha, hb, hb2, by omega, by omega⟩
    refine (runP_ok (fr := true) rfl ?_).trans rfl
    refine ⟨[.dat false (.int m), .no, .dat true (.int w)], (seq_nx (ρ1 := [.pool [a, b, c], .dat false (.int m), .no, .no]) ?_).trans ((seq_nx (ρ1 := [.pool [a, b, c + 1], .dat false (.int m), .no, .no]) ?_).trans
      ((seq_nx (ρ1 := [.pool [a, b, c + 1], .dat false (.int m), .no, .dat true (.int x)]) ?_).trans ((seq_nx (ρ1 := [.pool [a, b, c + 1], .dat false (.int m), .no, .dat true (.int w)]) ?_).trans ?_)))⟩
    · try simp only [runD, runP, runI, initS, sSeq, sE, sSet, sSetO, sSetD, sRet, sRetN, sNil, sIf, sDrop, sAsg, sPar, sRaise, setAll, mb, mp, mo, mno, mVar, mLook, lookV, isSet, mE, mOp, mUn, mBin, mOne, mT, mBl, mTru, truD, mAnd, mOr, mNot, mAndV, mOrV, mNotV, mNotT, mIf, mTup, mLst, mKeep, mDats, dats, mDat, mOwn, maCons, mCall, mCallX, mRetV, mFld, fldD, mProp, outN, outM, isObj, flatD, flatDs, mMut, onOwn, getOwn, kAppend, kInsert, kPopAt, kExtend, mPop, sPut, sGuard, hasDct, putS, mDisp1, keyOf, mListK, mCatK, mIxL, mIxT, mSl, mSlL, mPart, sSelfC, outI, outIN, mMake, mMakeX, mMeth, mMethN, isObjM, tgName, tgTup, tgsCons, tgsNil, List.map_cons, List.map_nil, List.length_cons, List.length_nil, List.cons_append, List.nil_append, List.replicate, List.getElem?_cons_zero, List.getElem?_cons_succ, List.set_cons_zero, List.set_cons_succ, if_true, if_false, ite_true, ite_false, Bool.true_and, Bool.and_true, Bool.or_true, Bool.true_or, Bool.false_or, Bool.or_false, Bool.false_and, Bool.and_false, Option.map_some, Option.bind_some, Nat.add_eq, Nat.reduceAdd, Nat.reduceSub, Nat.reduceLeDiff, Nat.reduceLT, Nat.reduceEqDiff, Option.isSome_some, reduceCtorEq, decide_true, decide_false, Bool.not_true, Bool.not_false, not_true_eq_false, not_false_eq_true, Bool.not_eq_true, in_strs, notIn_strs, in_prs, eq_str, ne_str, eq_int, ne_int, eq_bl, ne_bl, eq_strs, ne_strs, eq_strss, sPoolSet, poolS, sGuard, hasPool, mPool, mCallP, at3_0, dgt_int, decide_eq_false c0]
    · try simp only [runD, runP, runI, initS, sSeq, sE, sSet, sSetO, sSetD, sRet, sRetN, sNil, sIf, sDrop, sAsg, sPar, sRaise, setAll, mb, mp, mo, mno, mVar, mLook, lookV, isSet, mE, mOp, mUn, mBin, mOne, mT, mBl, mTru, truD, mAnd, mOr, mNot, mAndV, mOrV, mNotV, mNotT, mIf, mTup, mLst, mKeep, mDats, dats, mDat, mOwn, maCons, mCall, mCallX, mRetV, mFld, fldD, mProp, outN, outM, isObj, flatD, flatDs, mMut, onOwn, getOwn, kAppend, kInsert, kPopAt, kExtend, mPop, sPut, sGuard, hasDct, putS, mDisp1, keyOf, mListK, mCatK, mIxL, mIxT, mSl, mSlL, mPart, sSelfC, outI, outIN, mMake, mMakeX, mMeth, mMethN, isObjM, tgName, tgTup, tgsCons, tgsNil, List.map_cons, List.map_nil, List.length_cons, List.length_nil, List.cons_append, List.nil_append, List.replicate, List.getElem?_cons_zero, List.getElem?_cons_succ, List.set_cons_zero, List.set_cons_succ, if_true, if_false, ite_true, ite_false, Bool.true_and, Bool.and_true, Bool.or_true, Bool.true_or, Bool.false_or, Bool.or_false, Bool.false_and, Bool.and_false, Option.map_some, Option.bind_some, Nat.add_eq, Nat.reduceAdd, Nat.reduceSub, Nat.reduceLeDiff, Nat.reduceLT, Nat.reduceEqDiff, Option.isSome_some, reduceCtorEq, decide_true, decide_false, Bool.not_true, Bool.not_false, not_true_eq_false, not_false_eq_true, Bool.not_eq_true, in_strs, notIn_strs, in_prs, eq_str, ne_str, eq_int, ne_int, eq_bl, ne_bl, eq_strs, ne_strs, eq_strss, sPoolSet, poolS, sGuard, hasPool, mPool, mCallP, at3_2, dadd_int, ixN3_2]
    · walk_at "b3rdx"
    · walk_at "b3rdx"
    · try simp only [runD, runP, runI, initS, sSeq, sE, sSet, sSetO, sSetD, sRet, sRetN, sNil, sIf, sDrop, sAsg, sPar, sRaise, setAll, mb, mp, mo, mno, mVar, mLook, lookV, isSet, mE, mOp, mUn, mBin, mOne, mT, mBl, mTru, truD, mAnd, mOr, mNot, mAndV, mOrV, mNotV, mNotT, mIf, mTup, mLst, mKeep, mDats, dats, mDat, mOwn, maCons, mCall, mCallX, mRetV, mFld, fldD, mProp, outN, outM, isObj, flatD, flatDs, mMut, onOwn, getOwn, kAppend, kInsert, kPopAt, kExtend, mPop, sPut, sGuard, hasDct, putS, mDisp1, keyOf, mListK, mCatK, mIxL, mIxT, mSl, mSlL, mPart, sSelfC, outI, outIN, mMake, mMakeX, mMeth, mMethN, isObjM, tgName, tgTup, tgsCons, tgsNil, List.map_cons, List.map_nil, List.length_cons, List.length_nil, List.cons_append, List.nil_append, List.replicate, List.getElem?_cons_zero, List.getElem?_cons_succ, List.set_cons_zero, List.set_cons_succ, if_true, if_false, ite_true, ite_false, Bool.true_and, Bool.and_true, Bool.or_true, Bool.true_or, Bool.false_or, Bool.or_false, Bool.false_and, Bool.and_false, Option.map_some, Option.bind_some, Nat.add_eq, Nat.reduceAdd, Nat.reduceSub, Nat.reduceLeDiff, Nat.reduceLT, Nat.reduceEqDiff, Option.isSome_some, reduceCtorEq, decide_true, decide_false, Bool.not_true, Bool.not_false, not_true_eq_false, not_false_eq_true, Bool.not_eq_true, in_strs, notIn_strs, in_prs, eq_str, ne_str, eq_int, ne_int, eq_bl, ne_bl, eq_strs, ne_strs, eq_strss, sPoolSet, poolS, sGuard, hasPool, mPool, mCallP, dint_int, dfdiv_int p4.1 p4.2, dmod_int hm]
end F70
section F71
open PySem PySem.Spec PyProof.Rows L2 He Ds
/-! ### the chart -/
theorem kPopAt_str {fa : Bool} {d : Int} {ys : List Str} {z : Str} (h0 : 0 ≤ d) (hz : ys[d.toNat]? = some z) (hl : ys.length ≤ 1000000) : kPopAt fa [.int d] true (ys.map D.str) = some ((true, .str z), (true, (ys.eraseIdx d.toNat).map D.str)) := by
  obtain ⟨h1, _⟩ := List.getElem?_eq_some_iff.mp hz
  unfold kPopAt
  dsimp only
  rw [if_pos ⟨h0, by rw [List.length_map]; omega, by rw [List.length_map]; exact hl⟩, List.getElem?_map, hz, eraseIdx_mapS]
  simp
theorem kAppend_str {xs : List Str} {z : Str} (hl : xs.length < 100000) : kAppend true [.str z] true (xs.map D.str) = some ((true, .non), (true, (xs ++ [z]).map D.str)) := by
  unfold kAppend
  dsimp only
  rw [if_pos (by rw [List.length_map]; exact hl)]
  simp
theorem ev_letters {n : Nat} {ns : List Int} (h : PoolOk ns n) (hn : n ≤ 999000000) {xs ys : List Str} (hp : (xs ++ ys).Perm abc) (hy : 0 < ys.length) {s0 s4 s5 s6 s7 s8 s9 s10 s11 s12 s13 : Slot} :
    ∃ z i ns', PoolOk ns' (n + 1) ∧ ys[i]? = some z ∧ B_law_chart_1 [.pool ns, s0, .own true (xs.map D.str), .own true (ys.map D.str), s4, s5, s6, s7, s8, s9, s10, s11, s12, s13] =
      .nx [.pool ns', s0, .own true ((xs ++ [z]).map D.str), .own true ((ys.eraseIdx i).map D.str), s4, s5, s6, s7, s8, s9, s10, s11, s12, s13] := by
  have hlen := hp.length_eq
  rw [List.length_append, abc_len] at hlen
  obtain ⟨d, ns', e1, d0, d1, h'⟩ := ev_draw (m := (ys.length : Nat)) h (by omega) (by omega) (by omega)
  obtain ⟨z, hz⟩ : ∃ z, ys[d.toNat]? = some z := ⟨_, List.getElem?_eq_getElem (by omega)⟩
  have p1 := kPopAt_str (fa := true) d0 hz (by omega)
  rw [← List.length_map (as := ys) (f := D.str)] at e1
  have p3 := kAppend_str (xs := xs) (z := z) (by omega)
  refine ⟨z, _, ns', h', hz, ?_⟩
  unfold B_law_chart_1
  walk_at "b3rdx"
theorem ev_order {n : Nat} {ns : List Int} (h : PoolOk ns n) (hn : n ≤ 999000000) {xs ys : List Str} (hx : xs.length ≤ 100) (hy : 0 < ys.length) (hy2 : ys.length ≤ 100) {s0 s2 s3 s4 s7 s8 s9 s10 s11 s12 s13 : Slot} :
    ∃ z i ns', PoolOk ns' (n + 1) ∧ ys[i]? = some z ∧ B_law_chart_2 [.pool ns, s0, s2, s3, s4, .own true (xs.map D.str), .own true (ys.map D.str), s7, s8, s9, s10, s11, s12, s13] =
      .nx [.pool ns', s0, s2, s3, s4, .own true ((xs ++ [z]).map D.str), .own true ((ys.eraseIdx i).map D.str), s7, s8, s9, s10, s11, s12, s13] := by
  obtain ⟨d, ns', e1, d0, d1, h'⟩ := ev_draw (m := (ys.length : Nat)) h (by omega) (by omega) (by omega)
  obtain ⟨z, hz⟩ : ∃ z, ys[d.toNat]? = some z := ⟨_, List.getElem?_eq_getElem (by omega)⟩
  have p1 := kPopAt_str (fa := true) d0 hz (by omega)
  rw [← List.length_map (as := ys) (f := D.str)] at e1
  have p3 := kAppend_str (xs := xs) (z := z) (by omega)
  refine ⟨z, _, ns', h', hz, ?_⟩
  unfold B_law_chart_2
  walk_at "b3rdx"
/-! the ties -/
theorem kExtend_pr {ps qs : List Pr} (hl : ps.length + qs.length ≤ 100000) : kExtend true [pL qs] true (ps.map prD) = some ((true, .non), (true, (ps ++ qs).map prD)) := by
  unfold kExtend
  dsimp only
  rw [if_pos (by rw [List.length_map, List.length_map]; exact hl)]
  simp
theorem ev_ties_at {order : List Str} {j : Nat} (hj : j < order.length) (hl : order.length ≤ 100) {s0 s1 s2 s3 s4 s6 s9 s10 s11 s12 s13 : Slot} {ps : List Pr} (hp : ps.length ≤ 1000) :
    B_law_chart_3 [s0, s1, s2, s3, s4, .own true (order.map D.str), s6, .own true (ps.map prD), .dat true (.int (j : Nat)), s9, s10, s11, s12, s13] =
      .nx [s0, s1, s2, s3, s4, .own true (order.map D.str), s6, .own true ((ps ++ tiesAt order j).map prD), .dat true (.int (j : Nat)), s9, s10, s11, s12, s13] := by
  have hr : rng1 [.int (j : Nat)] = some (rngD 0 j) := by
    unfold rng1
    dsimp only
    rw [if_pos (by unfold smallI; simp; omega)]
    rfl
  have he := kExtend_pr (ps := ps) (qs := tiesAt order j) (by simp [tiesAt]; omega)
  have hc : compD [13] (tgName 13) (mp true) (mTup (maCons (mDat (mBin mIxL (mLook 5) (mLook 13))) (maCons (mDat (mBin mIxL (mLook 5) (mLook 8))) (mp [])))) [s0, s1, s2, s3, s4, .own true (order.map D.str), s6, .own true (ps.map prD), .dat true (.int (j : Nat)), s9, s10, s11, s12, s13] (rngD 0 j) true [] [s0, s1, s2, s3, s4, .own true (order.map D.str), s6, .own true (ps.map prD), .dat true (.int (j : Nat)), s9, s10, s11, s12, .no] = .ok (true, (tiesAt order j).map prD) [s0, s1, s2, s3, s4, .own true (order.map D.str), s6, .own true (ps.map prD), .dat true (.int (j : Nat)), s9, s10, s11, s12, s13] := by
    unfold rngD
    refine (comp_map (p := fun _ => true) (g := fun i : Nat => prD (order.getD i Str.empty, order.getD j Str.empty)) (fun i hi => ?_) (by rw [List.length_range]; omega)).trans ?_
    · have hi2 : i < j := List.mem_range.mp hi
      have a1 : atI (order.map D.str) (0 + (i : Int)) = some (.str (order.getD i Str.empty)) := by
        rw [Int.zero_add]
        exact atI_nat (by rw [List.getElem?_map, getD_some (by omega)]; rfl)
      have a2 : atI (order.map D.str) (j : Nat) = some (.str (order.getD j Str.empty)) := atI_nat (by rw [List.getElem?_map, getD_some (by omega)]; rfl)
      refine ⟨[s0, s1, s2, s3, s4, .own true (order.map D.str), s6, .own true (ps.map prD), .dat true (.int (j : Nat)), s9, s10, s11, s12, .dat true (.int (0 + (i : Int)))], rfl, rfl, fun _ => ?_, rfl⟩
      walk_at "b3rdg"
    · rw [show (List.range j).filter (fun _ => true) = List.range j from List.filter_eq_self.mpr (fun _ _ => rfl)]
      simp [tiesAt, unw, wipeS]
  unfold B_law_chart_3
  walk_at "b3rdx"
end F71
section F72
open PySem PySem.Spec PyProof.Rows L2 He Ds
theorem kInsert_pr {i : Int} {p : Pr} {ps : List Pr} (h0 : 0 ≤ i) (h1 : i ≤ 1000) (hl : ps.length ≤ 1000) : kInsert true [.int i, prD p] true (ps.map prD) = some ((true, .non), (true, (ins ps i.toNat p).map prD)) := by
  unfold kInsert
  dsimp only
  rw [if_pos ⟨by rw [List.length_map]; omega, h0, by omega⟩]
  simp [ins, List.map_take, List.map_drop]
def c124 (d : Int) : Bool := decide (d = 1 ∨ d = 2 ∨ d = 4)
def c34 (d : Int) : Bool := decide (d = 3 ∨ d = 4)
theorem five {d : Int} (h0 : 0 ≤ d) (h1 : d < 5) : d = 0 ∨ d = 1 ∨ d = 2 ∨ d = 3 ∨ d = 4 := by omega
theorem in124 {d : Int} (h0 : 0 ≤ d) (h1 : d < 5) : dInT (.int d) (.tup [.int 1, .int 2, .int 4]) = some (.bl (c124 d)) := by
  rcases five h0 h1 with h | h | h | h | h <;> subst h <;> rfl
theorem in34 {d : Int} (h0 : 0 ≤ d) (h1 : d < 5) : dInT (.int d) (.tup [.int 3, .int 4]) = some (.bl (c34 d)) := by
  rcases five h0 h1 with h | h | h | h | h <;> subst h <;> rfl
abbrev B4a : S := (sIf (mT (mOp dInT (mLook 12) (mE (mTup (maCons (mDat (mp (true, D.int 1))) (maCons (mDat (mp (true, D.int 2))) (maCons (mDat (mp (true, D.int 4))) (mp []))))))))
 (sDrop (mMut 9 (maCons (mDat (mPool 0 D_law_draw (maCons (mDat (mOp dAdd (mE (mUn dLen (mLook 9))) (mE (mp (true, D.int 1))))) (mp [])))) (maCons (mDat (mVar 11)) (mp []))) kInsert))
 sNil)
abbrev B4b : S := (sIf (mAnd (mT (mOp dInT (mLook 12) (mE (mTup (maCons (mDat (mp (true, D.int 3))) (maCons (mDat (mp (true, D.int 4))) (mp []))))))) (mT (mOp dLt (mE (mUn dLen (mLook 10))) (mE (mp (true, D.int 5))))))
 (sDrop (mMut 10 (maCons (mDat (mPool 0 D_law_draw (maCons (mDat (mOp dAdd (mE (mUn dLen (mLook 10))) (mE (mp (true, D.int 1))))) (mp [])))) (maCons (mDat (mStep2 (mVar 11) (mBin mIxL (mE (mKeep (mLst (maCons (mDat (mp (true, D.int 1))) (maCons (mDat (mUn dNeg (mE (mp (true, D.int 1))))) (mp [])))))) (mE (mPool 0 D_law_draw (maCons (mDat (mp (true, D.int 2))) (mp []))))))) (mp []))) kInsert))
 sNil)
theorem ev_4a {n : Nat} {ns : List Int} (h : PoolOk ns n) (hn : n ≤ 999000000) {ls : List Pr} (hl : ls.length ≤ 500) {t : Pr} {d : Int} (d0 : 0 ≤ d) (d1 : d < 5) {s1 s2 s3 s4 s5 s6 s7 s8 s10 s13 : Slot} :
    ∃ ls' ns', PoolOk ns' (n + 1) ∧ (ls' = ls ∨ ∃ i, ls' = ins ls i t) ∧ B4a [.pool ns, s1, s2, s3, s4, s5, s6, s7, s8, .own true (ls.map prD), s10, .dat true (prD t), .dat true (.int d), s13] =
      .nx [.pool ns', s1, s2, s3, s4, s5, s6, s7, s8, .own true (ls'.map prD), s10, .dat true (prD t), .dat true (.int d), s13] := by
  have hi := in124 d0 d1
  obtain ⟨c, hc⟩ : ∃ c, c = c124 d := ⟨_, rfl⟩
  rw [← hc] at hi
  cases c with
  | false =>
    refine ⟨ls, ns, h.mono (by omega), .inl rfl, ?_⟩
    walk_at "b3rdx"
  | true =>
    obtain ⟨e, ns', e1, g0, g1, h'⟩ := ev_draw (m := (ls.length : Nat) + 1) h (by omega) (by omega) (by omega)
    have p1 := kInsert_pr (i := e) (p := t) (ps := ls) g0 (by omega) (by omega)
    rw [← List.length_map (as := ls) (f := prD)] at e1
    refine ⟨_, ns', h', .inr ⟨e.toNat, rfl⟩, ?_⟩
    walk_at "b3rdx"
theorem ev_4b {n : Nat} {ns : List Int} (h : PoolOk ns n) (hn : n ≤ 999000000) {vs : List Pr} (hl : vs.length ≤ 500) {t : Pr} {d : Int} (d0 : 0 ≤ d) (d1 : d < 5) {s1 s2 s3 s4 s5 s6 s7 s8 s9 s13 : Slot} :
    ∃ vs' ns', PoolOk ns' (n + 2) ∧ (vs' = vs ∨ (vs.length < 5 ∧ ∃ i v, (v = t ∨ v = (t.2, t.1)) ∧ vs' = ins vs i v)) ∧ B4b [.pool ns, s1, s2, s3, s4, s5, s6, s7, s8, s9, .own true (vs.map prD), .dat true (prD t), .dat true (.int d), s13] =
      .nx [.pool ns', s1, s2, s3, s4, s5, s6, s7, s8, s9, .own true (vs'.map prD), .dat true (prD t), .dat true (.int d), s13] := by
  have hi := in34 d0 d1
  obtain ⟨c, hc⟩ : ∃ c, c = c34 d := ⟨_, rfl⟩
  rw [← hc] at hi
  cases c with
  | false =>
    refine ⟨vs, ns, h.mono (by omega), .inl rfl, ?_⟩
    walk_at "b3rdx"
  | true =>
    by_cases h5 : vs.length < 5
    · have hk : decide ((((vs.map prD).length : Nat) : Int) < 5) = true := decide_eq_true (by rw [List.length_map]; omega)
      obtain ⟨e, ns1, e1, g0, g1, h1⟩ := ev_draw (m := (vs.length : Nat) + 1) h (by omega) (by omega) (by omega)
      obtain ⟨z, ns2, e2, k0, k1, h2⟩ := ev_draw (m := 2) h1 (by omega) (by omega) (by omega)
      rw [← List.length_map (as := vs) (f := prD)] at e1
      by_cases hz : z = 0
      · subst hz
        have p1 := kInsert_pr (i := e) (p := t) (ps := vs) g0 (by omega) (by omega)
        refine ⟨_, ns2, h2, .inr ⟨h5, e.toNat, t, .inl rfl, rfl⟩, ?_⟩
        walk_at "b3rdx"
      · have hz1 : z = 1 := by omega
        subst hz1
        have p1 := kInsert_pr (i := e) (p := (t.2, t.1)) (ps := vs) g0 (by omega) (by omega)
        refine ⟨_, ns2, h2, .inr ⟨h5, e.toNat, _, .inr rfl, rfl⟩, ?_⟩
        walk_at "b3rdx"
    · have hk : decide ((((vs.map prD).length : Nat) : Int) < 5) = false := decide_eq_false (by rw [List.length_map]; omega)
      refine ⟨vs, ns, h.mono (by omega), .inl rfl, ?_⟩
      walk_at "b3rdx"
theorem nodup_leG {α : Type} [DecidableEq α] : ∀ {xs ys : List α}, xs.Nodup → (∀ x ∈ xs, x ∈ ys) → xs.length ≤ ys.length
  | [], _, _, _ => Nat.zero_le _
  | x :: xs, ys, nd, h => by
    obtain ⟨n1, n2⟩ := List.nodup_cons.mp nd
    have hx := h x (by simp)
    have := nodup_leG (xs := xs) (ys := ys.erase x) n2 fun y hy => (List.mem_erase_of_ne (fun e : y = x => n1 (e ▸ hy))).mpr (h y (by simp [hy]))
    rw [List.length_erase_of_mem hx] at this
    have := List.length_pos_of_mem hx
    rw [List.length_cons]
    omega
theorem ev_tie {n : Nat} {ns : List Int} (h : PoolOk ns n) (hn : n ≤ 998000000) {T : List Pr} (nd : T.Nodup) (sw : ∀ p ∈ T, (p.2, p.1) ∉ T) {k : Nat} (hk : k ≤ 100) {t : Pr} (ht : T[k]? = some t) {ls vs : List Pr} (L : Laid T k ls vs) {s1 s2 s3 s4 s5 s6 s7 s8 s12 s13 : Slot} :
    ∃ ls' vs' ns' s, PoolOk ns' (n + 4) ∧ Laid T (k + 1) ls' vs' ∧ B_law_chart_4 [.pool ns, s1, s2, s3, s4, s5, s6, s7, s8, .own true (ls.map prD), .own true (vs.map prD), .dat true (prD t), s12, s13] =
      .nx [.pool ns', s1, s2, s3, s4, s5, s6, s7, s8, .own true (ls'.map prD), .own true (vs'.map prD), .dat true (prD t), s, s13] := by
  have hll : ls.length ≤ k := by
    have := nodup_leG L.lnd L.lsub
    rw [List.length_take] at this
    omega
  obtain ⟨d, ns1, e1, d0, d1, h1⟩ := ev_draw (m := 5) h (by omega) (by omega) (by omega)
  obtain ⟨ls', ns2, h2, cl, e2⟩ := ev_4a h1 (by omega) (ls := ls) (by omega) (t := t) d0 d1 (s1 := s1) (s2 := s2) (s3 := s3) (s4 := s4) (s5 := s5) (s6 := s6) (s7 := s7) (s8 := s8) (s10 := .own true (vs.map prD)) (s13 := s13)
  obtain ⟨vs', ns3, h3, cv, e3⟩ := ev_4b h2 (by omega) (vs := vs) (by have := L.vlen; omega) (t := t) d0 d1 (s1 := s1) (s2 := s2) (s3 := s3) (s4 := s4) (s5 := s5) (s6 := s6) (s7 := s7) (s8 := s8) (s9 := .own true (ls'.map prD)) (s13 := s13)
  refine ⟨ls', vs', ns3, .dat true (.int d), h3, ?_, ?_⟩
  · have sk := L.skip
    have a1 : (∀ p ∈ ls', p ∈ T.take (k + 1)) ∧ ls'.Nodup := by
      rcases cl with rfl | ⟨i, rfl⟩
      · exact ⟨sk.lsub, sk.lnd⟩
      · exact L.line nd ht i
    have a2 : (∀ p ∈ vs', p ∈ T.take (k + 1) ∨ (p.2, p.1) ∈ T.take (k + 1)) ∧ vs'.Pairwise (fun p q => p ≠ q ∧ p ≠ (q.2, q.1)) ∧ vs'.length ≤ 5 := by
      rcases cv with rfl | ⟨h5, i, v, hv, rfl⟩
      · exact ⟨sk.vsub, sk.vnd, sk.vlen⟩
      · exact L.veil nd sw ht hv h5 i
    exact ⟨a1.1, a1.2, a2.1, a2.2.1, a2.2.2⟩
  · unfold B_law_chart_4
    apply k_seq
    · walk_at "b3rdx"
    apply k_seq
    · exact e2
    · exact e3
end F72
section F73
open PySem PySem.Spec PyProof.Rows L2 He Ds
theorem signs_abc : signs "abcdefghijklmnopqrstuvwxyz" = abc.map D.str := by
  unfold signs abc
  rw [List.map_map]
  rfl
theorem rng1_nat {k : Int} (h0 : 0 ≤ k) (h1 : k ≤ 1000000) : rng1 [.int k] = some (rngD 0 k.toNat) := by
  unfold rng1
  dsimp only
  rw [if_pos (by unfold smallI; simp; omega)]
theorem rngD_len {lo : Int} {n : Nat} : (rngD lo n).length = n := by unfold rngD; simp
theorem ne_emp {xs : List Str} : dNe (sL xs) (.lst []) = some (.bl (!decide (xs = []))) := ne_strs xs []
theorem ev_chart {n : Nat} {ns : List Int} (h : PoolOk ns n) (hn : n ≤ 900000000) {W : Nat} (hW1 : 1 ≤ W) (hW2 : W ≤ 6) :
    ∃ ns' xs ls vs, PoolOk ns' (n + 300) ∧ ChartOk W xs ls vs ∧ D_law_chart ns [.int (W : Nat)] = .ok true (.tup [sL xs, pL ls, pL vs]) ns' := by
  obtain ⟨d, ns1, e1, d0, d1, h1⟩ := ev_draw (m := (W : Nat)) h (by omega) (by omega) (by omega)
  -- the letters
  obtain ⟨I1, hI1⟩ : ∃ I : Nat → List Slot → Prop, I = fun i ρ => ∃ (ms : List Int) (xs ys : List Str) (s4 : Slot), ρ = [.pool ms, .dat false (.int (W : Nat)), .own true (xs.map D.str), .own true (ys.map D.str), s4, .no, .no, .no, .no, .no, .no, .no, .no, .no] ∧ PoolOk ms (n + 1 + i) ∧ xs.length = i ∧ (xs ++ ys).Perm abc := ⟨_, rfl⟩
  obtain ⟨ρ1, f1, g1⟩ := for_inv (t := tgName 4) (b := B_law_chart_1) I1 (its := rngD 0 (1 + d).toNat) (k := 0) (ρ := [.pool ns1, .dat false (.int (W : Nat)), .own true ([].map D.str), .own true (abc.map D.str), .no, .no, .no, .no, .no, .no, .no, .no, .no, .no])
    (by rw [hI1]; exact ⟨ns1, [], abc, .no, rfl, h1, rfl, List.Perm.refl _⟩)
    (fun i a ρ ha hI => by
      rw [hI1, Nat.zero_add] at hI
      obtain ⟨ms, xs, ys, s4, rfl, hm, hx, hp⟩ := hI
      have hi : i < (1 + d).toNat := by
        have := List.getElem?_eq_some_iff.mp ha
        obtain ⟨z, _⟩ := this
        rw [rngD_len] at z
        exact z
      have hlen := hp.length_eq
      rw [List.length_append, abc_len] at hlen
      obtain ⟨z, j, ms', hm', hz, hB⟩ := ev_letters hm (by omega) hp (by omega) (s0 := .dat false (.int (W : Nat))) (s4 := .dat a.1 a.2) (s5 := .no) (s6 := .no) (s7 := .no) (s8 := .no) (s9 := .no) (s10 := .no) (s11 := .no) (s12 := .no) (s13 := .no)
      refine ⟨_, _, rfl, hB, ?_⟩
      rw [hI1]
      refine ⟨ms', _, _, _, rfl, hm'.mono (by omega), by rw [List.length_append, hx]; simp, ?_⟩
      rw [List.append_assoc]
      exact ((cons_erase hz).append_left xs).trans hp)
  rw [hI1, rngD_len, Nat.zero_add] at g1
  obtain ⟨ms1, xs, ys, s4, rfl, hm1, hx, hp⟩ := g1
  have hlen := hp.length_eq
  rw [List.length_append, abc_len] at hlen
  have hnd : xs.Nodup := (List.nodup_append.mp (hp.nodup_iff.mpr abc_nodup)).1
  have hlet : ∀ x ∈ xs, IsLet x := fun x hx => abc_let (hp.mem_iff.mp (List.mem_append_left _ hx))
  have hx1 : 1 ≤ xs.length := by omega
  have hx6 : xs.length ≤ W := by omega
  -- the order
  obtain ⟨I2, hI2⟩ : ∃ I : Nat → List Slot → Prop, I = fun m ρ => ∃ (ms : List Int) (zs ws : List Str), ws.length = m ∧ ρ = [.pool ms, .dat false (.int (W : Nat)), .own true (xs.map D.str), .own true (ys.map D.str), s4, .own true (zs.map D.str), .own true (ws.map D.str), .own true [], .no, .no, .no, .no, .no, .no] ∧ PoolOk ms (n + 20 + zs.length) ∧ (zs ++ ws).Perm xs := ⟨_, rfl⟩
  obtain ⟨J2, hJ2⟩ : ∃ J : List Slot → Prop, J = fun ρ => ∃ (ms : List Int) (zs : List Str), ρ = [.pool ms, .dat false (.int (W : Nat)), .own true (xs.map D.str), .own true (ys.map D.str), s4, .own true (zs.map D.str), .own true [], .own true [], .no, .no, .no, .no, .no, .no] ∧ PoolOk ms (n + 30) ∧ zs.Perm xs := ⟨_, rfl⟩
  obtain ⟨ρ2, f2, g2⟩ := while_inv (t := (mT (mOp dNe (mLook 6) (mE (mKeep (mLst (mp []))))))) (b := B_law_chart_2) I2 J2 (fun m ρ hI => by
      rw [hI2] at hI
      obtain ⟨ms, zs, ws, hw, rfl, hm, hpm⟩ := hI
      have hl2 := hpm.length_eq
      rw [List.length_append] at hl2
      have ev : ∀ b, (!decide (ws = [])) = b → (mT (mOp dNe (mLook 6) (mE (mKeep (mLst (mp [])))))) [.pool ms, .dat false (.int (W : Nat)), .own true (xs.map D.str), .own true (ys.map D.str), s4, .own true (zs.map D.str), .own true (ws.map D.str), .own true [], .no, .no, .no, .no, .no, .no] = .ok b [.pool ms, .dat false (.int (W : Nat)), .own true (xs.map D.str), .own true (ys.map D.str), s4, .own true (zs.map D.str), .own true (ws.map D.str), .own true [], .no, .no, .no, .no, .no, .no] := fun b hb => by
        have hne := ne_emp (xs := ws)
        rw [hb] at hne
        walk_at "b3rdx"
      cases ws with
      | nil =>
        refine .inl ⟨ev false (by simp), ?_⟩
        rw [hJ2]
        rw [List.append_nil] at hpm
        exact ⟨ms, zs, rfl, hm.mono (by omega), hpm⟩
      | cons w ws =>
        rw [List.length_cons] at hl2
        obtain ⟨z, j, ms', hm', hz, hB⟩ := ev_order hm (by omega) (xs := zs) (ys := w :: ws) (by omega) (by simp) (by rw [List.length_cons]; omega) (s0 := .dat false (.int (W : Nat))) (s2 := .own true (xs.map D.str)) (s3 := .own true (ys.map D.str)) (s4 := s4) (s7 := .own true []) (s8 := .no) (s9 := .no) (s10 := .no) (s11 := .no) (s12 := .no) (s13 := .no)
        have pe := cons_erase hz
        have pl := pe.length_eq
        rw [List.length_cons, List.length_cons] at pl
        rw [List.length_cons] at hw
        refine .inr ⟨_, ws.length, ev true (by simp), hB, by omega, ?_⟩
        rw [hI2]
        refine ⟨ms', zs ++ [z], _, by omega, rfl, hm'.mono (by rw [List.length_append]; simp; omega), ?_⟩
        rw [List.append_assoc]
        exact (pe.append_left zs).trans hpm) (n := 100000) (m := xs.length) (ρ := [.pool ms1, .dat false (.int (W : Nat)), .own true (xs.map D.str), .own true (ys.map D.str), s4, .own true ([].map D.str), .own true (xs.map D.str), .own true [], .no, .no, .no, .no, .no, .no])
    (by rw [hI2]; exact ⟨ms1, [], xs, rfl, rfl, hm1.mono (by simp; omega), List.Perm.refl _⟩) (by omega)
  rw [hJ2] at g2
  obtain ⟨ms2, order, rfl, hm2, hpo⟩ := g2
  have hndo : order.Nodup := hpo.nodup_iff.mpr hnd
  have hlo : order.length = xs.length := hpo.length_eq
  -- the ties
  obtain ⟨I3, hI3⟩ : ∃ I : Nat → List Slot → Prop, I = fun i ρ => ∃ s8 : Slot, ρ = [.pool ms2, .dat false (.int (W : Nat)), .own true (xs.map D.str), .own true (ys.map D.str), s4, .own true (order.map D.str), .own true [], .own true ((ties order i).map prD), s8, .no, .no, .no, .no, .no] := ⟨_, rfl⟩
  obtain ⟨ρ3, f3, g3⟩ := for_inv (t := tgName 8) (b := B_law_chart_3) I3 (its := rngD 0 order.length) (k := 0) (ρ := [.pool ms2, .dat false (.int (W : Nat)), .own true (xs.map D.str), .own true (ys.map D.str), s4, .own true (order.map D.str), .own true [], .own true [], .no, .no, .no, .no, .no, .no])
    (by rw [hI3]; exact ⟨.no, rfl⟩)
    (fun i a ρ ha hI => by
      rw [hI3, Nat.zero_add] at hI
      obtain ⟨s8, rfl⟩ := hI
      unfold rngD at ha
      obtain ⟨i2, hi2, rfl⟩ := map_get ha
      obtain ⟨z1, z2⟩ := List.getElem?_eq_some_iff.mp hi2
      rw [List.length_range] at z1
      have z3 : i = i2 := by rw [← z2]; simp
      subst z3
      have := ties_len order i
      have : i * i ≤ 36 := Nat.mul_le_mul (by omega : i ≤ 6) (by omega : i ≤ 6)
      have hB := ev_ties_at (order := order) (j := i) z1 (by omega) (s0 := .pool ms2) (s1 := .dat false (.int (W : Nat))) (s2 := .own true (xs.map D.str)) (s3 := .own true (ys.map D.str)) (s4 := s4) (s6 := .own true []) (s9 := .no) (s10 := .no) (s11 := .no) (s12 := .no) (s13 := .no) (ps := ties order i) (by omega)
      refine ⟨[.pool ms2, .dat false (.int (W : Nat)), .own true (xs.map D.str), .own true (ys.map D.str), s4, .own true (order.map D.str), .own true [], .own true ((ties order i).map prD), .dat true (.int (i : Nat)), .no, .no, .no, .no, .no], _, ?_, hB, ?_⟩
      · show some [_, _, _, _, _, _, _, _, Slot.dat true (D.int (0 + (i : Int))), _, _, _, _, _] = _
        rw [Int.zero_add]
      · rw [hI3]
        exact ⟨_, by rw [Nat.zero_add]; rfl⟩)
  rw [hI3, rngD_len, Nat.zero_add] at g3
  obtain ⟨s8, rfl⟩ := g3
  have tnd := ties_nodup hndo (Nat.le_refl _)
  have tsw : ∀ p ∈ ties order order.length, (p.2, p.1) ∉ ties order order.length := fun p hp => ties_swap hndo (Nat.le_refl _) hp
  have tlen : (ties order order.length).length ≤ 36 := Nat.le_trans (ties_len order _) (Nat.mul_le_mul (by omega : order.length ≤ 6) (by omega : order.length ≤ 6))
  -- the lines and the veils
  obtain ⟨I4, hI4⟩ : ∃ I : Nat → List Slot → Prop, I = fun i ρ => ∃ (ms : List Int) (ls vs : List Pr) (s11 s12 : Slot), ρ = [.pool ms, .dat false (.int (W : Nat)), .own true (xs.map D.str), .own true (ys.map D.str), s4, .own true (order.map D.str), .own true [], .dat true (.lst ((ties order order.length).map prD)), s8, .own true (ls.map prD), .own true (vs.map prD), s11, s12, .no] ∧ PoolOk ms (n + 30 + 4 * i) ∧ Laid (ties order order.length) i ls vs := ⟨_, rfl⟩
  obtain ⟨ρ4, f4, g4⟩ := for_inv (t := tgName 11) (b := B_law_chart_4) I4 (its := tagL true ((ties order order.length).map prD)) (k := 0) (ρ := [.pool ms2, .dat false (.int (W : Nat)), .own true (xs.map D.str), .own true (ys.map D.str), s4, .own true (order.map D.str), .own true [], .dat true (.lst ((ties order order.length).map prD)), s8, .own true ([].map prD), .own true ([].map prD), .no, .no, .no])
    (by rw [hI4]; exact ⟨ms2, [], [], .no, .no, rfl, hm2, ⟨by simp, List.nodup_nil, by simp, List.Pairwise.nil, by simp⟩⟩)
    (fun i a ρ ha hI => by
      rw [hI4, Nat.zero_add] at hI
      obtain ⟨ms, ls, vs, s11, s12, rfl, hm, L⟩ := hI
      rw [tag_pL] at ha
      obtain ⟨t, ht, rfl⟩ := map_get ha
      have hi : i < (ties order order.length).length := (List.getElem?_eq_some_iff.mp ht).1
      obtain ⟨ls', vs', ms', s, hm', L', hB⟩ := ev_tie hm (by omega) tnd tsw (by omega) ht L (s1 := .dat false (.int (W : Nat))) (s2 := .own true (xs.map D.str)) (s3 := .own true (ys.map D.str)) (s4 := s4) (s5 := .own true (order.map D.str)) (s6 := .own true []) (s7 := .dat true (.lst ((ties order order.length).map prD))) (s8 := s8) (s12 := s12) (s13 := .no)
      refine ⟨_, _, rfl, hB, ?_⟩
      rw [hI4]
      exact ⟨ms', ls', vs', _, _, rfl, hm'.mono (by omega), by rw [Nat.zero_add]; exact L'⟩)
  rw [hI4, Nat.zero_add] at g4
  obtain ⟨ms4, ls, vs, s11, s12, rfl, hm4, L⟩ := g4
  rw [tag_pL, List.length_map] at hm4 L
  refine ⟨ms4, xs, ls, vs, hm4.mono (by omega), Laid.ok hx1 hx6 hlet hnd hpo L, ?_⟩
  unfold D_law_chart
  refine (runP_ok (fr := true) rfl ?_).trans rfl
  have hr1 : rng1 [.int (1 + d)] = some (rngD 0 (1 + d).toNat) := rng1_nat (by omega) (by omega)
  have hr3 : rng1 [.int ((order.map D.str).length : Nat)] = some (rngD 0 order.length) := by
    rw [List.length_map]; exact rng1_nat (by omega) (by omega)
  have hs := signs_abc
  refine ⟨[.dat false (.int (W : Nat)), .dat true (sL xs), .own true (ys.map D.str), s4, .own true (order.map D.str), .own true [], .dat true (.lst ((ties order order.length).map prD)), s8, .dat true (pL ls), .dat true (pL vs), s11, s12, .no], ?_⟩
  apply k_seq (ρ1 := [.pool ns, .dat false (.int (W : Nat)), .own true ([].map D.str), .own true (abc.map D.str), .no, .no, .no, .no, .no, .no, .no, .no, .no, .no])
  · rw [← hs]
    walk_at "b3rdx"
  apply k_seq
  · apply k_for
    · walk_at "b3rdx"
    · exact f1
  apply k_seq (ρ1 := [.pool ms1, .dat false (.int (W : Nat)), .own true (xs.map D.str), .own true (ys.map D.str), s4, .own true ([].map D.str), .own true (xs.map D.str), .own true [], .no, .no, .no, .no, .no, .no])
  · walk_at "b3rdx"
  apply k_seq
  · exact f2
  apply k_seq
  · apply k_for
    · walk_at "b3rdx"
    · exact f3
  apply k_seq (ρ1 := [.pool ms2, .dat false (.int (W : Nat)), .own true (xs.map D.str), .own true (ys.map D.str), s4, .own true (order.map D.str), .own true [], .own true ((ties order order.length).map prD), s8, .own true ([].map prD), .own true ([].map prD), .no, .no, .no])
  · walk_at "b3rdx"
  apply k_seq
  · apply k_for
    · walk_at "b3rdx"
    · exact f4
  · walk_at "b3rdx"
end F73
section F74
open PySem PySem.Spec PyProof.Rows L2 He Ds
/-! ### groups -/
def swp (p : Pr) : Pr := (p.2, p.1)
def sym (ps : List Pr) : List Pr := ps ++ ps.map swp
def inn (things : List Str) (p : Pr) : Bool := decide (p.1 ∈ things) && decide (p.2 ∈ things)
noncomputable def grp (vs : List Pr) (things : List Str) (x : Str) : List Str := leading things (sym (vs.filter (inn things))) x
theorem ev_group_around {ns : List Str} {ls vs : List Pr} {things : List Str} {x : Str} (hv : vs.length ≤ 1000) (ht : things.length ≤ 1000) : D_group_around [diag ns ls vs, sL things, .str x] = .ok true (sL (grp vs things x)) := by
  have e0 := ev_pairs (ns := ns) (ls := ls) (vs := vs)
  have e1 := ev_things_leading things (sym (vs.filter (inn things))) x (by omega) (by
    unfold sym
    rw [List.length_append, List.length_map]
    have := List.length_filter_le (inn things) vs
    omega)
  have fl := flat_prs (vs.filter (inn things))
  have c1 : compD [4, 5] (tgTup 2 (tgsCons (tgName 4) (tgsCons (tgName 5) tgsNil))) (mAnd (mT (mOp dIn (mLook 4) (mLook 1))) (mT (mOp dIn (mLook 5) (mLook 1)))) (mTup (maCons (mDat (mVar 4)) (maCons (mDat (mVar 5)) (mp []))))
      [.dat false (diag ns ls vs), .dat false (sL things), .dat false (.str x), .no, .no, .no] (tagL true (vs.map prD)) true [] [.dat false (diag ns ls vs), .dat false (sL things), .dat false (.str x), .no, .no, .no] = .ok (true, (vs.filter (inn things)).map prD) [.dat false (diag ns ls vs), .dat false (sL things), .dat false (.str x), .no, .no, .no] := by
    rw [tag_pL]
    refine (comp_map (p := inn things) (g := prD) (fun p hp => ?_) (by omega)).trans rfl
    obtain ⟨a, b⟩ := p
    refine ⟨[.dat false (diag ns ls vs), .dat false (sL things), .dat false (.str x), .no, .dat true (.str a), .dat true (.str b)], rfl, ?_, fun _ => ?_, rfl⟩
    · have i1 := in_strs a things
      have i2 := in_strs b things
      unfold inn
      by_cases h1 : a ∈ things
      · rw [decide_eq_true h1] at i1 ⊢
        rw [Bool.true_and]
        walk_at "b3rdg"
      · rw [decide_eq_false h1] at i1 ⊢
        rw [Bool.false_and]
        walk_at "b3rdg"
    · walk_at "b3rdg"
  have c2 : compD [4, 5] (tgTup 2 (tgsCons (tgName 4) (tgsCons (tgName 5) tgsNil))) (mp true) (mTup (maCons (mDat (mVar 5)) (maCons (mDat (mVar 4)) (mp []))))
      [.dat false (diag ns ls vs), .dat false (sL things), .dat false (.str x), .dat true (pL (vs.filter (inn things))), .no, .no] (tagL true ((vs.filter (inn things)).map prD)) true [] [.dat false (diag ns ls vs), .dat false (sL things), .dat false (.str x), .dat true (pL (vs.filter (inn things))), .no, .no] = .ok (true, ((vs.filter (inn things)).map swp).map prD) [.dat false (diag ns ls vs), .dat false (sL things), .dat false (.str x), .dat true (pL (vs.filter (inn things))), .no, .no] := by
    rw [tag_pL]
    refine (comp_map (p := fun _ => true) (g := fun p => prD (swp p)) (fun p hp => ?_) (by have := List.length_filter_le (inn things) vs; omega)).trans ?_
    · obtain ⟨a, b⟩ := p
      refine ⟨[.dat false (diag ns ls vs), .dat false (sL things), .dat false (.str x), .dat true (pL (vs.filter (inn things))), .dat true (.str a), .dat true (.str b)], rfl, rfl, fun _ => ?_, rfl⟩
      walk_at "b3rdg"
    · rw [List.filter_eq_self.mpr (fun _ _ => rfl), List.map_map]
      rfl
  have hl : decide (((vs.filter (inn things)).map prD).length + (((vs.filter (inn things)).map swp).map prD).length ≤ 1000000) = true := decide_eq_true (by
    have := List.length_filter_le (inn things) vs
    simp only [List.length_map]
    omega)
  rw [show pL (sym (vs.filter (inn things))) = D.lst ((vs.filter (inn things)).map prD ++ ((vs.filter (inn things)).map swp).map prD) by
    show D.lst (List.map prD (_ ++ _)) = _
    rw [List.map_append]] at e1
  unfold D_group_around
  apply k_run (fr := true)
  · rfl
  · apply k_seq (ρ1 := [.dat false (diag ns ls vs), .dat false (sL things), .dat false (.str x), .dat true (pL (vs.filter (inn things))), .no, .no])
    · walk_at "b3rdx"
    · walk_at "b3rdx"
  · rfl
end F74
section F75
open PySem PySem.Spec PyProof.Rows L2 He Ds
def grps (g : Str → List Str) : List (List Str) → List Str → List (List Str)
  | acc, [] => acc
  | acc, x :: xs => grps g (if acc.any (fun s => decide (x ∈ s)) = true then acc else acc ++ [g x]) xs
theorem grps_len {g : Str → List Str} : ∀ {xs : List Str} {acc : List (List Str)}, (grps g acc xs).length ≤ acc.length + xs.length
  | [], acc => by simp [grps]
  | x :: xs, acc => by
    rw [grps]
    refine Nat.le_trans grps_len ?_
    rw [List.length_cons]
    split
    · omega
    · rw [List.length_append]; simp; omega
theorem ev_groups_of_1 {ns : List Str} {ls vs : List Pr} {things : List Str} {gs : List (List Str)} {x : Str} (hv : vs.length ≤ 1000) (ht : things.length ≤ 1000) (hg : gs.length ≤ 1000) {f0 f1 f3 : Bool} {s4 : Slot} :
    B_groups_of_1 [.dat f0 (diag ns ls vs), .dat f1 (sL things), .own true (gs.map sL), .dat f3 (.str x), s4] =
      .nx [.dat f0 (diag ns ls vs), .dat f1 (sL things), .own true ((if gs.any (fun s => decide (x ∈ s)) = true then gs else gs ++ [grp vs things x]).map sL), .dat f3 (.str x), s4] := by
  have e1 := ev_group_around (ns := ns) (ls := ls) (vs := vs) (things := things) (x := x) hv ht
  have c1 : compD [4] (tgName 4) (mp true) (mOp dIn (mLook 3) (mLook 4)) [.dat f0 (diag ns ls vs), .dat f1 (sL things), .no, .dat f3 (.str x), s4] (tagL true (gs.map sL)) true [] [.dat f0 (diag ns ls vs), .dat f1 (sL things), .no, .dat f3 (.str x), .no] =
      .ok (true, gs.map fun s => .bl (decide (x ∈ s))) [.dat f0 (diag ns ls vs), .dat f1 (sL things), .no, .dat f3 (.str x), s4] := by
    rw [tag_true]
    refine (comp_map (p := fun _ => true) (g := fun s => .bl (decide (x ∈ s))) (fun s hs => ?_) (by omega)).trans ?_
    · have i1 := in_strs x s
      refine ⟨[.dat f0 (diag ns ls vs), .dat f1 (sL things), .no, .dat f3 (.str x), .dat true (sL s)], rfl, rfl, fun _ => ?_, rfl⟩
      walk_at "b3rdg"
    · rw [List.filter_eq_self.mpr (fun _ _ => rfl)]
      rfl
  have a1 := any_bls (p := fun s : List Str => decide (x ∈ s)) gs
  have k1 : kAppend true [sL (grp vs things x)] true (gs.map sL) = some ((true, .non), (true, (gs ++ [grp vs things x]).map sL)) := by
    unfold kAppend
    dsimp only
    rw [if_pos (by rw [List.length_map]; omega)]
    simp
  unfold B_groups_of_1
  cases c : gs.any (fun s => decide (x ∈ s)) with
  | true =>
    rw [c] at a1
    rw [if_pos rfl]
    walk_at "b3rdx"
  | false =>
    rw [c] at a1
    rw [if_neg (by decide)]
    walk_at "b3rdx"
theorem ev_groups_of {ns : List Str} {ls vs : List Pr} {things : List Str} (hv : vs.length ≤ 1000) (ht : things.length ≤ 1000) : D_groups_of [diag ns ls vs, sL things] = .ok true (sLL (grps (grp vs things) [] things)) := by
  have loop : ∀ (xs : List Str) (gs : List (List Str)) (f : Bool) (s3 : Slot), gs.length + xs.length ≤ 1000 → ∃ s, forD (tgName 3) B_groups_of_1 (xs.map fun x => (f || flatD (D.str x), D.str x)) [.dat false (diag ns ls vs), .dat false (sL things), .own true (gs.map sL), s3, .no] = .nx [.dat false (diag ns ls vs), .dat false (sL things), .own true ((grps (grp vs things) gs xs).map sL), s, .no] := by
    intro xs
    induction xs with
    | nil => exact fun gs f s3 _ => ⟨s3, rfl⟩
    | cons x xs ih =>
      intro gs f s3 hl
      rw [List.length_cons] at hl
      rw [List.map_cons]
      have e := ev_groups_of_1 (ns := ns) (ls := ls) (vs := vs) (things := things) (gs := gs) (x := x) hv ht (by omega) (f0 := false) (f1 := false) (f3 := f || flatD (D.str x)) (s4 := .no)
      rw [k_forC (show tgName 3 _ _ = some _ from rfl) e]
      exact ih _ f _ (by
        split
        · omega
        · rw [List.length_append]; simp; omega)
  obtain ⟨s, hs⟩ := loop things [] false .no (by simpa using ht)
  have htag : tagL false (things.map D.str) = things.map fun x => (false || flatD (D.str x), D.str x) := by
    unfold tagL; rw [List.map_map]; rfl
  unfold D_groups_of
  apply k_run (fr := true)
  · rfl
  · apply k_seq (ρ1 := [.dat false (diag ns ls vs), .dat false (sL things), .own true (([] : List (List Str)).map sL), .no, .no])
    · walk_at "b3rdx"
    apply k_seq
    · apply k_for
      · walk_at "b3rdx"
      · show forD _ _ (tagL false (things.map D.str)) _ = _
        rw [htag]
        exact hs
    · walk_at "b3rdx"
  · rfl
end F75
section F76
open PySem PySem.Spec PyProof.Rows L2 He Ds PyProof
theorem ord_inj {order : List Str} (nd : order.Nodup) {i j : Nat} {a : Str} (hi : order[i]? = some a) (hj : order[j]? = some a) : i = j := by
  obtain ⟨a1, e1⟩ := List.getElem?_eq_some_iff.mp hi
  obtain ⟨a2, e2⟩ := List.getElem?_eq_some_iff.mp hj
  exact (List.getElem_inj nd).mp (e1.trans e2.symm)
theorem leads_ord {order : List Str} {ls : List Pr} (nd : order.Nodup) (h : ∀ p ∈ ls, ∃ i j : Nat, i < j ∧ order[i]? = some p.1 ∧ order[j]? = some p.2) {a b : Str} (l : Leads ls a b) : a = b ∨ ∃ i j : Nat, i < j ∧ order[i]? = some a ∧ order[j]? = some b := by
  induction l with
  | refl a => exact .inl rfl
  | step e _ ih =>
    obtain ⟨i, j, h1, h2, h3⟩ := h _ e
    rcases ih with rfl | ⟨k, l, h4, h5, h6⟩
    · exact .inr ⟨i, j, h1, h2, h3⟩
    · have : j = k := ord_inj nd h3 h5
      exact .inr ⟨i, l, by omega, h2, h6⟩
theorem pw_take {α : Type} {R : α → α → Prop} {xs : List α} (h : xs.Pairwise R) {j : Nat} {x y : α} (hx : x ∈ xs.take j) (hy : xs[j]? = some y) : R x y := by
  obtain ⟨hj, e⟩ := List.getElem?_eq_some_iff.mp hy
  rw [List.mem_take_iff_getElem] at hx
  obtain ⟨i, hi, e2⟩ := hx
  rw [List.pairwise_iff_getElem] at h
  have := h i j (by omega) hj (by omega)
  rw [e2, e] at this
  exact this
theorem chart_good {W : Nat} {ns : List Str} {ls vs : List Pr} (c : ChartOk W ns ls vs) (hW : W ≤ 6) : Good ns ls vs := by
  obtain ⟨order, pm, ho⟩ := c.ord
  have ond : order.Nodup := pm.nodup_iff.mpr c.nd
  refine ⟨fun j y hj hb => ?_, c.lo, Nat.le_trans c.hi hW, fun j p hj hb => ?_, fun j p hj hb => ?_⟩
  · rcases hb with hb | hb
    · exact hb (c.lets y (List.mem_of_getElem? hj))
    · exact pw_take (List.nodup_iff_pairwise_ne.mp c.nd) hb hj rfl
  · obtain ⟨i, k, h1, h2, h3⟩ := ho p (List.mem_of_getElem? hj)
    rcases hb with hb | hb | hb
    · refine hb ⟨pm.mem_iff.mp (List.mem_of_getElem? h2), pm.mem_iff.mp (List.mem_of_getElem? h3), fun e => ?_⟩
      rw [← e] at h3
      have := ord_inj ond h2 h3
      omega
    · exact pw_take (List.nodup_iff_pairwise_ne.mp c.lnd) hb hj rfl
    · rcases leads_ord ond ho (hb.mono fun q hq => List.mem_of_mem_take hq) with e | ⟨i2, k2, h4, h5, h6⟩
      · rw [e] at h3
        have := ord_inj ond h2 h3
        omega
      · have := ord_inj ond h2 h6
        have := ord_inj ond h3 h5
        omega
  · rcases hb with hb | hb | hb
    · exact hb (c.vin p (List.mem_of_getElem? hj))
    · exact (pw_take c.vnd hb hj).1 rfl
    · exact (pw_take c.vnd hb hj).2 rfl
theorem shown_let {x : Str} (h : IsLet x) : (PyData.str x).shown.length ≤ 3 := by
  obtain ⟨c, h1, h2, rfl⟩ := h
  obtain ⟨i, rfl⟩ : ∃ i, c = 97 + i := ⟨c - 97, by omega⟩
  have hi : i < 26 := by omega
  have all : ∀ i, i < 26 → (PyData.str (letter (97 + i))).shown.length ≤ 3 := by decide +kernel
  exact all i hi
theorem shownAll_map : ∀ ds : List PyData, PyData.shownAll ds = ds.map PyData.shown
  | [] => rfl
  | d :: ds => by
    rw [List.map_cons, ← shownAll_map ds]
    rfl
theorem sum_le {α : Type} {f : α → Nat} {n : Nat} : ∀ {l : List α}, (∀ x ∈ l, f x ≤ n) → (l.map f).sum ≤ l.length * n
  | [], _ => by simp
  | x :: l, h => by
    have h1 := h x (by simp)
    have h2 := sum_le (l := l) fun y hy => h y (by simp [hy])
    rw [List.map_cons, List.sum_cons, List.length_cons, Nat.succ_mul]
    omega
theorem shown_list {ds : List PyData} {n : Nat} (h : ∀ d ∈ ds, d.shown.length ≤ n) : (PyData.list ds).shown.length ≤ ds.length * n + 2 * ds.length + 3 := by
  have e : (PyData.list ds).shown = listText (ds.map PyData.shown) := by
    rw [← shownAll_map]
    rfl
  rw [e]
  refine Nat.le_trans (listText_len_le _) ?_
  have h2 := sum_le (f := fun t : Str => t.length) (n := n) (l := ds.map PyData.shown) fun t ht => by
    obtain ⟨d, hd, rfl⟩ := List.mem_map.mp ht
    exact h d hd
  rw [List.length_map] at h2
  rw [List.length_map]
  omega
/-! ### what may be shown -/
structure Sh (e : PyData) (n m : Nat) : Prop where
  s : e.showable = true
  h : e.hasDict = false
  d : e.depth ≤ n
  l : e.shown.length ≤ m
theorem Sh.mono {e : PyData} {n m n' m' : Nat} (h : Sh e n m) (h1 : n ≤ n') (h2 : m ≤ m') : Sh e n' m' := ⟨h.s, h.h, Nat.le_trans h.d h1, Nat.le_trans h.l h2⟩
theorem Sh.ok {e : PyData} {n m : Nat} (h : Sh e n m) (h1 : n ≤ 20) (h2 : m ≤ 1000000) : shownOk e := ⟨h.s, h.h, Nat.le_trans h.d h1, Nat.le_trans h.l h2⟩
theorem sh_all {ds : List PyData} {n m : Nat} (h : ∀ d ∈ ds, Sh d n m) : PyData.showableAll ds = true ∧ PyData.hasDictAll ds = false ∧ PyData.depthAll ds ≤ n := by
  induction ds with
  | nil => exact ⟨rfl, rfl, Nat.zero_le _⟩
  | cons x xs ih =>
    obtain ⟨h1, h2, h3⟩ := ih fun d hd => h d (by simp [hd])
    have hx := h x (by simp)
    refine ⟨?_, ?_, ?_⟩
    · rw [PyData.showableAll, hx.s, h1]; rfl
    · rw [PyData.hasDictAll, hx.h, h2]; rfl
    · have := hx.d
      simp only [PyData.depthAll]
      omega
theorem sh_list {ds : List PyData} {n m : Nat} (h : ∀ d ∈ ds, Sh d n m) : Sh (.list ds) (n + 1) (ds.length * m + 2 * ds.length + 3) := by
  obtain ⟨h1, h2, h3⟩ := sh_all h
  exact ⟨h1, h2, by simp only [PyData.depth]; omega, shown_list fun d hd => (h d hd).l⟩
theorem sh_let {x : Str} (h : IsLet x) : Sh (.str x) 0 3 := ⟨rfl, rfl, Nat.le_refl _, shown_let h⟩
theorem repr_of {d : D} {e : PyData} (hs : seqD d = true) (h : toPy d = some e) (ok : shownOk e) : dRepr d = some (.rep e) := by
  unfold dRepr; rw [if_pos hs, h]; dsimp only; rw [if_pos ok]
theorem neR_same (e : PyData) : dNeR (.rep e) (.rep e) = some (.bl false) := by
  unfold dNeR; dsimp only; rw [decide_eq_true rfl]; rfl
theorem let_len {x : Str} (h : IsLet x) : x.length ≤ 1000 := by
  obtain ⟨c, _, _, rfl⟩ := h
  show (1 : Nat) ≤ 1000
  decide
end F76
local macro_rules | `(tactic| walk_at "c4side") => `(tactic| first | assumption | omega | (simp only [List.length_map, List.length_append, List.length_cons, List.length_nil, List.length_reverse]; omega) | (refine Nat.le_trans (List.length_filter_le _ _) ?_; walk_at "c4side"))
local macro_rules | `(tactic| walk_at "c4fl") => `(tactic| first | exact (show _ = true from rfl) | exact (show _ = false from rfl) | exact flat_strs _ | exact flat_prs _ | assumption | exact rfl)
local macro_rules | `(tactic| walk_at "c4ryM") => `(tactic| first
  | ((with_reducible apply j_var); exact rfl) | ((with_reducible apply k_look); exact rfl) | ((with_reducible apply j_retD); exact rfl) | ((with_reducible apply j_retO); exact rfl) | ((with_reducible apply j_appP); exact rfl) | ((with_reducible apply j_appM); exact rfl) | ((with_reducible apply j_app); exact rfl) | with_reducible apply j_E | with_reducible apply j_op | with_reducible apply j_ixL | with_reducible apply j_ixT | with_reducible apply j_un | with_reducible apply j_list | with_reducible apply j_catM | with_reducible apply j_cat | with_reducible apply j_lst1 | with_reducible apply j_lst | with_reducible apply j_tup | with_reducible apply j_keep | with_reducible apply j_T | with_reducible apply j_tru | with_reducible apply j_and | with_reducible apply j_or | with_reducible apply j_not | with_reducible apply j_andV | with_reducible apply j_orV | with_reducible apply j_notV | with_reducible apply j_chain | with_reducible apply j_slL | with_reducible apply j_part | with_reducible apply j_call | with_reducible apply j_callX | with_reducible apply j_callK | with_reducible apply j_callKX | with_reducible apply j_poolC | with_reducible apply j_prop | with_reducible apply j_meth | with_reducible apply j_fld | with_reducible apply j_make | with_reducible apply j_makeX | with_reducible apply j_it | with_reducible apply j_rng | with_reducible apply j_enum | with_reducible assumption | with_reducible apply j_compA | with_reducible apply j_comp | with_reducible apply j_compO | with_reducible apply j_comp2 | with_reducible apply j_pnil | with_reducible apply j_mp | with_reducible apply j_pcD | with_reducible apply j_pcO
  | ((with_reducible apply k_iteT); (first | rfl | assumption)) | ((with_reducible apply k_iteF); (first | rfl | assumption)) | assumption)
local macro_rules | `(tactic| walk_at "c4ryS") => `(tactic| first
  | with_reducible apply j_seq | with_reducible apply j_seqN | with_reducible apply j_seqR | with_reducible apply j_seqE | with_reducible apply j_setO | with_reducible apply j_set | with_reducible apply j_drop | with_reducible apply j_if | with_reducible apply j_ret | with_reducible apply j_nil | with_reducible apply j_raise | with_reducible apply j_par | with_reducible apply j_asg | ((with_reducible apply k_iteT); (first | rfl | assumption)) | ((with_reducible apply k_iteF); (first | rfl | assumption)) | assumption)
local macro_rules | `(tactic| walk_at "c4ryL") => `(tactic| first | (simp only [wipeS, unw, go_d, go_n, go_0, List.set_cons_zero, List.set_cons_succ, List.getElem?_cons_zero, List.getElem?_cons_succ, Option.getD_some]; done) | (simp only [wipeS, unw, go_d, go_n, go_0, List.set_cons_zero, List.set_cons_succ, List.getElem?_cons_zero, List.getElem?_cons_succ, Option.getD_some]; exact rfl) | exact rfl | assumption)
local macro_rules | `(tactic| walk_at "c4ryB") => `(tactic| first
  | ((change (_ || _) = _); walk_at "c4fl") | ((change flatD _ = _); walk_at "c4fl") | ((change (_ && _) = _); (first | exact Bool.true_and _ | exact rfl)) | exact rfl | assumption)
local macro_rules | `(tactic| walk_at "c4ryO") => `(tactic| first
  | ((change (_ : Option (Bool × D)) = some (_, _)); exact rfl) | ((change (_ : Option D) = _); (first | with_reducible apply o_in | with_reducible apply o_inI | with_reducible apply o_ninI | with_reducible apply o_eqI | with_reducible apply o_neI | with_reducible apply o_nin | with_reducible apply o_inp | with_reducible apply o_eqs | with_reducible apply o_nes | with_reducible apply o_eqi | with_reducible apply o_nei | with_reducible apply o_eqb | with_reducible apply o_neb | with_reducible apply o_eqL | with_reducible apply o_neL | with_reducible apply o_eqLL | with_reducible apply o_eqL0 | with_reducible apply o_neL0 | with_reducible apply o_eqLL0 | with_reducible apply o_len | with_reducible apply o_any | with_reducible apply o_isN | with_reducible apply o_neg | with_reducible apply o_add | with_reducible apply o_sub | with_reducible apply o_lt | with_reducible apply o_le | with_reducible apply o_gt | with_reducible apply o_ge | with_reducible apply o_at0 | with_reducible apply o_last | assumption | exact rfl)) | ((change (_ : Option (List Slot)) = _); (first | with_reducible apply tg_name | with_reducible apply tg_tup2 | with_reducible apply tg_tup3 | with_reducible apply tg_tup1 | with_reducible apply sa_nil | with_reducible apply sa_cons | assumption)) | ((change (_ : Option (List (Bool × D))) = _); (first | with_reducible apply it_strs | with_reducible apply it_prs | with_reducible apply it_T | with_reducible apply it_F | with_reducible apply itT_T | with_reducible apply it_en | assumption | exact rfl)) | assumption | exact rfl)
local macro_rules | `(tactic| walk_at "c4call") => `(tactic| first | assumption | solve_by_elim (maxDepth := 3))
local macro_rules | `(tactic| walk_at "c4ry1") => `(tactic| first
  | (intro _ _) | ((change (_ : Res _) = _); walk_at "c4ryM") | ((change (_ : SRes) = _); walk_at "c4ryS") | ((change (_ : List Slot) = _); walk_at "c4ryL") | ((change (_ : Option _) = _); walk_at "c4ryO") | ((change (_ : Bool) = _); walk_at "c4ryB") | with_reducible apply a_nil | with_reducible apply a_consF
  | ((change (_ : List D) = _); (first | with_reducible apply o_cut | with_reducible apply m1_str | with_reducible apply m1_strs | with_reducible apply m1_pr | with_reducible apply m1_int | assumption | exact rfl)) | ((change (_ : Out) = _); walk_at "c4call") | ((change (_ : OutI) = _); walk_at "c4call") | ((change (_ : OutP) = _); walk_at "c4call")
  | ((change (_ : Nat) ≤ _); walk_at "c4side") | ((change (_ : Nat) < _); walk_at "c4side") | assumption | with_reducible rfl | exact rfl)
local macro_rules | `(tactic| walk_at "c4ry") => `(tactic| repeat walk_at "c4ry1")
local macro_rules | `(tactic| walk_at "c4rzM") => `(tactic| first
  | ((with_reducible apply j_var); exact rfl) | ((with_reducible apply k_look); exact rfl) | ((with_reducible apply j_retD); exact rfl) | ((with_reducible apply j_retO); exact rfl) | ((with_reducible apply j_appP); exact rfl) | ((with_reducible apply j_appM); exact rfl) | ((with_reducible apply j_app); exact rfl) | with_reducible apply j_E | with_reducible apply j_op | with_reducible apply j_ixL | with_reducible apply j_ixT | with_reducible apply j_un | with_reducible apply j_list | with_reducible apply j_catM | with_reducible apply j_cat | with_reducible apply j_lst1 | with_reducible apply j_lst | with_reducible apply j_tup | with_reducible apply j_keep | with_reducible apply j_T | with_reducible apply j_tru | with_reducible apply j_not | with_reducible apply j_notV | with_reducible apply j_chain | with_reducible apply j_slL | with_reducible apply j_part | with_reducible apply j_call | with_reducible apply j_callX | with_reducible apply j_callK | with_reducible apply j_callKX | with_reducible apply j_poolC | with_reducible apply j_prop | with_reducible apply j_meth | with_reducible apply j_fld | with_reducible apply j_make | with_reducible apply j_makeX | with_reducible apply j_it | with_reducible apply j_rng | with_reducible apply j_enum | with_reducible assumption | with_reducible apply j_compA | with_reducible apply j_comp | with_reducible apply j_compO | with_reducible apply j_comp2 | with_reducible apply j_pnil | with_reducible apply j_mp | with_reducible apply j_pcD | with_reducible apply j_pcO
  | ((with_reducible apply k_iteT); (first | rfl | assumption)) | ((with_reducible apply k_iteF); (first | rfl | assumption)) | assumption)
local macro_rules | `(tactic| walk_at "c4rz1") => `(tactic| first
  | (intro _ _) | ((change (_ : Res _) = _); walk_at "c4rzM") | ((change (_ : SRes) = _); walk_at "c4ryS") | ((change (_ : List Slot) = _); walk_at "c4ryL") | ((change (_ : Option _) = _); walk_at "c4ryO") | ((change (_ : Bool) = _); walk_at "c4ryB") | with_reducible apply a_nil | with_reducible apply a_consF
  | ((change (_ : List D) = _); (first | with_reducible apply o_cut | with_reducible apply m1_str | with_reducible apply m1_strs | with_reducible apply m1_pr | with_reducible apply m1_int | assumption | exact rfl)) | ((change (_ : Out) = _); walk_at "c4call") | ((change (_ : OutI) = _); walk_at "c4call") | ((change (_ : OutP) = _); walk_at "c4call")
  | ((change (_ : Nat) ≤ _); walk_at "c4side") | ((change (_ : Nat) < _); walk_at "c4side") | assumption | with_reducible rfl | exact rfl)
local macro_rules | `(tactic| walk_at "c4rz") => `(tactic| repeat walk_at "c4rz1")
section F77
open PySem PySem.Spec PyProof.Rows L2 He Ds
/-! ### what leads to asked things within others -/
noncomputable def lead (ls : List Pr) (things asked : List Str) : List Str := things.filter fun t => decide (t ∈ asked.flatMap fun x => leading things (ls.filter (inn things)) x)
theorem sum_le2 {α : Type} {f : α → Nat} {n m : Nat} {l : List α} (h : ∀ x ∈ l, f x ≤ n) (hl : l.length ≤ m) {k : Nat} (hk : m * n ≤ k) : (l.map f).sum ≤ k :=
  Nat.le_trans (sum_le h) (Nat.le_trans (Nat.mul_le_mul_right n hl) hk)
theorem leading_len {ns : List Str} {ps : List Pr} {x : Str} : (leading ns ps x).length ≤ ns.length := List.length_filter_le _ _
theorem map_filter_T {α β : Type} {g : α → β} {xs : List α} : (xs.filter fun _ => true).map g = xs.map g := by rw [List.filter_eq_self.mpr (fun _ _ => rfl)]
theorem flatMap_map {α : Type} {f : α → List Str} {g : Str → D} {xs : List α} : (xs.flatMap fun a => (f a).map g) = (xs.flatMap f).map g := by
  induction xs with
  | nil => rfl
  | cons x xs ih => rw [List.flatMap_cons, List.flatMap_cons, List.map_append, ih]
theorem ev_leading_within {ns : List Str} {ls vs : List Pr} {things asked : List Str} (hl : ls.length ≤ 1000) (ht : things.length ≤ 100) (ha : asked.length ≤ 100) : D_leading_within [diag ns ls vs, sL things, sL asked] = .ok true (sL (lead ls things asked)) := by
  have e0 := ev_arrows (ns := ns) (ls := ls) (vs := vs)
  have e1 := fun x => ev_things_leading things (ls.filter (inn things)) x (by omega) (Nat.le_trans (List.length_filter_le _ _) (by omega))
  unfold D_leading_within
  apply j_run
  · rfl
  · walk_at "c4ry"
  · walk_at "c4ry"
    · exact sum_le2 (n := 100) (m := 100) (fun x _ => Nat.le_trans leading_len ht) ha (by omega)
    walk_at "c4ry"
    simp only [map_filter_T, List.filter_eq_self.mpr (fun _ _ => rfl), flatMap_map]
    walk_at "c4ry"
  · rfl
  · rfl
theorem lead_len {ls : List Pr} {things asked : List Str} : (lead ls things asked).length ≤ things.length := List.length_filter_le _ _
theorem lead_sub {ls : List Pr} {things asked : List Str} : (lead ls things asked).Sublist things := List.filter_sublist
noncomputable def cnt (ns : List Str) (ls : List Pr) (acted asked : List Str) : List Str := lead ls (ns.filter fun x => !decide (x ∈ acted)) asked
theorem ev_counting {ns : List Str} {ls vs : List Pr} {acted asked : List Str} (hl : ls.length ≤ 1000) (ht : ns.length ≤ 100) (ha : asked.length ≤ 100) : D_counting [diag ns ls vs, sL acted, sL asked] = .ok true (sL (cnt ns ls acted asked)) := by
  have e0 := ev_names (ns := ns) (ls := ls) (vs := vs)
  have e1 := ev_leading_within (ns := ns) (ls := ls) (vs := vs) (things := ns.filter fun x => !decide (x ∈ acted)) (asked := asked) hl (Nat.le_trans (List.length_filter_le _ _) ht) ha
  unfold D_counting
  apply j_run
  · rfl
  · walk_at "c4ry"
  · walk_at "c4ry"
  · rfl
  · rfl
end F77
section F78
open PySem PySem.Spec PyProof.Rows L2 He Ds
/-! ### the steps to a group -/
theorem k_whF {t : M Bool} {b : S} {n : Nat} {ρ ρ1 : List Slot} (h : t ρ = .ok false ρ1) : whileD t b (n + 1) ρ = .nx ρ1 := by rw [whileD, h]
theorem k_whT {t : M Bool} {b : S} {n : Nat} {ρ ρ1 ρ2 : List Slot} {r : SRes} (h : t ρ = .ok true ρ1) (h2 : b ρ1 = .nx ρ2) (h3 : whileD t b n ρ2 = r) : whileD t b (n + 1) ρ = r := by rw [whileD, h]; dsimp only; rw [h2]; exact h3
theorem k_whR {t : M Bool} {b : S} {n : Nat} {ρ ρ1 ρ2 : List Slot} {f : Bool} {d : D} (h : t ρ = .ok true ρ1) (h2 : b ρ1 = .rt f d ρ2) : whileD t b (n + 1) ρ = .rt f d ρ2 := by rw [whileD, h]; dsimp only; rw [h2]
noncomputable def chn (cl gr : List Str → List Str) (S : List Str) : Nat → List (List Str) → List Str → List (List Str)
  | 0, acc, _ => acc
  | n + 1, acc, last => if last = S then acc else if cl last = last then acc else if gr (cl last) = cl last then chn cl gr S n (acc ++ [cl last]) (cl last) else chn cl gr S n (acc ++ [cl last] ++ [gr (cl last)]) (gr (cl last))
theorem grp_sub {vs : List Pr} {W : List Str} {x : Str} : (grp vs W x).Sublist W := List.filter_sublist
theorem sub_lt {xs ys : List Str} (h : xs.Sublist ys) (n : xs ≠ ys) : xs.length < ys.length := by
  have h1 := h.length_le
  by_cases e : xs.length = ys.length
  · exact absurd (h.eq_of_length e) n
  · omega
noncomputable def stp (ns : List Str) (ls vs : List Pr) (S : List Str) (x : Str) : List (List Str) := chn (fun W => lead ls W S) (fun W => grp vs W x) S (ns.length + 1) [grp vs ns x] (grp vs ns x)
theorem ev_steps_loop {ns : List Str} {ls vs : List Pr} {S' : List Str} {x : Str} (hl : ls.length ≤ 1000) (hv : vs.length ≤ 1000) (hS : S'.length < 100) : ∀ (n m : Nat) (acc : List (List Str)) (last : List Str) (s3 s4 : Slot), last.length < n → n ≤ m → last.length ≤ 100 → acc.length + 2 * n ≤ 1000 →
    ∃ r, whileD (mT (mOp dNe (mE (mBin mIxL (mLook 2) (mE (mUn dNeg (mE (mp (true, D.int 1))))))) (mLook 1))) B_steps_to_1 m [.dat false (diag ns ls vs), .dat false (sL (x :: S')), .own true ((acc ++ [last]).map sL), s3, s4] = r ∧
      ((∃ s3 s4, r = .nx [.dat false (diag ns ls vs), .dat false (sL (x :: S')), .own true ((chn (fun W => lead ls W (x :: S')) (fun W => grp vs W x) (x :: S') n (acc ++ [last]) last).map sL), s3, s4]) ∨
        ∃ ρ', r = .rt true (sLL (chn (fun W => lead ls W (x :: S')) (fun W => grp vs W x) (x :: S') n (acc ++ [last]) last)) ρ') := by
  intro n
  induction n with
  | zero => intro m acc last s3 s4 h; omega
  | succ n ih =>
    intro m acc last s3 s4 h1 h2 h3 h4
    obtain ⟨m, rfl⟩ : ∃ k, m = k + 1 := ⟨m - 1, by omega⟩
    have e1 := ev_leading_within (ns := ns) (ls := ls) (vs := vs) (things := last) (asked := x :: S') hl h3 (by simp; omega)
    have e2 := ev_group_around (ns := ns) (ls := ls) (vs := vs) (things := lead ls last (x :: S')) (x := x) hv (Nat.le_trans lead_len (by omega))
    have l1 : (lead ls last (x :: S')).length ≤ last.length := lead_len
    have l2 : (grp vs (lead ls last (x :: S')) x).length ≤ (lead ls last (x :: S')).length := grp_sub.length_le
    by_cases c1 : last = x :: S'
    · have b1 : (!decide (last = x :: S')) = false := by rw [decide_eq_true c1]; rfl
      refine ⟨_, k_whF (ρ1 := [.dat false (diag ns ls vs), .dat false (sL (x :: S')), .own true ((acc ++ [last]).map sL), s3, s4]) ?_, .inl ⟨s3, s4, ?_⟩⟩
      · rw [← b1]
        walk_at "c4ry"
      · rw [chn, if_pos c1]
    · have b1 : (!decide (last = x :: S')) = true := by rw [decide_eq_false c1]; rfl
      have t1 : mT (mOp dNe (mE (mBin mIxL (mLook 2) (mE (mUn dNeg (mE (mp (true, D.int 1))))))) (mLook 1)) [.dat false (diag ns ls vs), .dat false (sL (x :: S')), .own true ((acc ++ [last]).map sL), s3, s4] = .ok true [.dat false (diag ns ls vs), .dat false (sL (x :: S')), .own true ((acc ++ [last]).map sL), s3, s4] := by
        rw [← b1]
        walk_at "c4ry"
      by_cases c2 : lead ls last (x :: S') = last
      · have b2 : decide (lead ls last (x :: S') = last) = true := decide_eq_true c2
        have rr : ∃ ρ2, B_steps_to_1 [.dat false (diag ns ls vs), .dat false (sL (x :: S')), .own true ((acc ++ [last]).map sL), s3, s4] = .rt true (sLL (acc ++ [last])) ρ2 := by
          unfold B_steps_to_1
          apply Exists.intro
          walk_at "c4ry"
        obtain ⟨ρ2, rr⟩ := rr
        exact ⟨_, k_whR t1 rr, .inr ⟨ρ2, by rw [chn, if_neg c1, if_pos c2]⟩⟩
      · have b2 : decide (lead ls last (x :: S') = last) = false := decide_eq_false c2
        have lt := sub_lt lead_sub c2
        by_cases c3 : grp vs (lead ls last (x :: S')) x = lead ls last (x :: S')
        · have b3 : (!decide (grp vs (lead ls last (x :: S')) x = lead ls last (x :: S'))) = false := by rw [decide_eq_true c3]; rfl
          obtain ⟨r, h5, h6⟩ := ih m (acc ++ [last]) (lead ls last (x :: S')) (.dat true (sL (lead ls last (x :: S')))) (.dat true (sL (grp vs (lead ls last (x :: S')) x))) (by omega) (by omega) (by omega) (by simp; omega)
          rw [chn, if_neg c1, if_neg c2, if_pos c3]
          refine ⟨r, k_whT t1 ?_ h5, h6⟩
          unfold B_steps_to_1
          walk_at "c4ry"
        · have b3 : (!decide (grp vs (lead ls last (x :: S')) x = lead ls last (x :: S'))) = true := by rw [decide_eq_false c3]; rfl
          obtain ⟨r, h5, h6⟩ := ih m (acc ++ [last] ++ [lead ls last (x :: S')]) (grp vs (lead ls last (x :: S')) x) (.dat true (sL (lead ls last (x :: S')))) (.dat true (sL (grp vs (lead ls last (x :: S')) x))) (by omega) (by omega) (by omega) (by simp; omega)
          rw [chn, if_neg c1, if_neg c2, if_neg c3]
          refine ⟨r, k_whT t1 ?_ h5, h6⟩
          unfold B_steps_to_1
          walk_at "c4ry"
theorem ev_steps_to {ns : List Str} {ls vs : List Pr} {S' : List Str} {x : Str} (hl : ls.length ≤ 1000) (hv : vs.length ≤ 1000) (hn : ns.length ≤ 100) (hS : S'.length < 100) : D_steps_to [diag ns ls vs, sL (x :: S')] = .ok true (sLL (stp ns ls vs (x :: S') x)) := by
  have e0 := ev_names (ns := ns) (ls := ls) (vs := vs)
  have e1 := ev_group_around (ns := ns) (ls := ls) (vs := vs) (things := ns) (x := x) hv (by omega)
  have l2 : (grp vs ns x).length ≤ ns.length := grp_sub.length_le
  obtain ⟨r, h1, h2⟩ := ev_steps_loop (ns := ns) (ls := ls) (vs := vs) (S' := S') (x := x) hl hv hS (ns.length + 1) 100000 [] (grp vs ns x) .no .no (by omega) (by omega) (by omega) (by simp; omega)
  unfold D_steps_to
  have e2 : goInit [diag ns ls vs, sL (x :: S')] 5 = [.dat false (diag ns ls vs), .dat false (sL (x :: S')), .no, .no, .no] := by walk_at "c4ry"
  have e3 : sSetO 2 (mLst (maCons (mDat (mCall D_group_around (maCons (mDat (mVar 0)) (maCons (mDat (mProp "Diagram" D_Diagram_names (mVar 0))) (maCons (mDat (mBin mIxL (mLook 1) (mE (mp (true, D.int 0))))) (mp [])))))) (mp []))) [.dat false (diag ns ls vs), .dat false (sL (x :: S')), .no, .no, .no] = .nx [.dat false (diag ns ls vs), .dat false (sL (x :: S')), .own true (([] ++ [grp vs ns x]).map sL), .no, .no] := by
    walk_at "c4ry"
  rcases h2 with ⟨s3, s4, rfl⟩ | ⟨ρ', rfl⟩
  · apply j_run rfl e2
    · refine j_seq e3 (j_seqN (j_seq h1 (j_seqN ?_)))
      walk_at "c4ry"
    · rfl
    · rfl
  · apply j_run rfl e2
    · exact j_seq e3 (j_seqN (j_seq h1 j_seqR))
    · rfl
    · rfl
end F78
section F79
open PySem PySem.Spec PyProof.Rows L2 He Ds
/-! ### names that are looked at -/
def NmBad (ns : List Str) (pre : List Str) (x : Str) : Prop := x ∉ ns ∨ x ∈ pre
theorem ev_check_names {ns : List Str} {ls vs : List Pr} {xs : List Str} : (NoBad (NmBad ns) xs → D_check_names [diag ns ls vs, sL xs] = .ok true .non) ∧ ∀ x, FirstBad (NmBad ns) xs x → D_check_names [diag ns ls vs, sL xs] = .er "InvalidName" (.str x) := by
  have e0 := ev_names (ns := ns) (ls := ls) (vs := vs)
  have loop := check_loop (t := tgTup 2 (tgsCons (tgName 3) (tgsCons (tgName 4) tgsNil))) (f := false)
    (b := B_check_names_1)
    (k := "InvalidName") (ed := D.str) (xs := xs) (e := D.str) (fun ρ => ∃ v1 v2, ρ = [.dat false (diag ns ls vs), .dat false (sL xs), .dat true (sL ns), v1, v2]) (NmBad ns) (fun _ _ => rfl)
    (fun i x ρ hi hI => by
      obtain ⟨v1, v2, rfl⟩ := hI
      refine ⟨[.dat false (diag ns ls vs), .dat false (sL xs), .dat true (sL ns), .dat true (.int (i : Nat)), .dat true (.str x)], rfl, fun nb => ⟨[.dat false (diag ns ls vs), .dat false (sL xs), .dat true (sL ns), .dat true (.int (i : Nat)), .dat true (.str x)], ?_, _, _, rfl⟩, fun hb => ?_⟩
      · have b1 : (!decide (x ∈ ns) || decide (x ∈ xs.take i)) = false := by
          unfold NmBad at nb
          rw [not_or, Classical.not_not] at nb
          rw [decide_eq_true nb.1, decide_eq_false nb.2]; rfl
        unfold B_check_names_1
        walk_at "c4ry"
      · have b1 : (!decide (x ∈ ns) || decide (x ∈ xs.take i)) = true := by
          rcases hb with h | h
          · rw [decide_eq_false h]; rfl
          · rw [decide_eq_true h, Bool.or_true]
        apply Exists.intro
        unfold B_check_names_1
        walk_at "c4ry") (ρ := [.dat false (diag ns ls vs), .dat false (sL xs), .dat true (sL ns), .no, .no]) ⟨_, _, rfl⟩
  unfold D_check_names
  refine ⟨fun nb => ?_, fun x hb => ?_⟩
  · obtain ⟨ρ', h1, _⟩ := loop.1 nb
    apply j_runN
    · rfl
    · walk_at "c4ry"
    · apply j_seq
      · walk_at "c4ry"
      · apply j_seqN
        apply k_for (its := enD false 0 (xs.map D.str)) rfl
        exact h1
  · obtain ⟨ρ', h1⟩ := loop.2 x hb
    apply j_runE
    · rfl
    · walk_at "c4ry"
    · apply j_seq
      · walk_at "c4ry"
      · apply j_seqN
        apply k_for (its := enD false 0 (xs.map D.str)) rfl
        exact h1
    · rfl
theorem ev_check_apart {xs ys : List Str} : (NoBad (fun _ x => x ∈ ys) xs → D_check_apart [sL xs, sL ys] = .ok true .non) ∧ ∀ x, FirstBad (fun _ x => x ∈ ys) xs x → D_check_apart [sL xs, sL ys] = .er "InvalidDeed" (.str x) := by
  have loop := for_check (mk := fun x ρ => .er "InvalidDeed" (.str x) ρ) (t := tgName 2) (b := B_check_apart_1) (xs := xs) (e := fun x => (true, D.str x)) (fun x ρ => mk_er (ed := D.str) x ρ) (fun ρ => ∃ v, ρ = [.dat false (sL xs), .dat false (sL ys), v]) (fun _ x => x ∈ ys)
    (fun i x ρ hi hI => by
      obtain ⟨v, rfl⟩ := hI
      refine ⟨[.dat false (sL xs), .dat false (sL ys), .dat true (.str x)], rfl, fun nb => ⟨[.dat false (sL xs), .dat false (sL ys), .dat true (.str x)], ?_, _, rfl⟩, fun hb => ?_⟩
      · have b1 : decide (x ∈ ys) = false := decide_eq_false nb
        unfold B_check_apart_1
        walk_at "c4ry"
      · have b1 : decide (x ∈ ys) = true := decide_eq_true hb
        apply Exists.intro
        unfold B_check_apart_1
        walk_at "c4ry") (ρ := [.dat false (sL xs), .dat false (sL ys), .no]) ⟨_, rfl⟩
  unfold D_check_apart
  refine ⟨fun nb => ?_, fun x hb => ?_⟩
  · obtain ⟨ρ', h1, _⟩ := loop.1 nb
    apply j_runN
    · rfl
    · walk_at "c4ry"
    · apply k_for
      · walk_at "c4ry"
      · exact h1
  · obtain ⟨ρ', h1⟩ := loop.2 x hb
    apply j_runE
    · rfl
    · walk_at "c4ry"
    · apply k_for
      · walk_at "c4ry"
      · exact h1
    · rfl
/-- the lists of what is set and asked are right -/
structure AskOk (ns acted asked : List Str) : Prop where
  a : ∀ x ∈ acted, x ∈ ns
  an : acted.Nodup
  k : ∀ x ∈ asked, x ∈ ns
  kn : asked.Nodup
  d : ∀ x ∈ asked, x ∉ acted
theorem nodup_take {xs : List Str} (h : xs.Nodup) {i : Nat} {x : Str} (e : xs[i]? = some x) : x ∉ xs.take i := fun z => by
  obtain ⟨j, hj⟩ := List.mem_iff_getElem?.mp z
  rw [List.getElem?_take] at hj
  split at hj
  · rename_i hlt
    have := ord_inj h e hj
    omega
  · cases hj
theorem noBad_names {ns xs : List Str} (h : ∀ x ∈ xs, x ∈ ns) (n : xs.Nodup) : NoBad (NmBad ns) xs := fun i x e => by
  unfold NmBad
  rw [not_or, Classical.not_not]
  exact ⟨h x (List.mem_of_getElem? e), nodup_take n e⟩
theorem ev_check_asked {ns : List Str} {ls vs : List Pr} {acted asked : List Str} (h : AskOk ns acted asked) : D_check_asked [diag ns ls vs, sL acted, sL asked] = .ok true .non := by
  have e1 := (ev_check_names (ns := ns) (ls := ls) (vs := vs) (xs := acted)).1 (noBad_names h.a h.an)
  have e2 := (ev_check_names (ns := ns) (ls := ls) (vs := vs) (xs := asked)).1 (noBad_names h.k h.kn)
  have e3 := (ev_check_apart (xs := asked) (ys := acted)).1 fun i x e => h.d x (List.mem_of_getElem? e)
  unfold D_check_asked
  apply j_runN
  · rfl
  · walk_at "c4ry"
  · walk_at "c4ry"
end F79
section F80
open PySem PySem.Spec PyProof.Rows L2 He Ds
/-! ### what is told -/
def hdS : List Str → Str
  | [] => ""
  | x :: _ => x
def lastOf (xs : List (List Str)) : List Str := xs.getLast?.getD []
theorem at_last {xs : List (List Str)} (h : xs ≠ []) : atI (xs.map sL) (-1) = some (sL (lastOf xs)) := by
  rcases List.eq_nil_or_concat xs with e | ⟨ys, y, e⟩
  · exact absurd e h
  · subst e
    rw [List.concat_eq_append]
    unfold lastOf
    rw [List.getLast?_append]
    exact o_last
theorem chn_ne {cl gr : List Str → List Str} {S : List Str} : ∀ {n : Nat} {acc : List (List Str)} {last : List Str}, acc ≠ [] → chn cl gr S n acc last ≠ []
  | 0, acc, last, h => by rw [chn]; exact h
  | n + 1, acc, last, h => by
    rw [chn]
    split
    · exact h
    · split
      · exact h
      · split
        · exact chn_ne (by simp)
        · exact chn_ne (by simp)
theorem nb_find {α : Type} {p : α → Bool} {xs : List α} (h : xs.find? p = none) : NoBad (fun _ x => p x = true) xs := fun i x e z => by
  have := List.find?_eq_none.mp h x (List.mem_of_getElem? e)
  exact this z
theorem fb_find {α : Type} {p : α → Bool} : ∀ {xs : List α} {x : α}, xs.find? p = some x → FirstBad (fun _ x => p x = true) xs x
  | [], _, h => by cases h
  | y :: ys, x, h => by
    rw [List.find?_cons] at h
    cases q : p y with
    | true =>
      rw [q] at h
      cases h
      exact ⟨0, rfl, q, fun j _ hj => absurd hj (Nat.not_lt_zero j)⟩
    | false =>
      rw [q] at h
      obtain ⟨i, e, b, n⟩ := fb_find (xs := ys) h
      refine ⟨i + 1, e, b, fun j z hj hz => ?_⟩
      cases j with
      | zero => cases hz; show ¬ (p y = true); rw [q]; decide
      | succ j => exact n j z (by omega) hz
/-- the groups that are wanted, the first one that is stuck -/
noncomputable def want (ns : List Str) (ls vs : List Pr) (acted asked : List Str) : List (List Str) := grps (grp vs (cnt ns ls acted asked)) [] (cnt ns ls acted asked)
noncomputable def stpS (ns : List Str) (ls vs : List Pr) (s : List Str) : List (List Str) := stp ns ls vs s (hdS s)
noncomputable def stk (ns : List Str) (ls vs : List Pr) (acted asked : List Str) : Option (List Str) := (want ns ls vs acted asked).find? fun s => !decide (lastOf (stpS ns ls vs s) = s)
noncomputable def stkD (ns : List Str) (ls vs : List Pr) (acted asked : List Str) : D := match stk ns ls vs acted asked with
  | none => .non
  | some s => .tup [sL s, sL (lastOf (stpS ns ls vs s))]
noncomputable def tld (ns : List Str) (ls vs : List Pr) (acted asked : List Str) : Bool := (stk ns ls vs acted asked).isNone
theorem stpS_ne {ns : List Str} {ls vs : List Pr} {s : List Str} : stpS ns ls vs s ≠ [] := chn_ne (by simp)
theorem cnt_sub {ns : List Str} {ls : List Pr} {acted asked : List Str} : (cnt ns ls acted asked).Sublist ns := lead_sub.trans List.filter_sublist
theorem mem_grp {vs : List Pr} {W : List Str} {x : Str} (h : x ∈ W) : x ∈ grp vs W x := leading_mem.mpr ⟨h, .refl x⟩
theorem grps_mem {g : Str → List Str} {P : List Str → Prop} : ∀ {xs : List Str} {acc : List (List Str)}, (∀ s ∈ acc, P s) → (∀ x ∈ xs, P (g x)) → ∀ s ∈ grps g acc xs, P s
  | [], acc, h, _ => h
  | x :: xs, acc, h, hg => by
    rw [grps]
    refine grps_mem ?_ (fun y hy => hg y (List.mem_cons_of_mem _ hy))
    split
    · exact h
    · intro s hs
      rcases List.mem_append.mp hs with z | z
      · exact h s z
      · have e : s = g x := by simpa using z
        rw [e]; exact hg x List.mem_cons_self
/-- each wanted group is the one around a thing -/
theorem want_mem {ns : List Str} {ls vs : List Pr} {acted asked : List Str} {s : List Str} (h : s ∈ want ns ls vs acted asked) : ∃ x ∈ cnt ns ls acted asked, s = grp vs (cnt ns ls acted asked) x :=
  grps_mem (P := fun s => ∃ x ∈ cnt ns ls acted asked, s = grp vs (cnt ns ls acted asked) x) (fun _ z => absurd z List.not_mem_nil) (fun x hx => ⟨x, hx, rfl⟩) s h
theorem want_sub {ns : List Str} {ls vs : List Pr} {acted asked : List Str} {s : List Str} (h : s ∈ want ns ls vs acted asked) : s.Sublist ns ∧ s ≠ [] := by
  obtain ⟨x, hx, rfl⟩ := want_mem h
  exact ⟨grp_sub.trans cnt_sub, fun e => by have := mem_grp (vs := vs) hx; rw [e] at this; cases this⟩
theorem want_len {ns : List Str} {ls vs : List Pr} {acted asked : List Str} : (want ns ls vs acted asked).length ≤ ns.length := by
  have h1 := grps_len (g := grp vs (cnt ns ls acted asked)) (xs := cnt ns ls acted asked) (acc := [])
  have h2 := (cnt_sub (ns := ns) (ls := ls) (acted := acted) (asked := asked)).length_le
  unfold want
  simp at h1
  omega
/-- a diagram of few things -/
structure Few (ns : List Str) (ls vs : List Pr) : Prop where
  n : ns.length ≤ 50
  l : ls.length ≤ 1000
  v : vs.length ≤ 1000
section
variable {ns : List Str} {ls vs : List Pr} {acted asked : List Str}
theorem ev_stpS (f : Few ns ls vs) {s : List Str} (hs : s.Sublist ns) (hn : s ≠ []) : D_steps_to [diag ns ls vs, sL s] = .ok true (sLL (stpS ns ls vs s)) := by
  cases s with
  | nil => exact absurd rfl hn
  | cons x S' =>
    have := hs.length_le
    have := f.n
    rw [List.length_cons] at *
    exact ev_steps_to f.l f.v (by omega) (by omega)
theorem AskOk.klen (h : AskOk ns acted asked) : asked.length ≤ ns.length := nodup_leG h.kn h.k
theorem ev_wanted (f : Few ns ls vs) (ha : asked.length ≤ 100) : D_counting [diag ns ls vs, sL acted, sL asked] = .ok true (sL (cnt ns ls acted asked)) ∧ D_groups_of [diag ns ls vs, sL (cnt ns ls acted asked)] = .ok true (sLL (want ns ls vs acted asked)) := by
  have h2 := (cnt_sub (ns := ns) (ls := ls) (acted := acted) (asked := asked)).length_le
  have := f.n
  exact ⟨ev_counting f.l (by omega) ha, ev_groups_of f.v (by omega)⟩
theorem ev_steps (f : Few ns ls vs) (h : AskOk ns acted asked) : D_steps [diag ns ls vs, sL acted, sL asked] = .ok true (.lst ((want ns ls vs acted asked).map fun s => sLL (stpS ns ls vs s))) := by
  have e0 := ev_check_asked (ls := ls) (vs := vs) h
  have hk := h.klen
  have hf := f.n
  obtain ⟨e1, e2⟩ := ev_wanted (acted := acted) (asked := asked) f (by omega)
  have e3 : ∀ s ∈ want ns ls vs acted asked, D_steps_to [diag ns ls vs, sL s] = .ok true (sLL (stpS ns ls vs s)) := fun s hs => ev_stpS f (want_sub hs).1 (want_sub hs).2
  have wl := want_len (ns := ns) (ls := ls) (vs := vs) (acted := acted) (asked := asked)
  unfold D_steps
  apply j_run
  · rfl
  · walk_at "c4ry"
  · walk_at "c4ry"
  · rfl
  · rfl
theorem ev_stuck (f : Few ns ls vs) (h : AskOk ns acted asked) : D_stuck [diag ns ls vs, sL acted, sL asked] = .ok true (stkD ns ls vs acted asked) := by
  have e0 := ev_check_asked (ls := ls) (vs := vs) h
  have hk := h.klen
  have hf := f.n
  obtain ⟨e1, e2⟩ := ev_wanted (acted := acted) (asked := asked) f (by omega)
  have e3 : ∀ s ∈ want ns ls vs acted asked, D_steps_to [diag ns ls vs, sL s] = .ok true (sLL (stpS ns ls vs s)) := fun s hs => ev_stpS f (want_sub hs).1 (want_sub hs).2
  have loop := for_check (mk := fun s ρ => .rt true (.tup [sL s, sL (lastOf (stpS ns ls vs s))]) ρ) (t := tgName 3) (b := B_stuck_1) (xs := want ns ls vs acted asked) (e := fun s => (true, sL s)) (fun x ρ => mk_rt (f := fun _ => true) (ed := fun s => .tup [sL s, sL (lastOf (stpS ns ls vs s))]) x ρ)
    (fun ρ => ∃ v w, ρ = [.dat false (diag ns ls vs), .dat false (sL acted), .dat false (sL asked), v, w]) (fun _ s => (!decide (lastOf (stpS ns ls vs s) = s)) = true)
    (fun i s ρ hi hI => by
      obtain ⟨v, w, rfl⟩ := hI
      have hs := List.mem_of_getElem? hi
      have e4 := e3 s hs
      have e5 := at_last (stpS_ne (ns := ns) (ls := ls) (vs := vs) (s := s))
      refine ⟨[.dat false (diag ns ls vs), .dat false (sL acted), .dat false (sL asked), .dat true (sL s), w], rfl, fun nb => ⟨[.dat false (diag ns ls vs), .dat false (sL acted), .dat false (sL asked), .dat true (sL s), .dat true (sL (lastOf (stpS ns ls vs s)))], ?_, _, _, rfl⟩, fun hb => ?_⟩
      · have b1 : (!decide (lastOf (stpS ns ls vs s) = s)) = false := by simpa using nb
        unfold B_stuck_1
        walk_at "c4ry"
      · apply Exists.intro
        unfold B_stuck_1
        walk_at "c4ry") (ρ := [.dat false (diag ns ls vs), .dat false (sL acted), .dat false (sL asked), .no, .no]) ⟨_, _, rfl⟩
  unfold D_stuck stkD
  cases e : stk ns ls vs acted asked with
  | none =>
    obtain ⟨ρ', h1, _⟩ := loop.1 (nb_find e)
    apply j_run
    · rfl
    · walk_at "c4ry"
    · apply j_seq
      · walk_at "c4ry"
      · apply j_seqN
        apply j_seq
        · apply k_for
          · walk_at "c4ry"
          · exact h1
        · walk_at "c4ry"
    · rfl
    · rfl
  | some s =>
    obtain ⟨ρ', h1⟩ := loop.2 s (fb_find e)
    apply j_run
    · rfl
    · walk_at "c4ry"
    · apply j_seq
      · walk_at "c4ry"
      · apply j_seqN
        apply j_seq
        · apply k_for
          · walk_at "c4ry"
          · exact h1
        · walk_at "c4ry"
    · rfl
    · rfl
theorem isNon_stkD : isNon (stkD ns ls vs acted asked) = tld ns ls vs acted asked := by
  unfold stkD tld
  cases stk ns ls vs acted asked <;> rfl
theorem ev_is_told (f : Few ns ls vs) (h : AskOk ns acted asked) : D_is_told [diag ns ls vs, sL acted, sL asked] = .ok true (.bl (tld ns ls vs acted asked)) := by
  have e0 := ev_stuck f h
  unfold D_is_told
  apply j_run
  · rfl
  · walk_at "c4ry"
  · walk_at "c4ry"
  · rfl
  · rw [isNon_stkD]
def one_ok (ns : List Str) {x y : Str} (hx : x ∈ ns) (hy : y ∈ ns) (h : x ≠ y) : AskOk ns [x] [y] :=
  ⟨fun z hz => by have : z = x := by simpa using hz
                  rw [this]; exact hx, by simp, fun z hz => by
                  have : z = y := by simpa using hz
                  rw [this]; exact hy, by simp, fun z hz hz2 => by
                  have e1 : z = y := by simpa using hz
                  have e2 : z = x := by simpa using hz2
                  exact h (e2.symm.trans e1)⟩
end
end F80
section F81
open PySem PySem.Spec PyProof.Rows L2 He Ds
/-! ### the law's own closures -/
abbrev cht (ns : List Str) (ls vs : List Pr) : D := .tup [sL ns, pL ls, pL vs]
theorem at_c0 {a b c : D} : atI [a, b, c] 0 = some a := rfl
theorem at_c1 {a b c : D} : atI [a, b, c] 1 = some b := rfl
theorem filter_sub {ns W : List Str} (nd : ns.Nodup) (h : W.Sublist ns) : ns.filter (fun t => decide (t ∈ W)) = W := by
  induction h with
  | slnil => rfl
  | cons a s ih =>
    rename_i W ns
    have nd' := (List.nodup_cons.mp nd)
    have : a ∉ W := fun z => nd'.1 (s.subset z)
    rw [List.filter_cons, if_neg (by simpa using this)]
    exact ih nd'.2
  | cons_cons a s ih =>
    rename_i W ns
    have nd' := (List.nodup_cons.mp nd)
    rw [List.filter_cons, if_pos (by simp)]
    congr 1
    rw [← ih nd'.2]
    refine List.filter_congr fun t ht => ?_
    have : t ≠ a := fun e => nd'.1 (e ▸ ht)
    rw [ih nd'.2]
    simp [this]
theorem filter_in {ns W : List Str} (nd : ns.Nodup) (h : W.Sublist ns) {p q : Str → Bool} (hq : ∀ t ∈ ns, q t = true ↔ t ∈ W ∧ p t = true) : ns.filter q = W.filter p := by
  have e : ns.filter q = (ns.filter fun t => decide (t ∈ W)).filter p := by
    rw [List.filter_filter]
    refine List.filter_congr fun t ht => ?_
    have := hq t ht
    by_cases c : t ∈ W
    · cases hp : p t <;> cases hq' : q t <;> simp_all
    · cases hq' : q t <;> simp_all
  rw [e, filter_sub nd h]
/-- what the law's own closure has found -/
structure LLI (qs ls : List Pr) (W S F : List Str) : Prop where
  nd : F.Nodup
  hS : ∀ g ∈ S, g ∈ F
  ld : ∀ f ∈ F, ∃ g ∈ S, Leads qs f g
  sb : ∀ f ∈ F, f ∈ S ++ ls.map (·.1)
  fw : ∀ f ∈ F, f ∈ W
theorem LLI.len {qs ls : List Pr} {W S F : List Str} (h : LLI qs ls W S F) : F.length ≤ S.length + ls.length := by
  have := nodup_le h.nd h.sb
  rw [List.length_append, List.length_map] at this
  exact this
def Shl (W : List Str) (ls : List Pr) (F : List Str) : Prop := ∀ p ∈ ls, p.2 ∈ F → p.1 ∈ W → p.1 ∈ F
theorem inn_iff {W : List Str} {p : Pr} : inn W p = true ↔ p.1 ∈ W ∧ p.2 ∈ W := by unfold inn; simp
theorem shl_all {W S F : List Str} {ls : List Pr} (h : LLI (ls.filter (inn W)) ls W S F) (s : Shl W ls F) (t : Str) : t ∈ F ↔ ∃ g ∈ S, Leads (ls.filter (inn W)) t g := by
  refine ⟨h.ld t, fun ⟨g, hg, l⟩ => ?_⟩
  refine l.closed (h.hS g hg) fun a b hp hb => ?_
  obtain ⟨z1, z2⟩ := List.mem_filter.mp hp
  exact s _ z1 hb (inn_iff.mp z2).1
theorem LLI.add {W S F : List Str} {ls : List Pr} (h : LLI (ls.filter (inn W)) ls W S F) {u v : Str} (hp : (u, v) ∈ ls) (hv : v ∈ F) (hw : u ∈ W) (hu : u ∉ F) : LLI (ls.filter (inn W)) ls W S (F ++ [u]) := by
  have mem : ∀ f ∈ F ++ [u], f ∈ F ∨ f = u := fun f hf => by
    rcases List.mem_append.mp hf with z | z
    · exact .inl z
    · exact .inr (by simpa using z)
  refine ⟨nodup_snoc h.nd hu, fun g hg => List.mem_append_left _ (h.hS g hg), fun f hf => ?_, fun f hf => ?_, fun f hf => ?_⟩
  · rcases mem f hf with z | rfl
    · exact h.ld f z
    · obtain ⟨g, hg, l⟩ := h.ld v hv
      exact ⟨g, hg, .step (List.mem_filter.mpr ⟨hp, inn_iff.mpr ⟨hw, h.fw v hv⟩⟩) l⟩
  · rcases mem f hf with z | rfl
    · exact h.sb f z
    · exact List.mem_append_right _ (List.mem_map.mpr ⟨_, hp, rfl⟩)
  · rcases mem f hf with z | rfl
    · exact h.fw f z
    · exact hw
theorem lead_mem {ls : List Pr} {W S : List Str} {t : Str} : t ∈ lead ls W S ↔ t ∈ W ∧ ∃ g ∈ S, Leads (ls.filter (inn W)) t g := by
  unfold lead
  rw [List.mem_filter, decide_eq_true_eq, List.mem_flatMap]
  refine ⟨fun ⟨h1, g, h2, h3⟩ => ⟨h1, g, h2, (leading_mem.mp h3).2⟩, fun ⟨h1, g, h2, h3⟩ => ⟨h1, g, h2, leading_mem.mpr ⟨h1, h3⟩⟩⟩
theorem ev_ll1 {W F : List Str} {s0 s1 s4 s7 : Slot} {f2 : Bool} {a b : Str} (hF : F.length < 1000) :
    ∃ F', B_law_leads_1 [s0, s1, .dat f2 (sL W), .own true (F.map D.str), s4, .dat true (.str a), .dat true (.str b), s7] = .nx [s0, s1, .dat f2 (sL W), .own true (F'.map D.str), s4, .dat true (.str a), .dat true (.str b), s7] ∧
      ((F' = F ∧ ¬ (b ∈ F ∧ a ∈ W ∧ a ∉ F)) ∨ (b ∈ F ∧ a ∈ W ∧ a ∉ F ∧ F' = F ++ [a])) := by
  by_cases h : b ∈ F ∧ a ∈ W ∧ a ∉ F
  · have c : (decide (b ∈ F) && (decide (a ∈ W) && !decide (a ∈ F))) = true := by simp [h]
    refine ⟨_, ?_, .inr ⟨h.1, h.2.1, h.2.2, rfl⟩⟩
    unfold B_law_leads_1
    walk_at "c4ry"
  · have c : (decide (b ∈ F) && (decide (a ∈ W) && !decide (a ∈ F))) = false := by
      cases q : (decide (b ∈ F) && (decide (a ∈ W) && !decide (a ∈ F))) with
      | false => rfl
      | true => exact absurd (by simpa using q) h
    refine ⟨F, ?_, .inl ⟨rfl, h⟩⟩
    unfold B_law_leads_1
    walk_at "c4ry"
theorem ev_law_leads {ns : List Str} {ls vs : List Pr} {W S : List Str} (hl : ls.length ≤ 200) (hn : ns.length ≤ 100) (nd : ns.Nodup) (hW : W.Sublist ns) (hS : ∀ g ∈ S, g ∈ W) (sn : S.Nodup) : D_law_leads [cht ns ls vs, sL S, sL W] = .ok true (sL (lead ls W S)) := by
  have hSl : S.length ≤ 100 := Nat.le_trans (nodup_leG sn hS) (Nat.le_trans hW.length_le hn)
  obtain ⟨st, hst⟩ : ∃ st : List Str → Slot → Slot → Slot → List Slot, st = fun F s4 s5 s6 => [.dat false (cht ns ls vs), .dat false (sL S), .dat false (sL W), .own true (F.map D.str), s4, s5, s6, .no] := ⟨_, rfl⟩
  obtain ⟨I, hI⟩ : ∃ I : Nat → List Slot → Prop, I = fun m ρ => ∃ (F : List Str) (s : Int) (s5 s6 : Slot), ρ = st F (.dat true (.int s)) s5 s6 ∧ LLI (ls.filter (inn W)) ls W S F ∧ (s = (F.length : Nat) → Shl W ls F) ∧ m = 2 * (S.length + ls.length - F.length) + (if s = (F.length : Nat) then 0 else 1) := ⟨_, rfl⟩
  obtain ⟨J, hJ⟩ : ∃ J : List Slot → Prop, J = fun ρ => ∃ (F : List Str) (s4 s5 s6 : Slot), ρ = st F s4 s5 s6 ∧ LLI (ls.filter (inn W)) ls W S F ∧ Shl W ls F := ⟨_, rfl⟩
  have start : I (2 * (S.length + ls.length - S.length) + 1) (st S (.dat true (.int (-1))) .no .no) := by
    rw [hI]
    refine ⟨S, -1, .no, .no, rfl, ⟨sn, fun _ h => h, fun f hf => ⟨f, hf, .refl f⟩, fun f hf => List.mem_append_left _ hf, hS⟩, fun e => ?_, ?_⟩
    · omega
    · rw [if_neg (by omega)]
  obtain ⟨ρ', w1, w2⟩ := while_inv (t := mT (mOp dNe (mLook 4) (mE (mUn dLen (mLook 3))))) (b := B_law_leads_2) I J
    (fun m ρ h => by
      rw [hI] at h
      obtain ⟨F, s, s5, s6, rfl, T, hs, hm⟩ := h
      have hFl := T.len
      by_cases c : s = (F.length : Nat)
      · have b1 : (!decide (s = (F.length : Nat))) = false := by rw [decide_eq_true c]; rfl
        refine .inl ⟨?_, ?_⟩
        · rw [hst, ← b1]
          walk_at "c4ry"
        · rw [hJ]
          exact ⟨F, _, s5, s6, rfl, T, hs c⟩
      · have b1 : (!decide (s = (F.length : Nat))) = true := by rw [decide_eq_false c]; rfl
        obtain ⟨B, hB⟩ : ∃ B : Nat → List Slot → Prop, B = fun i ρ => ∃ (G : List Str) (v5 v6 : Slot), ρ = st G (.dat true (.int (F.length : Nat))) v5 v6 ∧ LLI (ls.filter (inn W)) ls W S G ∧ F.length ≤ G.length ∧ (G.length = F.length → G = F ∧ ∀ p ∈ ls.take i, p.2 ∈ F → p.1 ∈ W → p.1 ∈ F) := ⟨_, rfl⟩
        obtain ⟨ρ2, f1, f2⟩ := for_inv (t := tgTup 2 (tgsCons (tgName 5) (tgsCons (tgName 6) tgsNil))) (b := B_law_leads_1) B
          (its := ls.map fun p => (true, prD p)) (k := 0) (ρ := st F (.dat true (.int (F.length : Nat))) s5 s6)
          (by
            rw [hB]
            exact ⟨F, s5, s6, rfl, T, Nat.le_refl _, fun _ => ⟨rfl, fun p hp => by simp at hp⟩⟩)
          (fun i a ρ ha hb => by
            rw [Nat.zero_add] at hb ⊢
            rw [hB] at hb
            obtain ⟨G, v5, v6, rfl, TG, hFG, hG⟩ := hb
            obtain ⟨⟨u, v⟩, hpp, rfl⟩ := map_get ha
            have hps : (u, v) ∈ ls := List.mem_of_getElem? hpp
            have hGl := TG.len
            obtain ⟨G', e, cs⟩ := ev_ll1 (W := W) (F := G) (a := u) (b := v) (s0 := .dat false (cht ns ls vs)) (s1 := .dat false (sL S)) (s4 := .dat true (.int (F.length : Nat))) (s7 := .no) (f2 := false) (by omega)
            refine ⟨st G (.dat true (.int (F.length : Nat))) (.dat true (.str u)) (.dat true (.str v)), st G' (.dat true (.int (F.length : Nat))) (.dat true (.str u)) (.dat true (.str v)), by rw [hst]; rfl, by rw [hst]; exact e, ?_⟩
            rw [hB]
            have tk := take_succ_of hpp
            refine ⟨G', _, _, rfl, ?_⟩
            rcases cs with ⟨rfl, k⟩ | ⟨h1, h2, h3, rfl⟩
            · refine ⟨TG, hFG, fun e => ?_⟩
              obtain ⟨rfl, q⟩ := hG e
              refine ⟨rfl, fun p hp => ?_⟩
              rw [tk] at hp
              rcases List.mem_append.mp hp with z | z
              · exact q p z
              · have e2 : p = (u, v) := by simpa using z
                rw [e2]
                exact fun y1 y2 => Classical.byContradiction fun y3 => k ⟨y1, y2, y3⟩
            · refine ⟨TG.add hps h1 h2 h3, by rw [List.length_append]; omega, fun e => ?_⟩
              rw [List.length_append, List.length_singleton] at e; omega)
        rw [hB, Nat.zero_add] at f2
        obtain ⟨G, v5, v6, rfl, TG, hFG, hG⟩ := f2
        have hGl := TG.len
        rw [List.length_map (f := fun p => (true, prD p)), List.take_length] at hG
        refine .inr ⟨st G (.dat true (.int (F.length : Nat))) v5 v6, 2 * (S.length + ls.length - G.length) + (if ((F.length : Nat) : Int) = (G.length : Nat) then 0 else 1), ?_, ?_, ?_, ?_⟩
        · rw [hst, ← b1]
          walk_at "c4ry"
        · unfold B_law_leads_2
          have at1 := at_c1 (a := sL ns) (b := pL ls) (c := pL vs)
          apply j_seq (r1 := .nx (st F (.dat true (.int (F.length : Nat))) s5 s6))
          · rw [hst]
            walk_at "c4ry"
          · apply j_seqN
            apply k_for (its := ls.map fun p => (true, prD p)) (ρ1 := st F (.dat true (.int (F.length : Nat))) s5 s6)
            · rw [hst]
              walk_at "c4ry"
            · exact f1
        · rw [hm, if_neg c]
          split <;> omega
        · rw [hI]
          refine ⟨G, (F.length : Nat), v5, v6, rfl, TG, fun e => ?_, rfl⟩
          obtain ⟨rfl, q⟩ := hG (by omega)
          exact q)
    (n := 100000) start (by omega)
  rw [hJ] at w2
  obtain ⟨F, s4, s5, s6, rfl, T, sh⟩ := w2
  have at0 := at_c0 (a := sL ns) (b := pL ls) (c := pL vs)
  have e1 : sPar [3, 4] (maCons (mOwn (mOne mListK (mLook 1))) (maCons (mDat (mUn dNeg (mE (mp (true, D.int 1))))) (mp []))) [.dat false (cht ns ls vs), .dat false (sL S), .dat false (sL W), .no, .no, .no, .no, .no] = .nx (st S (.dat true (.int (-1))) .no .no) := by
    rw [hst]
    walk_at "c4ry"
  unfold D_law_leads
  apply j_run
  · rfl
  · walk_at "c4ry"
  · apply j_seq e1
    apply j_seqN
    apply j_seq w1
    apply j_seqN
    rw [hst]
    walk_at "c4ry"
  · rfl
  · show D.lst (List.map D.str _) = sL _
    congr 2
    refine filter_in nd hW fun t ht => ?_
    rw [decide_eq_true_eq, decide_eq_true_eq, shl_all T sh t, List.mem_flatMap]
    refine ⟨fun ⟨g, h1, h2⟩ => ?_, fun ⟨h1, g, h2, h3⟩ => ⟨g, h2, (leading_mem.mp h3).2⟩⟩
    have hw : t ∈ W := T.fw t ((shl_all T sh t).mpr ⟨g, h1, h2⟩)
    exact ⟨hw, g, h1, leading_mem.mpr ⟨hw, h2⟩⟩
end F81
section F82
open PySem PySem.Spec PyProof.Rows L2 He Ds
/-- what the law's own closure has found -/
structure LGI (qs : List Pr) (x : Str) (B F : List Str) : Prop where
  nd : F.Nodup
  hx : x ∈ F
  ld : ∀ f ∈ F, Leads qs f x
  sb : ∀ f ∈ F, f ∈ B
def Shut (W : List Str) (vs : List Pr) (F : List Str) : Prop := ∀ p ∈ vs, inn W p = true → (p.1 ∈ F ↔ p.2 ∈ F)
def ends (x : Str) (vs : List Pr) : List Str := x :: (vs.map (·.1) ++ vs.map (·.2))
theorem ends_len {x : Str} {vs : List Pr} : (ends x vs).length = 1 + 2 * vs.length := by
  unfold ends; rw [List.length_cons, List.length_append, List.length_map, List.length_map]; omega
theorem LGI.len {qs vs : List Pr} {x : Str} {F : List Str} (h : LGI qs x (ends x vs) F) : F.length ≤ 1 + 2 * vs.length := by
  have := nodup_le h.nd h.sb
  rw [ends_len] at this
  exact this
theorem mem_sym {W : List Str} {vs : List Pr} {p : Pr} (h : p ∈ vs) (hw : inn W p = true) : p ∈ sym (vs.filter (inn W)) ∧ swp p ∈ sym (vs.filter (inn W)) := by
  have : p ∈ vs.filter (inn W) := List.mem_filter.mpr ⟨h, hw⟩
  exact ⟨List.mem_append_left _ this, List.mem_append_right _ (List.mem_map.mpr ⟨p, this, rfl⟩)⟩
theorem shut_all {W : List Str} {vs : List Pr} {x : Str} {B F : List Str} (h : LGI (sym (vs.filter (inn W))) x B F) (s : Shut W vs F) (t : Str) : t ∈ F ↔ Leads (sym (vs.filter (inn W))) t x := by
  refine ⟨h.ld t, fun l => ?_⟩
  have gen : ∀ {t y : Str}, Leads (sym (vs.filter (inn W))) t y → y ∈ F → t ∈ F := by
    intro t y l
    induction l with
    | refl _ => exact id
    | step hp _ ih =>
      intro hy
      have hu := ih hy
      rcases List.mem_append.mp hp with z | z
      · obtain ⟨z1, z2⟩ := List.mem_filter.mp z
        exact (s _ z1 z2).mpr hu
      · obtain ⟨q, z, e⟩ := List.mem_map.mp z
        obtain ⟨z1, z2⟩ := List.mem_filter.mp z
        unfold swp at e
        cases e
        exact (s _ z1 z2).mp hu
  exact gen l h.hx
theorem LGI.add {W : List Str} {vs : List Pr} {x : Str} {F : List Str} (h : LGI (sym (vs.filter (inn W))) x (ends x vs) F) {u v : Str} (hv : v ∈ F) (hu : u ∉ F) (hp : (u, v) ∈ sym (vs.filter (inn W))) (hb : u ∈ ends x vs) : LGI (sym (vs.filter (inn W))) x (ends x vs) (F ++ [u]) := by
  refine ⟨nodup_snoc h.nd hu, List.mem_append_left _ h.hx, fun f hf => ?_, fun f hf => ?_⟩
  · rcases List.mem_append.mp hf with z | z
    · exact h.ld f z
    · have e : f = u := by simpa using z
      rw [e]
      exact .step hp (h.ld v hv)
  · rcases List.mem_append.mp hf with z | z
    · exact h.sb f z
    · have e : f = u := by simpa using z
      rw [e]
      exact hb
theorem ends_mem {x : Str} {vs : List Pr} {p : Pr} (h : p ∈ vs) : p.1 ∈ ends x vs ∧ p.2 ∈ ends x vs :=
  ⟨List.mem_cons_of_mem _ (List.mem_append_left _ (List.mem_map.mpr ⟨p, h, rfl⟩)), List.mem_cons_of_mem _ (List.mem_append_right _ (List.mem_map.mpr ⟨p, h, rfl⟩))⟩
theorem ev_lg1 {W F : List Str} {s0 s1 s4 s7 : Slot} {f2 : Bool} {a b : Str} (hF : F.length < 1000) :
    ∃ F', B_law_group_1 [s0, s1, .dat f2 (sL W), .own true (F.map D.str), s4, .dat true (.str a), .dat true (.str b), s7] = .nx [s0, s1, .dat f2 (sL W), .own true (F'.map D.str), s4, .dat true (.str a), .dat true (.str b), s7] ∧
      ((F' = F ∧ (inn W (a, b) = true → (a ∈ F ↔ b ∈ F))) ∨ (inn W (a, b) = true ∧ a ∈ F ∧ b ∉ F ∧ F' = F ++ [b]) ∨ (inn W (a, b) = true ∧ a ∉ F ∧ b ∈ F ∧ F' = F ++ [a])) := by
  have i1 := in_strs a W
  have i2 := in_strs b W
  have j1 := in_strs a F
  have j2 := in_strs b F
  have k1 := kAppend_str (xs := F) (z := a) (by omega)
  have k2 := kAppend_str (xs := F) (z := b) (by omega)
  unfold B_law_group_1
  by_cases h1 : a ∈ W
  · rw [decide_eq_true h1] at i1
    by_cases h2 : b ∈ W
    · rw [decide_eq_true h2] at i2
      have hi : inn W (a, b) = true := by unfold inn; rw [decide_eq_true h1, decide_eq_true h2]; rfl
      by_cases h3 : a ∈ F
      · rw [decide_eq_true h3] at j1
        by_cases h4 : b ∈ F
        · rw [decide_eq_true h4] at j2
          have nb := ne_bl true true
          refine ⟨F, ?_, .inl ⟨rfl, fun _ => ⟨fun _ => h4, fun _ => h3⟩⟩⟩
          walk_at "b3rdx"
        · rw [decide_eq_false h4] at j2
          have nb := ne_bl true false
          refine ⟨_, ?_, .inr (.inl ⟨hi, h3, h4, rfl⟩)⟩
          walk_at "b3rdx"
      · rw [decide_eq_false h3] at j1
        by_cases h4 : b ∈ F
        · rw [decide_eq_true h4] at j2
          have nb := ne_bl false true
          refine ⟨_, ?_, .inr (.inr ⟨hi, h3, h4, rfl⟩)⟩
          walk_at "b3rdx"
        · rw [decide_eq_false h4] at j2
          have nb := ne_bl false false
          refine ⟨F, ?_, .inl ⟨rfl, fun _ => ⟨fun z => absurd z h3, fun z => absurd z h4⟩⟩⟩
          walk_at "b3rdx"
    · rw [decide_eq_false h2] at i2
      refine ⟨F, ?_, .inl ⟨rfl, fun z => ?_⟩⟩
      · walk_at "b3rdx"
      · unfold inn at z; rw [decide_eq_false h2, Bool.and_false] at z; cases z
  · rw [decide_eq_false h1] at i1
    refine ⟨F, ?_, .inl ⟨rfl, fun z => ?_⟩⟩
    · walk_at "b3rdx"
    · unfold inn at z; rw [decide_eq_false h1, Bool.false_and] at z; cases z
theorem ev_law_group {ns : List Str} {ls vs : List Pr} {W : List Str} {x : Str} (hv : vs.length ≤ 200) (hn : ns.length ≤ 1000) : D_law_group [.tup [sL ns, pL ls, pL vs], .str x, sL W] = .ok true (sL (leading ns (sym (vs.filter (inn W))) x)) := by
  obtain ⟨st, hst⟩ : ∃ st : List Str → Slot → Slot → Slot → List Slot, st = fun F s4 s5 s6 => [.dat false (.tup [sL ns, pL ls, pL vs]), .dat false (.str x), .dat false (sL W), .own true (F.map D.str), s4, s5, s6, .no] := ⟨_, rfl⟩
  obtain ⟨I, hI⟩ : ∃ I : Nat → List Slot → Prop, I = fun m ρ => ∃ (F : List Str) (s : Int) (s5 s6 : Slot), ρ = st F (.dat true (.int s)) s5 s6 ∧ LGI (sym (vs.filter (inn W))) x (ends x vs) F ∧ (s = (F.length : Nat) → Shut W vs F) ∧ m = 2 * (1 + 2 * vs.length - F.length) + (if s = (F.length : Nat) then 0 else 1) := ⟨_, rfl⟩
  obtain ⟨J, hJ⟩ : ∃ J : List Slot → Prop, J = fun ρ => ∃ (F : List Str) (s4 s5 s6 : Slot), ρ = st F s4 s5 s6 ∧ LGI (sym (vs.filter (inn W))) x (ends x vs) F ∧ Shut W vs F := ⟨_, rfl⟩
  have start : I (2 * (2 * vs.length) + 1) (st [x] (.dat true (.int (-1))) .no .no) := by
    rw [hI]
    refine ⟨[x], -1, .no, .no, rfl, ⟨by simp, by simp, fun f hf => ?_, fun f hf => ?_⟩, fun e => ?_, ?_⟩
    · simp at hf; rw [hf]; exact .refl x
    · simp at hf; rw [hf]; exact List.mem_cons_self
    · simp at e
    · simp
  obtain ⟨ρ', w1, w2⟩ := while_inv (t := mT (mOp dNe (mLook 4) (mE (mUn dLen (mLook 3))))) (b := B_law_group_2) I J
    (fun m ρ h => by
      rw [hI] at h
      obtain ⟨F, s, s5, s6, rfl, T, hs, hm⟩ := h
      have hFl := T.len
      have nb := ne_int s ((F.map D.str).length : Nat)
      by_cases c : s = (F.length : Nat)
      · refine .inl ⟨?_, ?_⟩
        · rw [decide_eq_true (by rw [List.length_map]; exact c)] at nb
          rw [hst]
          walk_at "b3rdg"
        · rw [hJ]
          exact ⟨F, _, s5, s6, rfl, T, hs c⟩
      · -- one more round
        obtain ⟨B, hB⟩ : ∃ B : Nat → List Slot → Prop, B = fun i ρ => ∃ (G : List Str) (v5 v6 : Slot), ρ = st G (.dat true (.int ((F.map D.str).length : Nat))) v5 v6 ∧ LGI (sym (vs.filter (inn W))) x (ends x vs) G ∧ F.length ≤ G.length ∧ (G.length = F.length → G = F ∧ ∀ p ∈ vs.take i, inn W p = true → (p.1 ∈ F ↔ p.2 ∈ F)) := ⟨_, rfl⟩
        obtain ⟨ρ2, f1, f2⟩ := for_inv (t := tgTup 2 (tgsCons (tgName 5) (tgsCons (tgName 6) tgsNil))) (b := B_law_group_1) B
          (its := vs.map fun p => (true, prD p)) (k := 0) (ρ := st F (.dat true (.int ((F.map D.str).length : Nat))) s5 s6)
          (by
            rw [hB]
            exact ⟨F, s5, s6, rfl, T, Nat.le_refl _, fun _ => ⟨rfl, fun p hp => by simp at hp⟩⟩)
          (fun i a ρ ha hb => by
            rw [Nat.zero_add] at hb ⊢
            rw [hB] at hb
            obtain ⟨G, v5, v6, rfl, TG, hFG, hG⟩ := hb
            obtain ⟨⟨u, v⟩, hpp, rfl⟩ := map_get ha
            have hps : (u, v) ∈ vs := List.mem_of_getElem? hpp
            have hGl := TG.len
            obtain ⟨G', e, cs⟩ := ev_lg1 (W := W) (F := G) (a := u) (b := v) (s0 := .dat false (.tup [sL ns, pL ls, pL vs])) (s1 := .dat false (.str x)) (s4 := .dat true (.int ((F.map D.str).length : Nat))) (s7 := .no) (f2 := false) (by omega)
            refine ⟨st G (.dat true (.int ((F.map D.str).length : Nat))) (.dat true (.str u)) (.dat true (.str v)), st G' (.dat true (.int ((F.map D.str).length : Nat))) (.dat true (.str u)) (.dat true (.str v)), by rw [hst]; rfl, by rw [hst]; exact e, ?_⟩
            rw [hB]
            have tk := take_succ_of hpp
            refine ⟨G', _, _, rfl, ?_⟩
            rcases cs with ⟨rfl, k⟩ | ⟨h1, h2, h3, rfl⟩ | ⟨h1, h2, h3, rfl⟩
            · refine ⟨TG, hFG, fun e => ?_⟩
              obtain ⟨rfl, q⟩ := hG e
              refine ⟨rfl, fun p hp => ?_⟩
              rw [tk] at hp
              rcases List.mem_append.mp hp with z | z
              · exact q p z
              · have e2 : p = (u, v) := by simpa using z
                rw [e2]
                exact k
            · refine ⟨TG.add h2 h3 (mem_sym hps h1).2 (ends_mem hps).2, by rw [List.length_append]; omega, fun e => ?_⟩
              rw [List.length_append, List.length_singleton] at e; omega
            · refine ⟨TG.add h3 h2 (mem_sym hps h1).1 (ends_mem hps).1, by rw [List.length_append]; omega, fun e => ?_⟩
              rw [List.length_append, List.length_singleton] at e; omega)
        rw [hB, Nat.zero_add] at f2
        obtain ⟨G, v5, v6, rfl, TG, hFG, hG⟩ := f2
        have hGl := TG.len
        rw [List.length_map (f := fun p => (true, prD p)), List.take_length] at hG
        have et : atI [sL ns, pL ls, pL vs] 2 = some (pL vs) := rfl
        refine .inr ⟨st G (.dat true (.int ((F.map D.str).length : Nat))) v5 v6, 2 * (1 + 2 * vs.length - G.length) + (if ((F.length : Nat) : Int) = (G.length : Nat) then 0 else 1), ?_, ?_, ?_, ?_⟩
        rotate_left
        · unfold B_law_group_2
          apply k_seq (ρ1 := st F (.dat true (.int ((F.map D.str).length : Nat))) s5 s6)
          · rw [hst]; walk_at "b3rdx"
          · refine (k_for (its := vs.map fun p => (true, prD p)) (ρ1 := st F (.dat true (.int ((F.map D.str).length : Nat))) s5 s6) ?_ f1).trans rfl
            have pw : itList (false || flatD (pL vs), pL vs) = some (vs.map fun p => (true, prD p)) := by
              rw [← tag_pL]; rfl
            rw [hst]
            walk_at "b3rdx"
        · rw [hm, if_neg c]
          split <;> omega
        · rw [hI]
          refine ⟨G, (F.length : Nat), v5, v6, by rw [List.length_map], TG, fun e => ?_, rfl⟩
          obtain ⟨rfl, q⟩ := hG (by omega)
          exact q
        · rw [decide_eq_false (by rw [List.length_map]; exact c)] at nb
          rw [hst]
          walk_at "b3rdg")
    (n := 100000) start (by omega)
  rw [hJ] at w2
  obtain ⟨F, s4, s5, s6, rfl, T, sh⟩ := w2
  have en : atI [sL ns, pL ls, pL vs] 0 = some (sL ns) := rfl
  have pn : itList (false || flatD (sL ns), sL ns) = some (ns.map fun p => (true, D.str p)) := by
    rw [← tag_sL]; rfl
  have c1 : compD [7] (tgName 7) (mT (mOp dIn (mLook 7) (mLook 3))) (mVar 7) (st F s4 s5 s6) (ns.map fun p => (true, D.str p)) true [] (st F s4 s5 s6) = .ok (true, (leading ns (sym (vs.filter (inn W))) x).map D.str) (st F s4 s5 s6) := by
    rw [hst]
    refine (comp_map (p := fun t => decide (t ∈ F)) (g := D.str) (fun t ht => ?_) (by omega)).trans ?_
    · have i1 := in_strs t F
      refine ⟨[.dat false (.tup [sL ns, pL ls, pL vs]), .dat false (.str x), .dat false (sL W), .own true (F.map D.str), s4, s5, s6, .dat true (.str t)], rfl, ?_, fun _ => rfl, rfl⟩
      walk_at "b3rdg"
    · rw [← leading_eq (F := F) fun t _ => shut_all T sh t]
      rfl
  unfold D_law_group
  apply k_run (fr := true)
  · rfl
  · apply k_seq (ρ1 := st [x] (.dat true (.int (-1))) .no .no)
    · rw [hst]; walk_at "b3rdx"
    apply k_seq
    · exact w1
    · rw [hst] at c1 ⊢
      walk_at "b3rdx"
  · rfl
end F82
section F83
open PySem PySem.Spec PyProof.Rows L2 He Ds
/-! ### the law's own groups, chains, what is stuck -/
theorem sym_swp {ps : List Pr} {p : Pr} (h : p ∈ sym ps) : swp p ∈ sym ps := by
  rcases List.mem_append.mp h with z | z
  · exact List.mem_append_right _ (List.mem_map.mpr ⟨p, z, rfl⟩)
  · obtain ⟨q, hq, rfl⟩ := List.mem_map.mp z
    exact List.mem_append_left _ hq
theorem leads_symm {ps : List Pr} {a b : Str} (l : Leads (sym ps) a b) : Leads (sym ps) b a := by
  induction l with
  | refl a => exact .refl a
  | step h _ ih => exact ih.trans (.step (sym_swp h) (.refl _))
theorem sym_inn {vs : List Pr} {W : List Str} {a b : Str} (h : (a, b) ∈ sym (vs.filter (inn W))) : a ∈ W ∧ b ∈ W := by
  rcases List.mem_append.mp h with z | z
  · exact inn_iff.mp (List.mem_filter.mp z).2
  · obtain ⟨q, hq, e⟩ := List.mem_map.mp z
    have := inn_iff.mp (List.mem_filter.mp hq).2
    unfold swp at e
    cases e
    exact ⟨this.2, this.1⟩
theorem sym_up {vs : List Pr} {W W' : List Str} {a b : Str} (h : (a, b) ∈ sym (vs.filter (inn W))) (ha : a ∈ W') (hb : b ∈ W') : (a, b) ∈ sym (vs.filter (inn W')) := by
  rcases List.mem_append.mp h with z | z
  · exact List.mem_append_left _ (List.mem_filter.mpr ⟨(List.mem_filter.mp z).1, inn_iff.mpr ⟨ha, hb⟩⟩)
  · obtain ⟨q, hq, e⟩ := List.mem_map.mp z
    unfold swp at e
    cases e
    exact List.mem_append_right _ (List.mem_map.mpr ⟨q, List.mem_filter.mpr ⟨(List.mem_filter.mp hq).1, inn_iff.mpr ⟨hb, ha⟩⟩, rfl⟩)
theorem leads_in {vs : List Pr} {W : List Str} {a x : Str} (hx : x ∈ W) (l : Leads (sym (vs.filter (inn W))) a x) : a ∈ W := by
  cases l with
  | refl => exact hx
  | step h _ => exact (sym_inn h).1
open Classical in
theorem grp_law {ns W : List Str} {vs : List Pr} {x : Str} (nd : ns.Nodup) (hW : W.Sublist ns) (hx : x ∈ W) : leading ns (sym (vs.filter (inn W))) x = grp vs W x := by
  unfold grp leading
  refine filter_in nd hW fun t _ => ?_
  simp only [decide_eq_true_eq]
  exact ⟨fun l => ⟨leads_in hx l, l⟩, fun h => h.2⟩
theorem any_filter {α : Type} {p : α → Bool} : ∀ {xs : List α}, decide (xs.filter p = []) = !xs.any p
  | [] => rfl
  | x :: xs => by
    rw [List.any_cons]
    cases h : p x with
    | true => rw [List.filter_cons, if_pos h]; rfl
    | false =>
      rw [List.filter_cons, if_neg (by rw [h]; decide), Bool.false_or]
      exact any_filter
/-- all of some things are joined with the first one, within them -/
def Conn (vs : List Pr) (s : List Str) (x : Str) : Prop := ∀ y ∈ s, Leads (sym (vs.filter (inn s))) y x
theorem Conn.sub {vs : List Pr} {s c : List Str} {x : Str} (h : Conn vs s x) (hs : ∀ y ∈ s, y ∈ c) : ∀ y ∈ s, y ∈ grp vs c x := fun y hy => by
  refine leading_mem.mpr ⟨hs y hy, (h y hy).mono fun p hp => ?_⟩
  obtain ⟨a, b⟩ := p
  have := sym_inn hp
  exact sym_up hp (hs a this.1) (hs b this.2)
theorem conn_grp {vs : List Pr} {C : List Str} {x z : Str} (hx : x ∈ C) (hz : z ∈ grp vs C x) : Conn vs (grp vs C x) z := by
  have gen : ∀ {a b : Str}, Leads (sym (vs.filter (inn C))) a b → b ∈ grp vs C x → Leads (sym (vs.filter (inn (grp vs C x)))) a b := by
    intro a b l
    induction l with
    | refl a => exact fun _ => .refl a
    | step h _ ih =>
      intro hb
      have lb := (leading_mem.mp hb).2
      rename_i p q r m
      have hq : q ∈ grp vs C x := leading_mem.mpr ⟨(sym_inn h).2, m.trans lb⟩
      have hp : p ∈ grp vs C x := leading_mem.mpr ⟨(sym_inn h).1, (Leads.step h m).trans lb⟩
      exact .step (sym_up h hp hq) (ih hb)
  intro y hy
  have l1 := (leading_mem.mp hy).2
  have l2 := (leading_mem.mp hz).2
  exact gen (l1.trans (leads_symm l2)) hz
theorem hdS_mem {s : List Str} (h : s ≠ []) : hdS s ∈ s := by
  cases s with
  | nil => exact absurd rfl h
  | cons x s => exact List.mem_cons_self
theorem want_conn {ns : List Str} {ls vs : List Pr} {acted asked : List Str} {s : List Str} (h : s ∈ want ns ls vs acted asked) : Conn vs s (hdS s) := by
  have ne := (want_sub h).2
  have hm := hdS_mem ne
  obtain ⟨x, hx, e⟩ := want_mem h
  rw [e] at hm ⊢
  exact conn_grp hx hm
section
variable {ns : List Str} {ls vs : List Pr} {acted asked : List Str}
/-- a diagram of few unlike things -/
structure Fw (ns : List Str) (ls vs : List Pr) : Prop where
  n : ns.length ≤ 50
  l : ls.length ≤ 200
  v : vs.length ≤ 200
  nd : ns.Nodup
theorem Fw.few (f : Fw ns ls vs) : Few ns ls vs := ⟨f.n, Nat.le_trans f.l (by decide), Nat.le_trans f.v (by decide)⟩
theorem ev_lgrp (f : Fw ns ls vs) {W : List Str} {x : Str} (hW : W.Sublist ns) (hx : x ∈ W) : D_law_group [cht ns ls vs, .str x, sL W] = .ok true (sL (grp vs W x)) := by
  have := ev_law_group (ns := ns) (ls := ls) (vs := vs) (W := W) (x := x) f.v (Nat.le_trans f.n (by decide))
  rw [grp_law f.nd hW hx] at this
  exact this
theorem ev_llead (f : Fw ns ls vs) {W S : List Str} (hW : W.Sublist ns) (hS : ∀ g ∈ S, g ∈ W) (sn : S.Nodup) : D_law_leads [cht ns ls vs, sL S, sL W] = .ok true (sL (lead ls W S)) :=
  ev_law_leads f.l (Nat.le_trans f.n (by decide)) f.nd hW hS sn
theorem ev_lw1 (f : Fw ns ls vs) {W : List Str} {x : Str} (hW : W.Sublist ns) (hx : x ∈ W) {gs : List (List Str)} (hg : gs.length ≤ 1000) {s1 s2 s4 s7 : Slot} :
    B_law_wanted_1 [.dat false (cht ns ls vs), s1, s2, .dat true (.str x), s4, .dat true (sL W), .own true (gs.map sL), s7] =
      .nx [.dat false (cht ns ls vs), s1, s2, .dat true (.str x), s4, .dat true (sL W), .own true ((if gs.any (fun s => decide (x ∈ s)) = true then gs else gs ++ [grp vs W x]).map sL), s7] := by
  have eg := ev_lgrp f hW hx
  have ea := any_filter (p := fun s : List Str => decide (x ∈ s)) (xs := gs)
  unfold B_law_wanted_1
  cases c : gs.any (fun s => decide (x ∈ s)) with
  | true =>
    rw [c] at ea
    have b1 : decide (gs.filter (fun s => decide (x ∈ s)) = []) = false := ea
    rw [if_pos rfl]
    walk_at "c4ry"
  | false =>
    rw [c] at ea
    have b1 : decide (gs.filter (fun s => decide (x ∈ s)) = []) = true := ea
    rw [if_neg (by decide)]
    walk_at "c4ry"
theorem ev_law_wanted (f : Fw ns ls vs) (h : AskOk ns acted asked) : D_law_wanted [cht ns ls vs, sL acted, sL asked] = .ok true (sLL (want ns ls vs acted asked)) := by
  have at0 := at_c0 (a := sL ns) (b := pL ls) (c := pL vs)
  have hn := f.n
  have hr : (ns.filter fun x => !decide (x ∈ acted)).Sublist ns := List.filter_sublist
  have e1 : D_law_leads [cht ns ls vs, sL asked, sL (ns.filter fun x => !decide (x ∈ acted))] = .ok true (sL (cnt ns ls acted asked)) := ev_llead f hr (fun g hg => List.mem_filter.mpr ⟨h.k g hg, by simp [h.d g hg]⟩) h.kn
  have hC := cnt_sub (ns := ns) (ls := ls) (acted := acted) (asked := asked)
  have loop : ∀ (xs : List Str) (gs : List (List Str)) (s3 : Slot), (∀ x ∈ xs, x ∈ cnt ns ls acted asked) → gs.length + xs.length ≤ 1000 → ∃ s, forD (tgName 3) B_law_wanted_1 (xs.map fun x => (true, D.str x)) [.dat false (cht ns ls vs), .dat false (sL acted), .dat false (sL asked), s3, .dat true (sL (ns.filter fun x => !decide (x ∈ acted))), .dat true (sL (cnt ns ls acted asked)), .own true (gs.map sL), .no] =
      .nx [.dat false (cht ns ls vs), .dat false (sL acted), .dat false (sL asked), s, .dat true (sL (ns.filter fun x => !decide (x ∈ acted))), .dat true (sL (cnt ns ls acted asked)), .own true ((grps (grp vs (cnt ns ls acted asked)) gs xs).map sL), .no] := by
    intro xs
    induction xs with
    | nil => exact fun gs s3 _ _ => ⟨s3, rfl⟩
    | cons x xs ih =>
      intro gs s3 hm hl
      rw [List.length_cons] at hl
      rw [List.map_cons]
      have e := ev_lw1 f hC (hm x List.mem_cons_self) (gs := gs) (by omega) (s1 := .dat false (sL acted)) (s2 := .dat false (sL asked)) (s4 := .dat true (sL (ns.filter fun x => !decide (x ∈ acted)))) (s7 := .no)
      rw [k_forC (show tgName 3 _ _ = some _ from rfl) e]
      exact ih _ _ (fun y hy => hm y (List.mem_cons_of_mem _ hy)) (by
        split
        · omega
        · rw [List.length_append]; simp; omega)
  have hcl := hC.length_le
  obtain ⟨s, hs⟩ := loop (cnt ns ls acted asked) [] .no (fun _ h => h) (by simp; omega)
  unfold D_law_wanted
  apply j_run
  · rfl
  · walk_at "c4ry"
  · apply j_seq
    · walk_at "c4ry"
    apply j_seqN
    apply j_seq
    · walk_at "c4ry"
    apply j_seqN
    apply j_seq
    · apply k_for
      · walk_at "c4ry"
      · exact hs
    walk_at "c4ry"
  · rfl
  · rfl
theorem ev_lchain_loop (f : Fw ns ls vs) {S' : List Str} {x : Str} (hS : (x :: S').Sublist ns) (cn : Conn vs (x :: S') x) : ∀ (n m : Nat) (acc : List (List Str)) (last : List Str) (s3 s4 : Slot), last.Sublist ns → (∀ y ∈ x :: S', y ∈ last) → last.length < n → n ≤ m → acc.length + 2 * n ≤ 1000 →
    ∃ r, whileD (mT (mOp dNe (mE (mBin mIxL (mLook 2) (mE (mUn dNeg (mE (mp (true, D.int 1))))))) (mLook 1))) B_law_chain_1 m [.dat false (cht ns ls vs), .dat false (sL (x :: S')), .own true ((acc ++ [last]).map sL), s3, s4] = r ∧
      ((∃ s3 s4, r = .nx [.dat false (cht ns ls vs), .dat false (sL (x :: S')), .own true ((chn (fun W => lead ls W (x :: S')) (fun W => grp vs W x) (x :: S') n (acc ++ [last]) last).map sL), s3, s4]) ∨
        ∃ ρ', r = .rt true (sLL (chn (fun W => lead ls W (x :: S')) (fun W => grp vs W x) (x :: S') n (acc ++ [last]) last)) ρ') := by
  intro n
  induction n with
  | zero => intro m acc last s3 s4 _ _ h; omega
  | succ n ih =>
    intro m acc last s3 s4 hsub hin h1 h2 h4
    obtain ⟨m, rfl⟩ : ∃ k, m = k + 1 := ⟨m - 1, by omega⟩
    have snd : (x :: S').Nodup := hS.nodup f.nd
    have e1 := ev_llead f hsub hin snd
    have sub1 : (lead ls last (x :: S')).Sublist last := lead_sub
    have in1 : ∀ y ∈ x :: S', y ∈ lead ls last (x :: S') := fun y hy => lead_mem.mpr ⟨hin y hy, y, hy, .refl y⟩
    have e2 := ev_lgrp f (sub1.trans hsub) (in1 x List.mem_cons_self)
    have in2 : ∀ y ∈ x :: S', y ∈ grp vs (lead ls last (x :: S')) x := cn.sub in1
    have sub2 : (grp vs (lead ls last (x :: S')) x).Sublist ns := grp_sub.trans (sub1.trans hsub)
    have l1 : (lead ls last (x :: S')).length ≤ last.length := lead_len
    have l2 : (grp vs (lead ls last (x :: S')) x).length ≤ (lead ls last (x :: S')).length := grp_sub.length_le
    by_cases c1 : last = x :: S'
    · have b1 : (!decide (last = x :: S')) = false := by rw [decide_eq_true c1]; rfl
      refine ⟨_, k_whF (ρ1 := [.dat false (cht ns ls vs), .dat false (sL (x :: S')), .own true ((acc ++ [last]).map sL), s3, s4]) ?_, .inl ⟨s3, s4, ?_⟩⟩
      · rw [← b1]
        walk_at "c4ry"
      · rw [chn, if_pos c1]
    · have b1 : (!decide (last = x :: S')) = true := by rw [decide_eq_false c1]; rfl
      have t1 : mT (mOp dNe (mE (mBin mIxL (mLook 2) (mE (mUn dNeg (mE (mp (true, D.int 1))))))) (mLook 1)) [.dat false (cht ns ls vs), .dat false (sL (x :: S')), .own true ((acc ++ [last]).map sL), s3, s4] = .ok true [.dat false (cht ns ls vs), .dat false (sL (x :: S')), .own true ((acc ++ [last]).map sL), s3, s4] := by
        rw [← b1]
        walk_at "c4ry"
      by_cases c2 : lead ls last (x :: S') = last
      · have b2 : decide (lead ls last (x :: S') = last) = true := decide_eq_true c2
        have rr : ∃ ρ2, B_law_chain_1 [.dat false (cht ns ls vs), .dat false (sL (x :: S')), .own true ((acc ++ [last]).map sL), s3, s4] = .rt true (sLL (acc ++ [last])) ρ2 := by
          unfold B_law_chain_1
          apply Exists.intro
          walk_at "c4ry"
        obtain ⟨ρ2, rr⟩ := rr
        exact ⟨_, k_whR t1 rr, .inr ⟨ρ2, by rw [chn, if_neg c1, if_pos c2]⟩⟩
      · have b2 : decide (lead ls last (x :: S') = last) = false := decide_eq_false c2
        have lt := sub_lt lead_sub c2
        by_cases c3 : grp vs (lead ls last (x :: S')) x = lead ls last (x :: S')
        · have b3 : (!decide (grp vs (lead ls last (x :: S')) x = lead ls last (x :: S'))) = false := by rw [decide_eq_true c3]; rfl
          obtain ⟨r, h5, h6⟩ := ih m (acc ++ [last]) (lead ls last (x :: S')) (.dat true (sL (lead ls last (x :: S')))) (.dat true (sL (grp vs (lead ls last (x :: S')) x))) (sub1.trans hsub) in1 (by omega) (by omega) (by simp; omega)
          rw [chn, if_neg c1, if_neg c2, if_pos c3]
          refine ⟨r, k_whT t1 ?_ h5, h6⟩
          unfold B_law_chain_1
          walk_at "c4ry"
        · have b3 : (!decide (grp vs (lead ls last (x :: S')) x = lead ls last (x :: S'))) = true := by rw [decide_eq_false c3]; rfl
          obtain ⟨r, h5, h6⟩ := ih m (acc ++ [last] ++ [lead ls last (x :: S')]) (grp vs (lead ls last (x :: S')) x) (.dat true (sL (lead ls last (x :: S')))) (.dat true (sL (grp vs (lead ls last (x :: S')) x))) sub2 in2 (by omega) (by omega) (by simp; omega)
          rw [chn, if_neg c1, if_neg c2, if_neg c3]
          refine ⟨r, k_whT t1 ?_ h5, h6⟩
          unfold B_law_chain_1
          walk_at "c4ry"
theorem ev_law_chain (f : Fw ns ls vs) {s : List Str} (hs : s.Sublist ns) (ne : s ≠ []) (cn : Conn vs s (hdS s)) : D_law_chain [cht ns ls vs, sL s] = .ok true (sLL (stpS ns ls vs s)) := by
  cases s with
  | nil => exact absurd rfl ne
  | cons x S' =>
    have at0 := at_c0 (a := sL ns) (b := pL ls) (c := pL vs)
    have hx : x ∈ ns := hs.subset List.mem_cons_self
    have e1 := ev_lgrp f (List.Sublist.refl ns) hx
    have hn := f.n
    have l2 : (grp vs ns x).length ≤ ns.length := grp_sub.length_le
    obtain ⟨r, h1, h2⟩ := ev_lchain_loop f hs cn (ns.length + 1) 100000 [] (grp vs ns x) .no .no grp_sub (cn.sub fun y hy => hs.subset hy) (by omega) (by omega) (by simp; omega)
    unfold D_law_chain
    have e2 : goInit [cht ns ls vs, sL (x :: S')] 5 = [.dat false (cht ns ls vs), .dat false (sL (x :: S')), .no, .no, .no] := by walk_at "c4ry"
    have e3 : sSetO 2 (mLst (maCons (mDat (mCall D_law_group (maCons (mDat (mVar 0)) (maCons (mDat (mBin mIxL (mLook 1) (mE (mp (true, D.int 0))))) (maCons (mDat (mBin mIxT (mLook 0) (mE (mp (true, D.int 0))))) (mp [])))))) (mp []))) [.dat false (cht ns ls vs), .dat false (sL (x :: S')), .no, .no, .no] = .nx [.dat false (cht ns ls vs), .dat false (sL (x :: S')), .own true (([] ++ [grp vs ns x]).map sL), .no, .no] := by
      walk_at "c4ry"
    rcases h2 with ⟨s3, s4, rfl⟩ | ⟨ρ', rfl⟩
    · apply j_run rfl e2
      · refine j_seq e3 (j_seqN (j_seq h1 (j_seqN ?_)))
        walk_at "c4ry"
      · rfl
      · rfl
    · apply j_run rfl e2
      · exact j_seq e3 (j_seqN (j_seq h1 j_seqR))
      · rfl
      · rfl
theorem ev_law_stuck (f : Fw ns ls vs) (h : AskOk ns acted asked) : D_law_stuck [cht ns ls vs, sL acted, sL asked] = .ok true (stkD ns ls vs acted asked) := by
  have e1 := ev_law_wanted f h
  have loop := for_check (mk := fun s ρ => .rt true (.tup [sL s, sL (lastOf (stpS ns ls vs s))]) ρ) (t := tgName 3) (b := B_law_stuck_1) (xs := want ns ls vs acted asked) (e := fun s => (true, sL s)) (fun x ρ => mk_rt (f := fun _ => true) (ed := fun s => .tup [sL s, sL (lastOf (stpS ns ls vs s))]) x ρ)
    (fun ρ => ∃ v w, ρ = [.dat false (cht ns ls vs), .dat false (sL acted), .dat false (sL asked), v, w]) (fun _ s => (!decide (lastOf (stpS ns ls vs s) = s)) = true)
    (fun i s ρ hi hI => by
      obtain ⟨v, w, rfl⟩ := hI
      have hs := List.mem_of_getElem? hi
      have e4 := ev_law_chain f (want_sub hs).1 (want_sub hs).2 (want_conn hs)
      have e5 := at_last (stpS_ne (ns := ns) (ls := ls) (vs := vs) (s := s))
      refine ⟨[.dat false (cht ns ls vs), .dat false (sL acted), .dat false (sL asked), .dat true (sL s), w], rfl, fun nb => ⟨[.dat false (cht ns ls vs), .dat false (sL acted), .dat false (sL asked), .dat true (sL s), .dat true (sL (lastOf (stpS ns ls vs s)))], ?_, _, _, rfl⟩, fun hb => ?_⟩
      · have b1 : (!decide (lastOf (stpS ns ls vs s) = s)) = false := by simpa using nb
        unfold B_law_stuck_1
        walk_at "c4ry"
      · apply Exists.intro
        unfold B_law_stuck_1
        walk_at "c4ry") (ρ := [.dat false (cht ns ls vs), .dat false (sL acted), .dat false (sL asked), .no, .no]) ⟨_, _, rfl⟩
  unfold D_law_stuck stkD
  cases e : stk ns ls vs acted asked with
  | none =>
    obtain ⟨ρ', h1, _⟩ := loop.1 (nb_find e)
    apply j_run
    · rfl
    · walk_at "c4ry"
    · apply j_seq
      · apply k_for
        · walk_at "c4ry"
        · exact h1
      · walk_at "c4ry"
    · rfl
    · rfl
  | some s =>
    obtain ⟨ρ', h1⟩ := loop.2 s (fb_find e)
    apply j_run
    · rfl
    · walk_at "c4ry"
    · apply j_seq
      · apply k_for
        · walk_at "c4ry"
        · exact h1
      · walk_at "c4ry"
    · rfl
    · rfl
end
end F83
section F84
open PySem PySem.Spec PyProof.Rows L2 He Ds
/-! ### the charts that everybody knows -/
def kn : List (Str × List Str × List Str) := [("xy", ["xy"], ["xy"]), ("xzy", ["xz", "zy"], ["xy"]), ("wzxy", ["wz", "zx", "xy"], ["wx", "wy"]),
  ("xzy", ["xz", "zy"], ["xz"]), ("zxy", ["zx", "zy", "xy"], []), ("zxy", ["zx", "xy"], ["xy"]),
  ("xazby", ["xa", "az", "zb", "by"], ["xz", "az"]), ("xzwy", ["xz", "zw", "wy"], ["xw", "zy"]),
  ("xzy", ["xz", "zy", "xy"], ["xz", "zy"]), ("wxzy", ["wx", "xz", "zy", "wy"], ["xy", "wx"])]
def kD (k : Str × List Str × List Str) : D := .tup [.str k.1, sL k.2.1, sL k.2.2]
def kNs (k : Str × List Str × List Str) : List Str := k.1.cps.toList.map letter
def toPr (s : Str) : Pr := match s.cps.toList with
  | [a, b] => (letter a, letter b)
  | _ => ("", "")
def kLs (k : Str × List Str × List Str) : List Pr := k.2.1.map toPr
def kVs (k : Str × List Str × List Str) : List Pr := k.2.2.map toPr
def okB (k : Str × List Str × List Str) : Bool := decide (1 ≤ (kNs k).length) && decide ((kNs k).length ≤ 6) && (k.1.cps.toList.all fun c => decide (97 ≤ c) && decide (c ≤ 122)) && decide (kNs k).Nodup &&
  ((kLs k).all fun p => decide ((kNs k).idxOf p.1 < (kNs k).idxOf p.2) && decide (p.1 ∈ kNs k) && decide (p.2 ∈ kNs k)) && decide (kLs k).Nodup && ((kVs k).all fun p => decide (p.1 ∈ kNs k) && decide (p.2 ∈ kNs k) && decide (p.1 ≠ p.2)) &&
  decide ((kVs k).Pairwise fun p q => p ≠ q ∧ p ≠ (q.2, q.1)) && decide ((kVs k).length ≤ 5) && decide (("x" : Str) ∈ kNs k) && decide (("y" : Str) ∈ kNs k)
def twoB (k : Str × List Str × List Str) : Bool := (k.2.1 ++ k.2.2).all fun s => decide (s.cps.size = 2)
theorem kn_two : kn.all twoB = true := by decide +kernel
theorem kn_ok : kn.all okB = true := by decide +kernel
theorem signs_letters (z : Str) : signs z = (z.cps.toList.map letter).map D.str := by
  unfold signs
  rw [List.map_map]
  rfl
theorem signs_two {s : Str} (h : s.cps.size = 2) : D.tup (signs s) = prD (toPr s) := by
  rw [signs_letters]
  unfold toPr
  have hl : s.cps.toList.length = 2 := by rw [Array.length_toList]; exact h
  match q : s.cps.toList with
  | [a, b] => rfl
  | [] => rw [q] at hl; cases hl
  | [_] => rw [q] at hl; cases hl
  | _ :: _ :: _ :: _ => rw [q] at hl; simp at hl
theorem kn_chart {k : Str × List Str × List Str} (h : k ∈ kn) : ChartOk 6 (kNs k) (kLs k) (kVs k) ∧ ("x" : Str) ∈ kNs k ∧ ("y" : Str) ∈ kNs k := by
  have h1 := List.all_eq_true.mp kn_ok k h
  unfold okB at h1
  simp only [Bool.and_eq_true, decide_eq_true_eq, List.all_eq_true] at h1
  obtain ⟨⟨⟨⟨⟨⟨⟨⟨⟨⟨a1, a2⟩, a3⟩, a4⟩, a5⟩, a6⟩, a7⟩, a8⟩, a9⟩, a10⟩, a11⟩ := h1
  refine ⟨⟨a1, a2, fun x hx => ?_, a4, ⟨kNs k, List.Perm.refl _, fun p hp => ?_⟩, a6, fun p hp => ?_, a8, a9⟩, a10, a11⟩
  · obtain ⟨c, hc, rfl⟩ := List.mem_map.mp hx
    exact ⟨c, (a3 c hc).1, (a3 c hc).2, rfl⟩
  · obtain ⟨⟨b1, b2⟩, b3⟩ := a5 p hp
    refine ⟨(kNs k).idxOf p.1, (kNs k).idxOf p.2, b1, ?_, ?_⟩
    · rw [List.getElem?_eq_getElem (List.idxOf_lt_length_iff.mpr b2), List.getElem_idxOf]
    · rw [List.getElem?_eq_getElem (List.idxOf_lt_length_iff.mpr b3), List.getElem_idxOf]
  · obtain ⟨⟨b1, b2⟩, b3⟩ := a7 p hp
    exact ⟨b1, b2, b3⟩
theorem j_listS {ρ ρ1 : List Slot} {m : M Look} {fa : Look} {f : Bool} {z : Str} {ds : List D} (h1 : m ρ = .ok fa ρ1) (h2 : fa ρ1 = some (f, .str z)) (hz : z.length ≤ 100000) (h3 : signs z = ds) : mOne mListSK m ρ = .ok (true, ds) ρ1 := by
  refine k_one h1 h2 ?_
  unfold mListSK; dsimp only; rw [if_pos hz, h3]; rfl
theorem j_tupS {ρ ρ1 : List Slot} {m : M Look} {fa : Look} {f : Bool} {z : Str} (h1 : m ρ = .ok fa ρ1) (h2 : fa ρ1 = some (f, .str z)) (hz : z.length ≤ 100000) : mOne mTupSK m ρ = .ok (true, .tup (signs z)) ρ1 := by
  refine k_one h1 h2 ?_
  unfold mTupSK; dsimp only; rw [if_pos hz]; rfl
def smallB (k : Str × List Str × List Str) : Bool := decide (k.1.length ≤ 100000) && decide (k.2.1.length ≤ 1000) && decide (k.2.2.length ≤ 1000) && (k.2.1 ++ k.2.2).all fun s => decide (s.length ≤ 100000)
theorem kn_small : kn.all smallB = true := by decide +kernel
theorem ev_law_known {n : Nat} {ns : List Int} (h : PoolOk ns n) (hn : n ≤ 900000000) : ∃ ns' k, k ∈ kn ∧ PoolOk ns' (n + 1) ∧ D_law_known ns [] = .ok true (.tup [cht (kNs k) (kLs k) (kVs k), sL ["x"], sL ["y"]]) ns' := by
  obtain ⟨d, ms, e1, d0, d1, hm⟩ := ev_draw (m := 10) h (by omega) (by decide) (by decide)
  obtain ⟨k, hk⟩ : ∃ k, kn[d.toNat]? = some k := by
    have : d.toNat < kn.length := by
      have : kn.length = 10 := rfl
      omega
    exact ⟨_, List.getElem?_eq_getElem this⟩
  have hkm := List.mem_of_getElem? hk
  have hat : atI (kn.map kD) d = some (kD k) := by
    have : d = (d.toNat : Nat) := by omega
    rw [this]
    exact atI_nat (by rw [List.getElem?_map, hk]; rfl)
  have hsm := List.all_eq_true.mp kn_small k hkm
  unfold smallB at hsm
  simp only [Bool.and_eq_true, decide_eq_true_eq, List.all_eq_true] at hsm
  obtain ⟨⟨⟨z1, z2⟩, z3⟩, z4⟩ := hsm
  have htw := List.all_eq_true.mp kn_two k hkm
  unfold twoB at htw
  simp only [decide_eq_true_eq, List.all_eq_true] at htw
  refine ⟨ms, k, hkm, hm, ?_⟩
  unfold D_law_known
  apply j_runP
  · rfl
  · walk_at "c4ry"
  · apply j_seq (r1 := .nx [.pool ns, .dat true (.lst ((kn.take 3).map kD)), .no, .no, .no, .no])
    · rfl
    apply j_seqN
    apply j_seq (r1 := .nx [.pool ns, .dat true (.lst ((kn.take 6).map kD)), .no, .no, .no, .no])
    · rfl
    apply j_seqN
    apply j_seq (r1 := .nx [.pool ns, .dat true (.lst ((kn.take 8).map kD)), .no, .no, .no, .no])
    · rfl
    apply j_seqN
    apply j_seq (r1 := .nx [.pool ns, .dat true (.lst (kn.map kD)), .no, .no, .no, .no])
    · rfl
    apply j_seqN
    apply j_seq (r1 := .nx [.pool ms, .dat true (.lst (kn.map kD)), .dat true (.str k.1), .dat true (sL k.2.1), .dat true (sL k.2.2), .no])
    · apply j_asg
      · apply j_ixL
        · walk_at "c4ry"
        · apply j_E
          apply k_pool (ns := ns) (ns' := ms) rfl
          · rfl
          · rfl
          · rfl
          · exact e1
          · rfl
          · rfl
        · rfl
        · rfl
        · exact hat
        · rfl
      · rfl
    apply j_seqN
    apply j_ret
    apply j_tup
    · apply a_consF
      · apply j_tup
        · apply a_consF
          · apply j_keep
            apply j_listS
            · walk_at "c4ry"
            · rfl
            · exact z1
            · exact signs_letters _
          · apply a_consF
            · apply j_keep
              apply j_compA
              · walk_at "c4ry"
              · omega
              · walk_at "c4ry"
              · walk_at "c4ry"
              · intro s hs
                apply j_tupS
                · walk_at "c4ry"
                · rfl
                · exact z4 s (List.mem_append_left _ hs)
              · walk_at "c4ry"
              · walk_at "c4ry"
            · apply a_consF
              · apply j_keep
                apply j_compA
                · walk_at "c4ry"
                · omega
                · walk_at "c4ry"
                · walk_at "c4ry"
                · intro s hs
                  apply j_tupS
                  · walk_at "c4ry"
                  · rfl
                  · exact z4 s (List.mem_append_right _ hs)
                · walk_at "c4ry"
                · walk_at "c4ry"
              · exact a_nil
              · walk_at "c4ry"
              · walk_at "c4ry"
            · walk_at "c4ry"
            · walk_at "c4ry"
          · walk_at "c4ry"
          · walk_at "c4ry"
        · exact Nat.le_of_ble_eq_true rfl
      · walk_at "c4ry"
      · walk_at "c4ry"
      · walk_at "c4ry"
    · exact Nat.le_of_ble_eq_true rfl
  · rfl
  · have q1 : k.2.1.map (fun s => D.tup (signs s)) = (kLs k).map prD := by
      unfold kLs
      rw [List.map_map]
      exact List.map_congr_left fun s hs => signs_two (htw s (List.mem_append_left _ hs))
    have q2 : k.2.2.map (fun s => D.tup (signs s)) = (kVs k).map prD := by
      unfold kVs
      rw [List.map_map]
      exact List.map_congr_left fun s hs => signs_two (htw s (List.mem_append_right _ hs))
    rw [q1, q2]
    rfl
end F84
section F85
open PySem PySem.Spec PyProof.Rows L2 He Ds
/-! ### things drawn from a list, one by one -/
theorem get_set_ne {ρ : List Slot} {i j : Nat} {s : Slot} (h : i ≠ j) : (ρ.set i s)[j]? = ρ[j]? := List.getElem?_set_ne h
theorem gOwn_of {ρ : List Slot} {i : Nat} {ds : List D} (h : ρ[i]? = some (.own true ds)) : getOwn i ρ = some (true, ds) := by unfold getOwn; rw [h]
theorem hasPool_of0 {ρ : List Slot} {ns : List Int} (h : ρ[0]? = some (.pool ns)) : hasPool 0 ρ = true := by unfold hasPool; rw [h]
theorem j_draw {ρ ρ1 : List Slot} {m : M (Bool × D)} {f : Bool} {k : Int} {ns ns' : List Int} {z : Int} (h1 : m ρ = .ok (f, .int k) ρ1) (h0 : ρ[0]? = some (.pool ns)) (h3 : ρ1[0]? = some (.pool ns)) (h4 : D_law_draw ns [.int k] = .ok true (.int z) ns') {ρ2 : List Slot} (h5 : ρ1.set 0 (.pool ns') = ρ2) : mPool 0 D_law_draw (maCons (mDat m) (mp [])) ρ = .ok (true, .int z) ρ2 := by
  obtain ⟨ss, e1, e2⟩ := a_cons h1 a_nil
  exact k_pool (hasPool_of0 h0) e1 e2 h3 h4 rfl h5
theorem len_own {ρ : List Slot} {j : Nat} {ys : List Str} (h : ρ[j]? = some (.own true (ys.map D.str))) : mUn dLen (mLook j) ρ = .ok (true, .int (ys.length : Nat)) ρ := by
  refine j_un (fa := lookV j) (f1 := true) (d1 := .lst (ys.map D.str)) (k_look (by rw [h]; rfl)) ?_ o_len
  unfold lookV; rw [h]
def pickS (i j : Nat) : S := sDrop (mMut i (maCons (mDat (mMut j (maCons (mDat (mPool 0 D_law_draw (maCons (mDat (mUn dLen (mLook j))) (mp [])))) (mp [])) kPopAt)) (mp [])) kAppend)
theorem ev_pick {ρ : List Slot} {i j n : Nat} {ns : List Int} {xs ys : List Str} (h : PoolOk ns n) (hn : n ≤ 999000000) (h0 : ρ[0]? = some (.pool ns)) (h1 : ρ[i]? = some (.own true (xs.map D.str))) (h2 : ρ[j]? = some (.own true (ys.map D.str))) (ij : j ≠ i) (hi : 0 ≠ i) (hj : 0 ≠ j) (hx : xs.length ≤ 1000) (hy : 0 < ys.length) (hy2 : ys.length ≤ 1000) :
    ∃ z k ns', PoolOk ns' (n + 1) ∧ ys[k]? = some z ∧ pickS i j ρ = .nx (((ρ.set 0 (.pool ns')).set j (.own true ((ys.eraseIdx k).map D.str))).set i (.own true ((xs ++ [z]).map D.str))) := by
  obtain ⟨d, ns', e1, d0, d1, h'⟩ := ev_draw (m := (ys.length : Nat)) h (by omega) (by omega) (by omega)
  obtain ⟨z, hz⟩ : ∃ z, ys[d.toNat]? = some z := ⟨_, List.getElem?_eq_getElem (by omega)⟩
  refine ⟨z, d.toNat, ns', h', hz, ?_⟩
  unfold pickS
  have p1 := kPopAt_str (fa := true) d0 hz (by omega)
  have p3 := kAppend_str (xs := xs) (z := z) (by omega)
  have g1 : mPool 0 D_law_draw (maCons (mDat (mUn dLen (mLook j))) (mp [])) ρ = .ok (true, .int d) (ρ.set 0 (.pool ns')) := j_draw (len_own h2) h0 h0 e1 rfl
  have g2 : mMut j (maCons (mDat (mPool 0 D_law_draw (maCons (mDat (mUn dLen (mLook j))) (mp [])))) (mp [])) kPopAt ρ = .ok (true, .str z) ((ρ.set 0 (.pool ns')).set j (.own true ((ys.eraseIdx d.toNat).map D.str))) := by
    obtain ⟨ss, e2, e3⟩ := a_cons g1 a_nil
    refine k_mut (l := (true, (ys.eraseIdx d.toNat).map D.str)) ?_ e2 e3 ?_ p1 rfl
    · rw [gOwn_of h2]; rfl
    · exact gOwn_of (by rw [get_set_ne hj]; exact h2)
  refine j_drop (a := (true, .non)) ?_
  obtain ⟨ss, e2, e3⟩ := a_cons g2 a_nil
  refine k_mut (l := (true, (xs ++ [z]).map D.str)) ?_ e2 e3 ?_ p3 rfl
  · rw [gOwn_of h1]; rfl
  · exact gOwn_of (by rw [get_set_ne ij, get_set_ne hi]; exact h1)
theorem set_twice {ρ : List Slot} {i : Nat} {a b : Slot} : (ρ.set i a).set i b = ρ.set i b := List.set_set ..
theorem set_self' {ρ : List Slot} {i : Nat} {a : Slot} (h : ρ[i]? = some a) : ρ.set i a = ρ := set_self h
/-- all of a list, drawn one by one -/
theorem ev_shuffle {i j : Nat} (ij : j ≠ i) (hi : 0 ≠ i) (hj : 0 ≠ j) : ∀ {k m n : Nat} {ρ : List Slot} {ns : List Int} {xs ys : List Str}, PoolOk ns n → n + k ≤ 999000000 → ys.length = k → k < m → xs.length + k ≤ 1000 → ρ[0]? = some (.pool ns) → ρ[i]? = some (.own true (xs.map D.str)) → ρ[j]? = some (.own true (ys.map D.str)) →
    ∃ zs ns', PoolOk ns' (n + k) ∧ zs.Perm ys ∧ whileD (mT (mOp dNe (mLook j) (mE (mKeep (mLst (mp [])))))) (pickS i j) m ρ = .nx (((ρ.set 0 (.pool ns')).set j (.own true (([] : List Str).map D.str))).set i (.own true ((xs ++ zs).map D.str)))
  | 0, m, n, ρ, ns, xs, ys, h, hn, hy, hm, hx, h0, h1, h2 => by
    obtain ⟨m, rfl⟩ : ∃ k, m = k + 1 := ⟨m - 1, by omega⟩
    have : ys = [] := List.length_eq_zero_iff.mp hy
    subst this
    refine ⟨[], ns, h, List.Perm.refl _, ?_⟩
    rw [List.append_nil, set_self' h0, set_self' h2, set_self' h1]
    refine k_whF (j_T (f := true) (j_op (fa := lookV j) (fb := fun _ => some (true, .lst [])) (f1 := true) (f2 := true) (d1 := .lst (([] : List Str).map D.str)) (d2 := .lst []) (k_look (by rw [h2]; rfl)) rfl ?_ rfl ?_))
    · unfold lookV; rw [h2]
    · exact o_neL0
  | k + 1, m, n, ρ, ns, xs, ys, h, hn, hy, hm, hx, h0, h1, h2 => by
    obtain ⟨m, rfl⟩ : ∃ k, m = k + 1 := ⟨m - 1, by omega⟩
    obtain ⟨z, q, ns1, h', hz, e⟩ := ev_pick h (by omega) h0 h1 h2 ij hi hj (by omega) (by omega) (by omega)
    obtain ⟨hq, hz'⟩ := List.getElem?_eq_some_iff.mp hz
    have el : (ys.eraseIdx q).length = k := by rw [List.length_eraseIdx_of_lt hq]; omega
    have g0 : (((ρ.set 0 (.pool ns1)).set j (.own true ((ys.eraseIdx q).map D.str))).set i (.own true ((xs ++ [z]).map D.str)))[0]? = some (.pool ns1) := by
      rw [get_set_ne (Ne.symm hi), get_set_ne (Ne.symm hj)]
      exact List.getElem?_set_self (List.getElem?_eq_some_iff.mp h0).1
    have g1 : (((ρ.set 0 (.pool ns1)).set j (.own true ((ys.eraseIdx q).map D.str))).set i (.own true ((xs ++ [z]).map D.str)))[i]? = some (.own true ((xs ++ [z]).map D.str)) :=
      List.getElem?_set_self (by rw [List.length_set, List.length_set]; exact (List.getElem?_eq_some_iff.mp h1).1)
    have g2 : (((ρ.set 0 (.pool ns1)).set j (.own true ((ys.eraseIdx q).map D.str))).set i (.own true ((xs ++ [z]).map D.str)))[j]? = some (.own true ((ys.eraseIdx q).map D.str)) := by
      rw [get_set_ne (Ne.symm ij)]
      exact List.getElem?_set_self (by rw [List.length_set]; exact (List.getElem?_eq_some_iff.mp h2).1)
    obtain ⟨zs, ns2, h2', pm, e2⟩ := ev_shuffle ij hi hj (k := k) (m := m) (xs := xs ++ [z]) (ys := ys.eraseIdx q) h' (by omega) el (by omega) (by simp; omega) g0 g1 g2
    have hp : (z :: ys.eraseIdx q).Perm ys := by
      exact cons_erase hz
    refine ⟨z :: zs, ns2, h2'.mono (by omega), (pm.cons z).trans hp, ?_⟩
    have ne : (ys = []) = False := by
      simp only [eq_iff_iff, iff_false]
      intro z; rw [z] at hy; simp at hy
    refine k_whT (j_T (f := true) (j_op (fa := lookV j) (fb := fun _ => some (true, .lst [])) (f1 := true) (f2 := true) (d1 := .lst (ys.map D.str)) (d2 := .lst []) (k_look (by rw [h2]; rfl)) rfl ?_ rfl ?_)) e ?_
    · unfold lookV; rw [h2]
    · rw [o_neL0]; simp [ne]
    · rw [e2]
      congr 1
      rw [List.set_comm _ _ (Ne.symm hi : i ≠ 0), List.set_comm _ _ (Ne.symm hj : j ≠ 0), set_twice]
      rw [List.set_comm _ _ (Ne.symm ij : i ≠ j), set_twice, set_twice]
      simp
theorem cut_le {α : Type} {e : α → D} {xs : List α} {i : Nat} : cutD (xs.map e) none (some (i : Int)) = (xs.take i).map e := o_cut
theorem cut_two {α : Type} {e : α → D} {xs : List α} {i j : Nat} (hi : i ≤ xs.length) : cutD (xs.map e) (some (i : Int)) (some (j : Int)) = ((xs.drop i).take (j - i)).map e := by
  unfold cutD
  have e1 : HT.sIx (xs.map e).length 0 (some (i : Int)) = i := by
    show (if (i : Int) < 0 then ((i : Int) + ((xs.map e).length : Int)).toNat else min (i : Int).toNat (xs.map e).length) = _
    rw [if_neg (by omega), List.length_map]
    show min (i : Int).toNat xs.length = i
    omega
  have e2 : HT.sIx (xs.map e).length (xs.map e).length (some (j : Int)) = min j xs.length := by
    show (if (j : Int) < 0 then ((j : Int) + ((xs.map e).length : Int)).toNat else min (j : Int).toNat (xs.map e).length) = _
    rw [if_neg (by omega), List.length_map]
    show min (j : Int).toNat xs.length = min j xs.length
    omega
  rw [e1, e2, ← List.map_drop, ← List.map_take]
  congr 1
  by_cases c : j ≤ xs.length
  · rw [Nat.min_eq_left c]
  · rw [Nat.min_eq_right (by omega), List.take_of_length_le (by rw [List.length_drop]; omega), List.take_of_length_le (by rw [List.length_drop]; omega)]
/-- a chart with what is set and asked -/
structure CaseOk (ns : List Str) (ls vs : List Pr) (acted asked : List Str) : Prop where
  c : ChartOk 6 ns ls vs
  a : AskOk ns acted asked
  ne : asked ≠ []
  k2 : asked.length ≤ 2
  a2 : acted.length ≤ 2
theorem chart_up {W W' : Nat} {ns : List Str} {ls vs : List Pr} (h : ChartOk W ns ls vs) (l : W ≤ W') : ChartOk W' ns ls vs := ⟨h.lo, Nat.le_trans h.hi l, h.lets, h.nd, h.ord, h.lnd, h.vin, h.vnd, h.vlen⟩
theorem take_drop_apart {xs : List Str} (nd : xs.Nodup) {i j : Nat} {x : Str} (h : x ∈ (xs.drop i).take j) : x ∉ xs.take i := fun z => by
  have h2 : x ∈ xs.drop i := List.mem_of_mem_take h
  have e : xs = xs.take i ++ xs.drop i := (List.take_append_drop i xs).symm
  rw [e] at nd
  exact (List.nodup_append.mp nd).2.2 x z x h2 rfl
theorem ev_law_case {n : Nat} {ns : List Int} (h : PoolOk ns n) (hn : n ≤ 800000000) {W : Nat} (hW1 : 1 ≤ W) (hW2 : W ≤ 6) :
    ∃ ns' xs ls vs acted asked, PoolOk ns' (n + 320) ∧ CaseOk xs ls vs acted asked ∧ D_law_case ns [.int (W : Nat)] = .ok true (.tup [cht xs ls vs, sL acted, sL asked]) ns' := by
  obtain ⟨d, m1, e1, d0, d1, h1⟩ := ev_draw (m := 3) h (by omega) (by decide) (by decide)
  have gi : goInit [.int (W : Nat)] 5 = [.dat false (.int (W : Nat)), .no, .no, .no, .no] := by walk_at "c4ry"
  have t1 : mT (mOp dEq (mE (mPool 0 D_law_draw (maCons (mDat (mp (true, D.int 3))) (mp [])))) (mE (mp (true, D.int 0)))) [.pool ns, .dat false (.int (W : Nat)), .no, .no, .no, .no] = .ok (decide (d = 0)) [.pool m1, .dat false (.int (W : Nat)), .no, .no, .no, .no] := by
    apply j_T
    apply j_op
    · apply j_E
      exact j_draw j_mp rfl rfl e1 rfl
    · exact j_E j_mp
    · rfl
    · rfl
    · exact o_eqi
  by_cases c : d = 0
  · obtain ⟨m2, k, hk, h2, e2⟩ := ev_law_known h1 (by omega)
    obtain ⟨C, hx, hy⟩ := kn_chart hk
    refine ⟨m2, kNs k, kLs k, kVs k, ["x"], ["y"], h2.mono (by omega), ⟨C, one_ok _ hx hy (by decide), by simp, by simp, by simp⟩, ?_⟩
    unfold D_law_case
    refine j_runP (ρ0 := _) rfl gi (d' := .tup [cht (kNs k) (kLs k) (kVs k), sL ["x"], sL ["y"]]) (f := true) (ρ := [.dat false (.int (W : Nat)), .no, .no, .no, .no]) ?_ rfl rfl
    apply j_seq (r1 := .rt true (.tup [cht (kNs k) (kLs k) (kVs k), sL ["x"], sL ["y"]]) [.pool m2, .dat false (.int (W : Nat)), .no, .no, .no, .no])
    · apply k_if t1
      apply k_iteT (decide_eq_true c)
      apply j_ret
      exact k_pool (ns := m1) (ns' := m2) rfl rfl rfl rfl e2 rfl rfl
    · rfl
  · obtain ⟨m2, xs, ls, vs, h2, C, e2⟩ := ev_chart h1 (by omega) hW1 hW2
    have hxl : xs.length ≤ 6 := Nat.le_trans C.hi hW2
    obtain ⟨zs, m3, h3, pm, e3⟩ := ev_shuffle (i := 4) (j := 3) (by decide) (by decide) (by decide) (k := xs.length) (m := 100000) (xs := []) (ys := xs) (ρ := [.pool m2, .dat false (.int (W : Nat)), .dat true (cht xs ls vs), .own true (xs.map D.str), .own true (([] : List Str).map D.str), .no]) h2 (by omega) rfl (by omega) (by simp; omega) rfl rfl rfl
    obtain ⟨d4, m4, e4, p4, q4, h4⟩ := ev_draw (m := 3) h3 (by omega) (by decide) (by decide)
    obtain ⟨d5, m5, e5, p5, q5, h5⟩ := ev_draw (m := 2) h4 (by omega) (by decide) (by decide)
    have zl : zs.length = xs.length := pm.length_eq
    have lo := C.lo
    obtain ⟨cut, hcut⟩ : ∃ cut : Nat, (if (zs.length : Int) - 1 < d4 then (zs.length : Int) - 1 else d4) = (cut : Int) := ⟨(if (zs.length : Int) - 1 < d4 then (zs.length : Int) - 1 else d4).toNat, by split <;> omega⟩
    have c1 : cut < zs.length := by split at hcut <;> omega
    have c2 : cut ≤ 2 := by split at hcut <;> omega
    obtain ⟨w, hw⟩ : ∃ w : Nat, d5 = (w : Int) := ⟨d5.toNat, by omega⟩
    have znd : zs.Nodup := pm.nodup_iff.mpr C.nd
    have ask : AskOk xs (zs.take cut) ((zs.drop cut).take (cut + 1 + w - cut)) := by
      refine ⟨fun x hx => pm.mem_iff.mp (List.mem_of_mem_take hx), znd.sublist (List.take_sublist _ _), fun x hx => pm.mem_iff.mp (List.mem_of_mem_drop (List.mem_of_mem_take hx)), znd.sublist ((List.take_sublist _ _).trans (List.drop_sublist _ _)), fun x hx => take_drop_apart znd hx⟩
    refine ⟨m5, xs, ls, vs, zs.take cut, (zs.drop cut).take (cut + 1 + w - cut), h5.mono (by omega), ⟨chart_up C hW2, ask, ?_, ?_, ?_⟩, ?_⟩
    · intro z
      have : ((zs.drop cut).take (cut + 1 + w - cut)).length = 0 := by rw [z]; rfl
      rw [List.length_take, List.length_drop] at this
      omega
    · rw [List.length_take]; omega
    · rw [List.length_take]; omega
    have at0 := at_c0 (a := sL xs) (b := pL ls) (c := pL vs)
    unfold D_law_case
    refine j_runP (ρ0 := _) rfl gi (d' := .tup [cht xs ls vs, sL (zs.take cut), sL ((zs.drop cut).take (cut + 1 + w - cut))]) (f := true) (ρ := [.dat false (.int (W : Nat)), .dat true (cht xs ls vs), .own true (([] : List Str).map D.str), .own true (zs.map D.str), .dat true (.int (cut : Nat))]) ?_ rfl rfl
    apply j_seq (r1 := .nx [.pool m1, .dat false (.int (W : Nat)), .no, .no, .no, .no])
    · apply k_if t1
      apply k_iteF (decide_eq_false c)
      rfl
    apply j_seqN
    apply j_seq (r1 := .nx [.pool m2, .dat false (.int (W : Nat)), .dat true (cht xs ls vs), .no, .no, .no])
    · walk_at "c4ry"
    apply j_seqN
    apply j_seq (r1 := .nx [.pool m2, .dat false (.int (W : Nat)), .dat true (cht xs ls vs), .own true (xs.map D.str), .own true (([] : List Str).map D.str), .no])
    · walk_at "c4ry"
    apply j_seqN
    apply j_seq e3
    apply j_seqN
    apply j_seq (r1 := .nx [.pool m4, .dat false (.int (W : Nat)), .dat true (cht xs ls vs), .own true (([] : List Str).map D.str), .own true (zs.map D.str), .dat true (.int (cut : Nat))])
    · apply j_set (f := true) (d := .int (cut : Nat))
      · apply j_op (f2 := true) (d1 := .int d4) (d2 := .int ((zs.length : Int) - 1))
        · apply j_E
          exact j_draw j_mp rfl rfl e4 rfl
        · apply j_E
          apply j_op
          · apply j_E
            exact len_own rfl
          · exact j_E j_mp
          · rfl
          · rfl
          · rfl
        · rfl
        · rfl
        · rw [← hcut]; rfl
      · rfl
      · rfl
    apply j_seqN
    apply j_ret
    apply j_tup
    · apply a_consF
      · walk_at "c4ry"
      · apply a_consF
        · apply j_keep
          apply j_slL
          · walk_at "c4ry"
          · exact j_mp
          · walk_at "c4ry"
          · rfl
          · rfl
          · exact cut_le
        · apply a_consF
          · apply j_keep
            apply j_slL
            · walk_at "c4ry"
            · walk_at "c4ry"
            · apply j_part (i := ((cut + 1 + w : Nat) : Int))
              apply j_op (f1 := true) (f2 := true) (d1 := .int ((cut : Int) + 1)) (d2 := .int d5)
              · apply j_E
                apply j_op
                · walk_at "c4ry"
                · exact j_E j_mp
                · rfl
                · rfl
                · rfl
              · apply j_E
                exact j_draw j_mp rfl rfl e5 rfl
              · rfl
              · rfl
              · rw [hw]
                show some (D.int ((cut : Int) + 1 + (w : Int))) = _
                congr 2
            · rfl
            · rfl
            · exact cut_two (by omega)
          · exact a_nil
          · rfl
          · rfl
        · rfl
        · rfl
      · rfl
      · rfl
    · exact Nat.le_of_ble_eq_true rfl
end F85
section F86
open PySem PySem.Spec PyProof.Rows L2 He Ds
/-! ### data that may be shown -/
theorem join_le : ∀ ts : List Str, (Str.join ", " ts).length ≤ piled ts
  | [] => by show (0 : Nat) ≤ _; omega
  | x :: xs => by
    have := join_length_add (x :: xs) (by simp)
    omega
theorem tupleText_le {ts : List Str} : (tupleText ts).length ≤ piled ts + 3 := by
  unfold tupleText
  rw [strLen_append, strLen_append]
  have e1 : ((("(" : String) : Str)).length = 1 := rfl
  have e3 : (((if ts.length == 1 then ",)" else ")" : String) : Str)).length ≤ 2 := by split <;> decide
  have := join_le ts
  omega
theorem piled_eq {ts : List Str} : piled ts = (ts.map fun t => t.length).sum + 2 * ts.length := by
  unfold piled
  induction ts with
  | nil => rfl
  | cons t ts ih => rw [List.map_cons, List.sum_cons, ih, List.map_cons, List.sum_cons, List.length_cons]; omega
theorem shown_tuple {ds : List PyData} {n : Nat} (h : ∀ d ∈ ds, d.shown.length ≤ n) : (PyData.tuple ds).shown.length ≤ ds.length * n + 2 * ds.length + 3 := by
  have e : (PyData.tuple ds).shown = tupleText (ds.map PyData.shown) := by
    rw [← shownAll_map]
    rfl
  rw [e]
  refine Nat.le_trans tupleText_le ?_
  have h2 := sum_le (f := fun t : Str => t.length) (n := n) (l := ds.map PyData.shown) fun t ht => by
    obtain ⟨d, hd, rfl⟩ := List.mem_map.mp ht
    exact h d hd
  rw [piled_eq]
  rw [List.length_map] at h2 ⊢
  omega
theorem sh_tuple {ds : List PyData} {n m : Nat} (h : ∀ d ∈ ds, Sh d n m) : Sh (.tuple ds) (n + 1) (ds.length * m + 2 * ds.length + 3) := by
  obtain ⟨h1, h2, h3⟩ := sh_all h
  exact ⟨h1, h2, by simp only [PyData.depth]; omega, shown_tuple fun d hd => (h d hd).l⟩
/-- a datum that may be shown, of so many layers, so many signs -/
def ShD (d : D) (n m : Nat) : Prop := ∃ e, toPy d = some e ∧ Sh e n m
theorem ShD.mono {d : D} {n m n' m' : Nat} (h : ShD d n m) (h1 : n ≤ n') (h2 : m ≤ m') : ShD d n' m' := by
  obtain ⟨e, h3, h4⟩ := h
  exact ⟨e, h3, h4.mono h1 h2⟩
theorem shds {ds : List D} {n m : Nat} (h : ∀ d ∈ ds, ShD d n m) : ∃ es, toPys ds = some es ∧ es.length = ds.length ∧ ∀ e ∈ es, Sh e n m := by
  induction ds with
  | nil => exact ⟨[], rfl, rfl, fun _ z => absurd z List.not_mem_nil⟩
  | cons d ds ih =>
    obtain ⟨es, h1, h2, h3⟩ := ih fun x hx => h x (List.mem_cons_of_mem _ hx)
    obtain ⟨e, h4, h5⟩ := h d List.mem_cons_self
    refine ⟨e :: es, by rw [toPys, h4, h1]; rfl, by simp [h2], fun x hx => ?_⟩
    rcases List.mem_cons.mp hx with rfl | z
    · exact h5
    · exact h3 x z
theorem shd_lst {ds : List D} {n m k : Nat} (h : ∀ d ∈ ds, ShD d n m) (hk : ds.length ≤ k) : ShD (.lst ds) (n + 1) (k * m + 2 * k + 3) := by
  obtain ⟨es, h1, h2, h3⟩ := shds h
  refine ⟨.list es, by rw [toPy, h1]; rfl, (sh_list h3).mono (Nat.le_refl _) ?_⟩
  rw [h2]
  have := Nat.mul_le_mul_right m hk
  omega
theorem shd_tup {ds : List D} {n m k : Nat} (h : ∀ d ∈ ds, ShD d n m) (hk : ds.length ≤ k) : ShD (.tup ds) (n + 1) (k * m + 2 * k + 3) := by
  obtain ⟨es, h1, h2, h3⟩ := shds h
  refine ⟨.tuple es, by rw [toPy, h1]; rfl, (sh_tuple h3).mono (Nat.le_refl _) ?_⟩
  rw [h2]
  have := Nat.mul_le_mul_right m hk
  omega
theorem shd_map {α : Type} {e : α → D} {xs : List α} {n m k : Nat} (h : ∀ x ∈ xs, ShD (e x) n m) (hk : xs.length ≤ k) : ShD (.lst (xs.map e)) (n + 1) (k * m + 2 * k + 3) :=
  shd_lst (fun d hd => by
    obtain ⟨x, hx, rfl⟩ := List.mem_map.mp hd
    exact h x hx) (by rw [List.length_map]; exact hk)
theorem shd_str {x : Str} (h : IsLet x) : ShD (.str x) 0 3 := ⟨_, rfl, sh_let h⟩
theorem shd_pr {p : Pr} (h1 : IsLet p.1) (h2 : IsLet p.2) : ShD (prD p) 1 13 := by
  refine (shd_tup (n := 0) (m := 3) (k := 2) (fun d hd => ?_) (Nat.le_refl _)).mono (Nat.le_refl _) (by omega)
  simp only [List.mem_cons, List.not_mem_nil, or_false] at hd
  rcases hd with rfl | rfl
  · exact shd_str h1
  · exact shd_str h2
theorem shd_two {x y : D} {n m : Nat} (hx : ShD x n m) (hy : ShD y n m) : ShD (.lst [x, y]) (n + 1) (2 * m + 7) := by
  refine (shd_lst (n := n) (m := m) (k := 2) (fun d hd => ?_) (Nat.le_refl _)).mono (Nat.le_refl _) (by omega)
  simp only [List.mem_cons, List.not_mem_nil, or_false] at hd
  rcases hd with rfl | rfl
  · exact hx
  · exact hy
theorem repr_at {d : D} {n m : Nat} (h : ShD d n m) (h1 : n ≤ 20) (h2 : m ≤ 1000000) (hs : seqD d = true) : ∃ e, dRepr d = some (.rep e) := by
  obtain ⟨e, h3, h4⟩ := h
  exact ⟨e, repr_of hs h3 (h4.ok h1 h2)⟩
/-! what the rules want of repr, of objects -/
theorem o_neR {e : PyData} : dNeR (.rep e) (.rep e) = some (.bl false) := neR_same e
/-! ### without hidden pairs everything is told -/
section
variable {ns : List Str} {ls vs : List Pr} {acted asked : List Str}
/-- a made diagram -/
theorem prod_len {xs ys : List Str} : ((xs.map fun a => ys.map fun b => (a, b)).flatten).length = xs.length * ys.length := by
  induction xs with
  | nil => simp
  | cons x xs ih => rw [List.map_cons, List.flatten_cons, List.length_append, ih, List.length_map, List.length_cons, Nat.succ_mul]; omega
theorem chart_len {W : Nat} {xs : List Str} {ls vs : List Pr} (C : ChartOk W xs ls vs) (hW : W ≤ 6) : ls.length ≤ 36 := by
  obtain ⟨order, pm, ho⟩ := C.ord
  have := nodup_leG (ys := (xs.map fun a => xs.map fun b => (a, b)).flatten) C.lnd fun p hp => by
    obtain ⟨i, j, _, h1, h2⟩ := ho p hp
    rw [List.mem_flatten]
    exact ⟨_, List.mem_map.mpr ⟨p.1, pm.mem_iff.mp (List.mem_of_getElem? h1), rfl⟩, List.mem_map.mpr ⟨p.2, pm.mem_iff.mp (List.mem_of_getElem? h2), rfl⟩⟩
  rw [prod_len] at this
  have h6 : xs.length ≤ 6 := Nat.le_trans C.hi hW
  have : xs.length * xs.length ≤ 6 * 6 := Nat.mul_le_mul h6 h6
  omega
theorem cht_fw (C : ChartOk 6 ns ls vs) : Fw ns ls vs ∧ Good ns ls vs ∧ (∀ x ∈ ns, x.length ≤ 1000) := by
  have l2 := chart_len C (by decide)
  have l3 := C.vlen
  have l1 := C.hi
  exact ⟨⟨by omega, by omega, by omega, C.nd⟩, chart_good C (by decide), fun x hx => let_len (C.lets x hx)⟩
theorem ev_cmade (C : ChartOk 6 ns ls vs) : D_law_made [cht ns ls vs] = .ok true (diag ns ls vs) := by
  obtain ⟨f, g, hx⟩ := cht_fw C
  exact ev_made g hx (Nat.le_trans f.l (by decide)) (Nat.le_trans f.v (by decide))
end
end F86
section F87
open PySem PySem.Spec PyProof.Rows L2 He Ds
/-! ### where the steps end; nothing set is told -/
section
variable {ns : List Str} {ls vs : List Pr} {acted asked : List Str}
end
end F87
section F88
open PySem PySem.Spec PyProof.Rows L2 He Ds
end F88
section F89
open PySem PySem.Spec PyProof.Rows L2 He Ds
/-! ### sorted lists of texts, of lists of texts, of pairs -/
theorem tot : PySem.W.TotalLe leD := PySem.W.sortLe_total _ false _
theorem sort_pw (xs : List D) : (xs.mergeSort leD).Pairwise fun a b => leD a b = true :=
  List.pairwise_mergeSort tot.trans (fun a b => by rcases tot.total a b with h | h <;> simp [h]) xs
section
variable {ρ ρ1 : List Slot} {m : M Look} {fa : Look} {f f' : Bool}
theorem j_sortE {xs ys : List D} (h1 : m ρ = .ok fa ρ1) (h2 : fa ρ1 = some (f, .lst xs)) (h : SortOk xs) (h3 : (f || flatDs xs) = f') (h4 : xs.mergeSort leD = ys) : mOne mSortK m ρ = .ok (f', ys) ρ1 := by
  subst h3 h4
  refine k_one h1 h2 ?_
  unfold mSortK
  dsimp only
  rw [if_pos h]
  rfl
end
end F89
section F90
open PySem PySem.Spec PyProof.Rows L2 He Ds
/-! ### what is stuck, told without steps: a joined set with a set thing in it, all of which leads to a joined part that counts -/
section
variable {ns : List Str} {ls vs : List Pr} {acted asked : List Str}
/-- F, S: all of F leads within F to S, both joined, S counts, F has a set thing -/
structure Hdg (ns : List Str) (ls vs : List Pr) (acted asked F S : List Str) (x : Str) : Prop where
  hx : x ∈ S
  sf : ∀ y ∈ S, y ∈ F
  fn : ∀ y ∈ F, y ∈ ns
  sc : ∀ y ∈ S, y ∈ cnt ns ls acted asked
  cs : Conn vs S x
  cf : Conn vs F x
  ld : ∀ y ∈ F, ∃ g ∈ S, Leads (ls.filter (inn F)) y g
  ha : ∃ a ∈ F, a ∈ acted
theorem cnt_mem {t : Str} : t ∈ cnt ns ls acted asked ↔ t ∈ ns ∧ t ∉ acted ∧ ∃ g ∈ asked, Leads (ls.filter (inn (ns.filter fun x => !decide (x ∈ acted)))) t g := by
  unfold cnt
  rw [lead_mem, List.mem_filter]
  simp only [Bool.not_eq_true', decide_eq_false_iff_not, and_assoc]
theorem Conn.to {s : List Str} {x z : Str} (h : Conn vs s x) (hz : z ∈ s) : Conn vs s z := fun y hy => (h y hy).trans (leads_symm (h z hz))
theorem Conn.mem {s t : List Str} {x : Str} (h : Conn vs s x) (e : ∀ y, y ∈ s ↔ y ∈ t) : Conn vs t x := fun y hy => by
  refine (h y ((e y).mpr hy)).mono fun p hp => ?_
  obtain ⟨a, b⟩ := p
  have := sym_inn hp
  exact sym_up hp ((e _).mp this.1) ((e _).mp this.2)
end
end F90
section F91
open PySem PySem.Spec PyProof.Rows L2 He Ds
/-! ### what is told in another diagram -/
section
variable {ns ns' : List Str} {ls vs ls' vs' : List Pr} {acted asked acted' asked' : List Str}
theorem sym_mem {vs : List Pr} {W : List Str} {a b : Str} : (a, b) ∈ sym (vs.filter (inn W)) ↔ ((a, b) ∈ vs ∨ (b, a) ∈ vs) ∧ a ∈ W ∧ b ∈ W := by
  constructor
  · intro h
    refine ⟨?_, sym_inn h⟩
    rcases List.mem_append.mp h with z | z
    · exact .inl (List.mem_filter.mp z).1
    · obtain ⟨q, hq, e⟩ := List.mem_map.mp z
      unfold swp at e
      cases e
      exact .inr (List.mem_filter.mp hq).1
  · rintro ⟨h | h, ha, hb⟩
    · exact List.mem_append_left _ (List.mem_filter.mpr ⟨h, inn_iff.mpr ⟨ha, hb⟩⟩)
    · exact List.mem_append_right _ (List.mem_map.mpr ⟨(b, a), List.mem_filter.mpr ⟨h, inn_iff.mpr ⟨hb, ha⟩⟩, rfl⟩)
/-- pairs, either way about -/
def PrUp (vs' vs : List Pr) : Prop := ∀ a b : Str, (a, b) ∈ vs' → (a, b) ∈ vs ∨ (b, a) ∈ vs
theorem Conn.up {s : List Str} {x : Str} (h : Conn vs' s x) (u : PrUp vs' vs) : Conn vs s x := fun y hy => (h y hy).mono fun p hp => by
  obtain ⟨a, b⟩ := p
  obtain ⟨h1, h2⟩ := sym_mem.mp hp
  refine sym_mem.mpr ⟨?_, h2⟩
  rcases h1 with h1 | h1
  · exact u _ _ h1
  · exact (u _ _ h1).symm
theorem cnt_up (hn : ∀ y ∈ ns', y ∈ ns) (hl : ∀ p ∈ ls', p ∈ ls) (ha : ∀ y ∈ ns', y ∈ acted → y ∈ acted') (hk : ∀ y ∈ asked', y ∈ asked) {t : Str} (h : t ∈ cnt ns' ls' acted' asked') : t ∈ cnt ns ls acted asked := by
  obtain ⟨h1, h2, g, hg, l⟩ := cnt_mem.mp h
  refine cnt_mem.mpr ⟨hn t h1, fun z => h2 (ha t h1 z), g, hk g hg, l.mono fun p hp => ?_⟩
  obtain ⟨p1, p2⟩ := List.mem_filter.mp hp
  have p3 := inn_iff.mp p2
  have gen : ∀ y, y ∈ ns'.filter (fun x => !decide (x ∈ acted')) → y ∈ ns.filter fun x => !decide (x ∈ acted) := fun y hy => by
    obtain ⟨y1, y2⟩ := List.mem_filter.mp hy
    refine List.mem_filter.mpr ⟨hn y y1, ?_⟩
    rw [decide_eq_false fun z => by
      have := ha y y1 z
      rw [decide_eq_true this] at y2
      cases y2]
    rfl
  exact List.mem_filter.mpr ⟨hl p p1, inn_iff.mpr ⟨gen _ p3.1, gen _ p3.2⟩⟩
theorem Hdg.up {F S : List Str} {x : Str} (H : Hdg ns' ls' vs' acted' asked' F S x) (hn : ∀ y ∈ ns', y ∈ ns) (hl : ∀ p ∈ ls', p ∈ ls) (hv : PrUp vs' vs) (ha : ∀ y ∈ ns', y ∈ acted → y ∈ acted') (ha' : ∀ y ∈ ns', y ∈ acted' → y ∈ acted) (hk : ∀ y ∈ asked', y ∈ asked) :
    Hdg ns ls vs acted asked F S x :=
  ⟨H.hx, H.sf, fun y hy => hn y (H.fn y hy), fun y hy => cnt_up hn hl ha hk (H.sc y hy), H.cs.up hv, H.cf.up hv, fun y hy => by
    obtain ⟨g, hg, l⟩ := H.ld y hy
    exact ⟨g, hg, l.mono fun p hp => List.mem_filter.mpr ⟨hl p (List.mem_filter.mp hp).1, (List.mem_filter.mp hp).2⟩⟩, by
    obtain ⟨a, h1, h2⟩ := H.ha
    exact ⟨a, h1, ha' a (H.fn a h1) h2⟩⟩
/-! ### a thing more, on which nothing hangs -/
/-! ### where the steps end, as a set -/
end
end F91
section F92
open PySem PySem.Spec PyProof.Rows L2 He Ds
/-! ### a datum is equal to itself -/
def SdN (n : Nat) (d : D) : Prop := ∃ e, toPy d = some e ∧ e.depth ≤ n ∧ PyData.eqv e e = true
theorem SdN.up {n m : Nat} {d : D} (h : SdN n d) (l : n ≤ m) : SdN m d := by
  obtain ⟨e, h1, h2, h3⟩ := h
  exact ⟨e, h1, Nat.le_trans h2 l, h3⟩
end F92
local macro_rules | `(tactic| walk_at "d5side") => `(tactic| first | assumption | omega | (simp only [List.length_map, List.length_append, List.length_cons, List.length_nil, List.length_reverse]; omega) | (refine Nat.le_trans (List.length_filter_le _ _) ?_; walk_at "d5side"))
local macro_rules | `(tactic| walk_at "d5fl") => `(tactic| first | exact (show _ = true from rfl) | exact (show _ = false from rfl) | exact flat_strs _ | exact flat_prs _ | with_reducible assumption | exact rfl)
local macro_rules | `(tactic| walk_at "d5ryM") => `(tactic| first
  | ((with_reducible apply j_var); exact rfl) | ((with_reducible apply k_look); exact rfl) | ((with_reducible apply j_retD); exact rfl) | ((with_reducible apply j_retO); exact rfl) | ((with_reducible apply j_appP); exact rfl) | ((with_reducible apply j_appM); exact rfl) | ((with_reducible apply j_app); exact rfl) | with_reducible apply j_E | with_reducible apply j_op | with_reducible apply j_ixL | with_reducible apply j_ixT | with_reducible apply j_un | with_reducible apply j_list | with_reducible apply j_catM | with_reducible apply j_cat | with_reducible apply j_lst1 | with_reducible apply j_lst | with_reducible apply j_tup | with_reducible apply j_keep | with_reducible apply j_T | with_reducible apply j_tru | with_reducible apply j_and | with_reducible apply j_or | with_reducible apply j_not | with_reducible apply j_andV | with_reducible apply j_orV | with_reducible apply j_notV | with_reducible apply j_chain | with_reducible apply j_slL | with_reducible apply j_part | with_reducible apply j_call | with_reducible apply j_callX | with_reducible apply j_callK | with_reducible apply j_callKX | with_reducible apply j_poolC | with_reducible apply j_prop | with_reducible apply j_meth | with_reducible apply j_fld | with_reducible apply j_make | with_reducible apply j_makeX | with_reducible apply j_it | with_reducible apply j_rng | with_reducible apply j_enum | with_reducible assumption | with_reducible apply j_compA | with_reducible apply j_comp | with_reducible apply j_compO | with_reducible apply j_comp2 | with_reducible apply j_pnil | with_reducible apply j_mp | with_reducible apply j_pcD | with_reducible apply j_pcO
  | ((with_reducible apply k_iteT); (first | rfl | with_reducible assumption)) | ((with_reducible apply k_iteF); (first | rfl | with_reducible assumption)) | with_reducible assumption)
local macro_rules | `(tactic| walk_at "d5ryS") => `(tactic| first
  | with_reducible apply j_seq | with_reducible apply j_seqN | with_reducible apply j_seqR | with_reducible apply j_seqE | with_reducible apply j_setO | with_reducible apply j_set | with_reducible apply j_drop | with_reducible apply j_if | with_reducible apply j_ret | with_reducible apply j_nil | with_reducible apply j_raise | with_reducible apply j_par | with_reducible apply j_asg | ((with_reducible apply k_iteT); (first | rfl | with_reducible assumption)) | ((with_reducible apply k_iteF); (first | rfl | with_reducible assumption)) | with_reducible assumption)
local macro_rules | `(tactic| walk_at "d5ryL") => `(tactic| first | (simp only [wipeS, unw, go_d, go_n, go_0, List.set_cons_zero, List.set_cons_succ, List.getElem?_cons_zero, List.getElem?_cons_succ, Option.getD_some]; done) | (simp only [wipeS, unw, go_d, go_n, go_0, List.set_cons_zero, List.set_cons_succ, List.getElem?_cons_zero, List.getElem?_cons_succ, Option.getD_some]; exact rfl) | exact rfl | with_reducible assumption)
local macro_rules | `(tactic| walk_at "d5ryB") => `(tactic| first
  | ((with_reducible change (_ || _) = _); walk_at "d5fl") | ((change flatD _ = _); walk_at "d5fl") | ((with_reducible change (_ && _) = _); (first | exact Bool.true_and _ | with_reducible rfl | exact rfl)) | exact rfl | with_reducible assumption)
local macro_rules | `(tactic| walk_at "d5ryO") => `(tactic| first
  | ((with_reducible change (_ : Option (Bool × D)) = some (_, _)); exact rfl) | ((with_reducible change (_ : Option D) = _); (first | with_reducible apply o_in | with_reducible apply o_inI | with_reducible apply o_inA | with_reducible apply o_inAT | with_reducible apply o_ninA | with_reducible apply o_ninAT | with_reducible apply o_ninI | with_reducible apply o_eqI | with_reducible apply o_neI | with_reducible apply o_nin | with_reducible apply o_inp | with_reducible apply o_eqs | with_reducible apply o_nes | with_reducible apply o_eqi | with_reducible apply o_nei | with_reducible apply o_eqb | with_reducible apply o_neb | with_reducible apply o_eqL | with_reducible apply o_neL | with_reducible apply o_eqLL | with_reducible apply o_eqL0 | with_reducible apply o_neL0 | with_reducible apply o_eqLL0 | with_reducible apply o_len | with_reducible apply o_any | with_reducible apply o_isN | with_reducible apply o_neg | with_reducible apply o_add | with_reducible apply o_sub | with_reducible apply o_lt | with_reducible apply o_le | with_reducible apply o_gt | with_reducible apply o_ge | with_reducible apply o_at0 | with_reducible apply o_last | with_reducible assumption | with_reducible rfl)) | ((with_reducible change (_ : Option (List Slot)) = _); (first | with_reducible apply tg_name | with_reducible apply tg_tup2 | with_reducible apply tg_tup3 | with_reducible apply tg_tup1 | with_reducible apply sa_nil | with_reducible apply sa_cons | with_reducible assumption)) | ((with_reducible change (_ : Option (List (Bool × D))) = _); (first | with_reducible apply it_strs | with_reducible apply itA_strs | with_reducible apply itA_tups | with_reducible apply it_prs | with_reducible apply it_T | with_reducible apply it_F | with_reducible apply itT_T | with_reducible apply it_en | with_reducible assumption | with_reducible rfl | exact rfl)) | with_reducible assumption | exact rfl)
local macro_rules | `(tactic| walk_at "d5call") => `(tactic| first | with_reducible assumption | with_reducible solve_by_elim (maxDepth := 3))
local macro_rules | `(tactic| walk_at "d5ry1") => `(tactic| first
  | (intro _ _) | ((with_reducible change (_ : Res _) = _); walk_at "d5ryM") | ((with_reducible change (_ : SRes) = _); walk_at "d5ryS") | ((with_reducible change (_ : List Slot) = _); walk_at "d5ryL") | ((with_reducible change (_ : Option _) = _); walk_at "d5ryO") | ((with_reducible change (_ : Bool) = _); walk_at "d5ryB") | with_reducible apply a_nil | with_reducible apply a_consF
  | ((with_reducible change (_ : List D) = _); (first | with_reducible apply o_cut | with_reducible apply m1_str | with_reducible apply m1_strs | with_reducible apply m1_pr | with_reducible apply m1_int | with_reducible assumption | with_reducible rfl | exact rfl)) | ((with_reducible change (_ : Out) = _); walk_at "d5call") | ((with_reducible change (_ : OutI) = _); walk_at "d5call") | ((with_reducible change (_ : OutP) = _); walk_at "d5call")
  | ((with_reducible change (_ : Nat) ≤ _); walk_at "d5side") | ((with_reducible change (_ : Nat) < _); walk_at "d5side") | with_reducible assumption | with_reducible rfl | exact rfl)
local macro_rules | `(tactic| walk_at "d5ry") => `(tactic| repeat walk_at "d5ry1")
local macro_rules | `(tactic| walk_at "d5rzM") => `(tactic| first
  | ((with_reducible apply j_var); exact rfl) | ((with_reducible apply k_look); exact rfl) | ((with_reducible apply j_retD); exact rfl) | ((with_reducible apply j_retO); exact rfl) | ((with_reducible apply j_appP); exact rfl) | ((with_reducible apply j_appM); exact rfl) | ((with_reducible apply j_app); exact rfl) | with_reducible apply j_E | with_reducible apply j_op | with_reducible apply j_ixL | with_reducible apply j_ixT | with_reducible apply j_un | with_reducible apply j_list | with_reducible apply j_catM | with_reducible apply j_cat | with_reducible apply j_lst1 | with_reducible apply j_lst | with_reducible apply j_tup | with_reducible apply j_keep | with_reducible apply j_T | with_reducible apply j_tru | with_reducible apply j_not | with_reducible apply j_notV | with_reducible apply j_chain | with_reducible apply j_slL | with_reducible apply j_part | with_reducible apply j_call | with_reducible apply j_callX | with_reducible apply j_callK | with_reducible apply j_callKX | with_reducible apply j_poolC | with_reducible apply j_prop | with_reducible apply j_meth | with_reducible apply j_fld | with_reducible apply j_make | with_reducible apply j_makeX | with_reducible apply j_it | with_reducible apply j_rng | with_reducible apply j_enum | with_reducible assumption | with_reducible apply j_compA | with_reducible apply j_comp | with_reducible apply j_compO | with_reducible apply j_comp2 | with_reducible apply j_pnil | with_reducible apply j_mp | with_reducible apply j_pcD | with_reducible apply j_pcO
  | ((with_reducible apply k_iteT); (first | rfl | with_reducible assumption)) | ((with_reducible apply k_iteF); (first | rfl | with_reducible assumption)) | with_reducible assumption)
local macro_rules | `(tactic| walk_at "d5rz1") => `(tactic| first
  | (intro _ _) | ((with_reducible change (_ : Res _) = _); walk_at "d5rzM") | ((with_reducible change (_ : SRes) = _); walk_at "d5ryS") | ((with_reducible change (_ : List Slot) = _); walk_at "d5ryL") | ((with_reducible change (_ : Option _) = _); walk_at "d5ryO") | ((with_reducible change (_ : Bool) = _); walk_at "d5ryB") | with_reducible apply a_nil | with_reducible apply a_consF
  | ((with_reducible change (_ : List D) = _); (first | with_reducible apply o_cut | with_reducible apply m1_str | with_reducible apply m1_strs | with_reducible apply m1_pr | with_reducible apply m1_int | with_reducible assumption | with_reducible rfl | exact rfl)) | ((with_reducible change (_ : Out) = _); walk_at "d5call") | ((with_reducible change (_ : OutI) = _); walk_at "d5call") | ((with_reducible change (_ : OutP) = _); walk_at "d5call")
  | ((with_reducible change (_ : Nat) ≤ _); walk_at "d5side") | ((with_reducible change (_ : Nat) < _); walk_at "d5side") | with_reducible assumption | with_reducible rfl | exact rfl)
local macro_rules | `(tactic| walk_at "d5rz") => `(tactic| repeat walk_at "d5rz1")
section F93
open PySem PySem.Spec PyProof.Rows L2 He Ds
section
variable {ns : List Str} {ls vs : List Pr} {acted asked : List Str}
end
end F93
section F94
open PySem PySem.Spec PyProof.Rows L2 He Ds CpCmb
/-! ### hidden pairs left out -/
def lessN (vs : List Pr) (is : List Nat) : List Pr := (vs.zipIdx.filter fun p => !decide (p.2 ∈ is)).map (·.1)
theorem lessN_sub {vs : List Pr} {is : List Nat} : (lessN vs is).Sublist vs := by
  have h : (lessN vs is).Sublist (vs.zipIdx.map (·.1)) := List.filter_sublist.map _
  rwa [List.zipIdx_map_fst] at h
theorem chart_subN {ns : List Str} {ls vs vs' : List Pr} (C : ChartOk 6 ns ls vs) (h : vs'.Sublist vs) : ChartOk 6 ns ls vs' :=
  ⟨C.lo, C.hi, C.lets, C.nd, C.ord, C.lnd, fun p hp => C.vin p (h.subset hp), C.vnd.sublist h, Nat.le_trans h.length_le C.vlen⟩
/-- places -/
def iN (j : Nat) : D := .int (j : Int)
abbrev nL (s : List Nat) : D := .lst (s.map iN)
abbrev nT (s : List Nat) : D := .tup (s.map iN)
theorem toVs_nats : ∀ s : List Nat, toVs (s.map iN) = some (s.map fun j : Nat => V.int (j : Int))
  | [] => rfl
  | a :: s => by rw [List.map_cons, toVs, toVs_nats s]; rfl
theorem inV_nats {j : Nat} {s : List Nat} : inV (.int (j : Int)) (s.map fun j : Nat => V.int (j : Int)) = decide (j ∈ s) := by
  unfold inV
  rw [Bool.eq_iff_iff, List.any_eq_true, decide_eq_true_eq]
  constructor
  · rintro ⟨y, hy, e⟩
    obtain ⟨z, hz, rfl⟩ := List.mem_map.mp hy
    have : (z : Int) = j ∨ (j : Int) = z := by
      simp [eqV] at e
      omega
    have : z = j := by omega
    exact this ▸ hz
  · exact fun h => ⟨.int (j : Int), List.mem_map.mpr ⟨j, h, rfl⟩, by simp [eqV]⟩
theorem o_inAN {j : Nat} {s : List Nat} : dInA (.int (j : Int)) (nT s) = some (.bl (decide (j ∈ s))) := by
  unfold dInA dAnyA; simp only [toV, toVs_nats, Option.map_some, inV_nats]
theorem o_ninAN {j : Nat} {s : List Nat} : dNotInA (.int (j : Int)) (nT s) = some (.bl (!decide (j ∈ s))) := by
  unfold dNotInA dAnyA; simp only [toV, toVs_nats, Option.map_some, inV_nats]
section
variable {ns : List Str} {ls vs : List Pr} {acted asked : List Str} {is : List Nat}
theorem ev_cinitN (C : ChartOk 6 ns ls vs) : D_Diagram_init [sL ns, pL ls, pL vs] = .ok diagN [sL ns, pL ls, pL vs] := by
  obtain ⟨f, g, hx⟩ := cht_fw C
  exact ev_init g hx (Nat.le_trans f.l (by decide)) (Nat.le_trans f.v (by decide))
theorem ev_told_wo (C : ChartOk 6 ns ls vs) (A : AskOk ns acted asked) : D_is_told_withoutS [diag ns ls vs, sL acted, sL asked, nT is] = .ok true (.bl (tld ns ls (lessN vs is) acted asked)) := by
  have C' := chart_subN C (lessN_sub (is := is))
  obtain ⟨f, _, _⟩ := cht_fw C'
  have e0 := ev_pairs (ns := ns) (ls := ls) (vs := vs)
  have e1 := ev_names (ns := ns) (ls := ls) (vs := vs)
  have e2 := ev_arrows (ns := ns) (ls := ls) (vs := vs)
  have ei := ev_cinitN C'
  have et := ev_is_told f.few A
  have vl := C.vlen
  have zl : vs.zipIdx.length = vs.length := List.length_zipIdx
  have c1 : mComp [5, 6] (mEnum (maCons (mDat (mProp "Diagram" D_Diagram_pairs (mVar 0))) (mp []))) (tgTup 2 (tgsCons (tgName 5) (tgsCons (tgName 6) tgsNil))) (mT (mOp dNotInA (mLook 5) (mLook 3))) (mVar 6) [.dat false (diag ns ls vs), .dat false (sL acted), .dat false (sL asked), .dat false (nT is), .no, .no, .no] = .ok (true, (lessN vs is).map prD) [.dat false (diag ns ls vs), .dat false (sL acted), .dat false (sL asked), .dat false (nT is), .no, .no, .no] := by
    have q : mComp [5, 6] (mEnum (maCons (mDat (mProp "Diagram" D_Diagram_pairs (mVar 0))) (mp []))) (tgTup 2 (tgsCons (tgName 5) (tgsCons (tgName 6) tgsNil))) (mT (mOp dNotInA (mLook 5) (mLook 3))) (mVar 6) [.dat false (diag ns ls vs), .dat false (sL acted), .dat false (sL asked), .dat false (nT is), .no, .no, .no] = .ok (true, (vs.zipIdx.filter fun p : Pr × Nat => !decide (p.2 ∈ is)).map fun p => prD p.1) [.dat false (diag ns ls vs), .dat false (sL acted), .dat false (sL asked), .dat false (nT is), .no, .no, .no] := by
      apply j_comp (xs := vs.zipIdx) (e := fun p : Pr × Nat => (true, .tup [.int (p.2 : Nat), prD p.1])) (p := fun p => !decide (p.2 ∈ is)) (g := fun p => prD p.1) (r := fun p => [.dat false (diag ns ls vs), .dat false (sL acted), .dat false (sL asked), .dat false (nT is), .no, .dat true (.int (p.2 : Nat)), .dat true (prD p.1)])
      · apply j_enum (g := true) (ds := [pL vs])
        · walk_at "d5ry"
        · exact it_en fun x hx => rfl
      · omega
      · rfl
      · intro p hp
        rfl
      · intro p hp
        apply j_T
        apply j_op
        · walk_at "d5ry"
        · walk_at "d5ry"
        · rfl
        · rfl
        · exact o_ninAN
      · intro p hp
        rfl
      · intro p hp
        rfl
      · rfl
    rw [q]
    unfold lessN
    rw [List.map_map]
    rfl
  unfold D_is_told_withoutS
  apply j_run
  · rfl
  · walk_at "d5ry"
  · apply j_seq (r1 := .nx [.dat false (diag ns ls vs), .dat false (sL acted), .dat false (sL asked), .dat false (nT is), .dat true (pL (lessN vs is)), .no, .no])
    · walk_at "d5ry"
    walk_at "d5ry"
  · rfl
  · rfl
/-- whether one of some lists stands whole within a list -/
def honN (found : List (List Nat)) (s : List Nat) : Bool := found.any fun t => t.all fun x => decide (x ∈ s)
theorem ev_holdsN {s : List Nat} {found : List (List Nat)} (h1 : found.length ≤ 1000) (h2 : ∀ t ∈ found, t.length ≤ 1000) : D_holds_one [.lst (found.map nL), nT s] = .ok true (.bl (honN found s)) := by
  have c0 : mComp [2] (mIt itList (mVar 0)) (tgName 2) (mp true) (mUn dAllB (mE (mKeep (mComp [3] (mIt itList (mVar 2)) (tgName 3) (mp true) (mOp dInA (mLook 3) (mLook 1)))))) [.dat false (.lst (found.map nL)), .dat false (nT s), .no, .no] = .ok (true, found.map fun t => .bl (t.all fun x => decide (x ∈ s))) [.dat false (.lst (found.map nL)), .dat false (nT s), .no, .no] := by
    apply j_compA (xs := found) (e := fun t => (false, nL t)) (g := fun t => .bl (t.all fun x => decide (x ∈ s)))
    · apply j_it
      · walk_at "d5ry"
      · show some (tagL false (found.map nL)) = _
        unfold tagL
        rw [List.map_map]
        refine congrArg some (List.map_congr_left fun t _ => ?_)
        show (false || flatD (nL t), nL t) = (false, nL t)
        rfl
    · omega
    · rfl
    · intro t ht
      rfl
    · intro t ht
      have := h2 t ht
      apply j_un
      · apply j_E
        apply j_keep
        apply j_compA (xs := t) (e := fun x : Nat => (true, iN x)) (g := fun x => .bl (decide (x ∈ s)))
        · apply j_it
          · walk_at "d5ry"
          · show some (tagL false (t.map iN)) = _
            unfold tagL
            rw [List.map_map]
            rfl
        · omega
        · rfl
        · intro x hx
          rfl
        · intro x hx
          have hin := o_inAN (j := x) (s := s)
          apply j_op
          · walk_at "d5ry"
          · walk_at "d5ry"
          · rfl
          · rfl
          · exact hin
        · intro x hx
          rfl
        · rfl
      · rfl
      · unfold dAllB
        dsimp only
        rw [toBls_map t, Option.map_some, List.all_map]
        rfl
    · intro t ht
      rfl
    · rfl
  unfold D_holds_one
  apply j_run
  · rfl
  · walk_at "d5ry"
  · apply j_ret
    apply j_un
    · apply j_E
      apply j_keep
      exact c0
    · rfl
    · exact any_bls _
  · rfl
  · rfl
end
end F94
section F95
open PySem PySem.Spec PyProof.Rows L2 He Ds CpCmb
section
variable {ns : List Str} {ls vs : List Pr} {acted asked : List Str}
/-- hidden pairs that are left out are tried -/
noncomputable def cstN (ns : List Str) (ls vs : List Pr) (acted asked : List Str) (found : List (List Nat)) (s : List Nat) : List (List Nat) := if (!honN found s && tld ns ls (lessN vs s) acted asked) = true then found ++ [s] else found
theorem cstN_len {found : List (List Nat)} {s : List Nat} : (cstN ns ls vs acted asked found s).length ≤ found.length + 1 := by
  unfold cstN; split
  · simp
  · omega
theorem cstN_each {found : List (List Nat)} {s : List Nat} (hs : s.length ≤ 900) (h2 : ∀ t ∈ found, t.length ≤ 900) : ∀ t ∈ cstN ns ls vs acted asked found s, t.length ≤ 900 := fun t ht => by
  unfold cstN at ht
  split at ht
  · rcases List.mem_append.mp ht with z | z
    · exact h2 t z
    · rw [List.mem_singleton.mp z]; exact hs
  · exact h2 t ht
theorem fold_len : ∀ (M found : List (List Nat)), (M.foldl (cstN ns ls vs acted asked) found).length ≤ found.length + M.length ∧ ((∀ s ∈ M, s.length ≤ 900) → (∀ t ∈ found, t.length ≤ 900) → ∀ t ∈ M.foldl (cstN ns ls vs acted asked) found, t.length ≤ 900)
  | [], found => ⟨by simp, fun _ h => h⟩
  | s :: M, found => by
    obtain ⟨i1, i2⟩ := fold_len M (cstN ns ls vs acted asked found s)
    have l1 := cstN_len (ns := ns) (ls := ls) (vs := vs) (acted := acted) (asked := asked) (found := found) (s := s)
    rw [List.foldl_cons, List.length_cons]
    exact ⟨by omega, fun hs hf => i2 (fun x hx => hs x (List.mem_cons_of_mem _ hx)) (cstN_each (hs s List.mem_cons_self) hf)⟩
theorem ev_cures1 (C : ChartOk 6 ns ls vs) (A : AskOk ns acted asked) {m sz : D} {found : List (List Nat)} {s : List Nat} (hl : s.length ≤ 900) (h1 : found.length ≤ 1000) (h2 : ∀ t ∈ found, t.length ≤ 900) :
    B_cures_1 [.dat false (diag ns ls vs), .dat false (sL acted), .dat false (sL asked), .dat true m, .own true (found.map nL), .dat true sz, .dat true (nT s)] = .nx [.dat false (diag ns ls vs), .dat false (sL acted), .dat false (sL asked), .dat true m, .own true ((cstN ns ls vs acted asked found s).map nL), .dat true sz, .dat true (nT s)] := by
  have e1 := ev_holdsN (s := s) h1 fun t ht => Nat.le_trans (h2 t ht) (by decide)
  have e2 := ev_told_wo (is := s) C A
  have t1 : mNot (mT (mBor 4 D_holds_one (maCons (mDat (mVar 6)) (mp [])))) [.dat false (diag ns ls vs), .dat false (sL acted), .dat false (sL asked), .dat true m, .own true (found.map nL), .dat true sz, .dat true (nT s)] = .ok (!honN found s) [.dat false (diag ns ls vs), .dat false (sL acted), .dat false (sL asked), .dat true m, .own true (found.map nL), .dat true sz, .dat true (nT s)] := by
    apply j_not
    apply j_T
    apply j_bor (ds := [nT s]) (d1 := found.map nL)
    · walk_at "d5ry"
    · rfl
    · rfl
    · exact e1
  have t2 : mT (mCallX D_is_told_withoutS (maCons (mDat (mVar 0)) (maCons (mDat (mVar 1)) (maCons (mDat (mVar 2)) (maCons (mDat (mVar 6)) (mp [])))))) [.dat false (diag ns ls vs), .dat false (sL acted), .dat false (sL asked), .dat true m, .own true (found.map nL), .dat true sz, .dat true (nT s)] = .ok (tld ns ls (lessN vs s) acted asked) [.dat false (diag ns ls vs), .dat false (sL acted), .dat false (sL asked), .dat true m, .own true (found.map nL), .dat true sz, .dat true (nT s)] := by
    walk_at "d5ry"
  unfold B_cures_1
  apply k_if (j_and t1 t2)
  unfold cstN
  cases q : (!honN found s && tld ns ls (lessN vs s) acted asked) with
  | false => rw [if_neg (by decide), if_neg (by decide)]; rfl
  | true =>
    rw [if_pos rfl, if_pos rfl]
    apply j_drop
    apply j_appM (e := nL) (xs := found) (x := s)
    · rfl
    · apply a_consF
      · apply j_keep
        apply j_listT (f' := true) (xs := s.map iN)
        · apply k_look; rfl
        · rfl
        · rfl
      · exact a_nil
      · rfl
      · rfl
    · rfl
    · rfl
    · omega
    · rfl
theorem ev_cures2 (C : ChartOk 6 ns ls vs) (A : AskOk ns acted asked) {m sz : D} : ∀ (L found : List (List Nat)) (s6 : Slot), (∀ s ∈ L, s.length ≤ 900) → found.length + L.length ≤ 1000 → (∀ t ∈ found, t.length ≤ 900) →
    ∃ t6, forD (tgName 6) B_cures_1 (L.map fun s => (true, nT s)) [.dat false (diag ns ls vs), .dat false (sL acted), .dat false (sL asked), .dat true m, .own true (found.map nL), .dat true sz, s6] = .nx [.dat false (diag ns ls vs), .dat false (sL acted), .dat false (sL asked), .dat true m, .own true ((L.foldl (cstN ns ls vs acted asked) found).map nL), .dat true sz, t6]
  | [], found, s6, _, _, _ => ⟨s6, rfl⟩
  | s :: L, found, s6, hL, hn, h2 => by
    rw [List.length_cons] at hn
    have hs := hL s List.mem_cons_self
    have e1 := ev_cures1 (m := m) (sz := sz) C A hs (show found.length ≤ 1000 by omega) h2
    have hl := cstN_len (ns := ns) (ls := ls) (vs := vs) (acted := acted) (asked := asked) (found := found) (s := s)
    obtain ⟨t6, e2⟩ := ev_cures2 C A (m := m) (sz := sz) L (cstN ns ls vs acted asked found s) (.dat true (nT s)) (fun x hx => hL x (List.mem_cons_of_mem _ hx)) (by omega) (cstN_each hs h2)
    exact ⟨t6, by rw [List.map_cons, k_forC (show tgName 6 _ _ = some [.dat false (diag ns ls vs), .dat false (sL acted), .dat false (sL asked), .dat true m, .own true (found.map nL), .dat true sz, .dat true (nT s)] from rfl) e1, e2]; rfl⟩
theorem ev_cures3 (C : ChartOk 6 ns ls vs) (A : AskOk ns acted asked) : ∀ (L : List Nat) (found : List (List Nat)) (s5 s6 : Slot), (∀ r ∈ L, r ≤ 900) → found.length + (L.flatMap fun r => cmbI vs.length r).length ≤ 1000 → (∀ t ∈ found, t.length ≤ 900) →
    ∃ t5 t6, forD (tgName 5) B_cures_2 (L.map fun r : Nat => (true, D.int (r : Int))) [.dat false (diag ns ls vs), .dat false (sL acted), .dat false (sL asked), .dat true (.int (vs.length : Nat)), .own true (found.map nL), s5, s6] = .nx [.dat false (diag ns ls vs), .dat false (sL acted), .dat false (sL asked), .dat true (.int (vs.length : Nat)), .own true (((L.flatMap fun r => cmbI vs.length r).foldl (cstN ns ls vs acted asked) found).map nL), t5, t6]
  | [], found, s5, s6, _, _, _ => ⟨s5, s6, rfl⟩
  | r :: L, found, s5, s6, hL, hn, h2 => by
    have vl := C.vlen
    rw [List.flatMap_cons, List.length_append] at hn
    have hr := hL r List.mem_cons_self
    have cm : ∀ s ∈ cmbI vs.length r, s.length ≤ 900 := fun s hs => by
      obtain ⟨k1, k2⟩ := cmb_lt hs
      omega
    obtain ⟨t6, e1⟩ := ev_cures2 C A (m := .int (vs.length : Nat)) (sz := .int (r : Int)) (cmbI vs.length r) found s6 cm (by omega) h2
    obtain ⟨k1, k2⟩ := fold_len (ns := ns) (ls := ls) (vs := vs) (acted := acted) (asked := asked) (cmbI vs.length r) found
    obtain ⟨t5, t6', e2⟩ := ev_cures3 C A L ((cmbI vs.length r).foldl (cstN ns ls vs acted asked) found) (.dat true (.int (r : Int))) t6 (fun x hx => hL x (List.mem_cons_of_mem _ hx)) (by omega) (k2 cm h2)
    refine ⟨t5, t6', ?_⟩
    have it : mCmbR (mVar 3) (mVar 5) [.dat false (diag ns ls vs), .dat false (sL acted), .dat false (sL asked), .dat true (.int (vs.length : Nat)), .own true (found.map nL), .dat true (.int (r : Int)), s6] = .ok ((cmbI vs.length r).map fun s => (true, nT s)) [.dat false (diag ns ls vs), .dat false (sL acted), .dat false (sL asked), .dat true (.int (vs.length : Nat)), .own true (found.map nL), .dat true (.int (r : Int)), s6] :=
      j_cmbR (f := true) (g := true) rfl (by omega) rfl (by omega)
    have b : B_cures_2 [.dat false (diag ns ls vs), .dat false (sL acted), .dat false (sL asked), .dat true (.int (vs.length : Nat)), .own true (found.map nL), .dat true (.int (r : Int)), s6] = .nx [.dat false (diag ns ls vs), .dat false (sL acted), .dat false (sL asked), .dat true (.int (vs.length : Nat)), .own true (((cmbI vs.length r).foldl (cstN ns ls vs acted asked) found).map nL), .dat true (.int (r : Int)), t6] := by
      unfold B_cures_2
      exact k_for it e1
    rw [List.map_cons, k_forC (show tgName 5 _ _ = some [.dat false (diag ns ls vs), .dat false (sL acted), .dat false (sL asked), .dat true (.int (vs.length : Nat)), .own true (found.map nL), .dat true (.int (r : Int)), s6] from rfl) b, e2, List.flatMap_cons, List.foldl_append]
/-- all choices among m places, by how many they are, then by places -/
def subN (m : Nat) : List (List Nat) := (List.range (m + 1)).flatMap fun r => cmbI m r
noncomputable def curN (ns : List Str) (ls vs : List Pr) (acted asked : List Str) : List (List Nat) := (subN vs.length).foldl (cstN ns ls vs acted asked) []
theorem subN_len : ∀ m ≤ 5, (subN m).length ≤ 32 ∧ ∀ s ∈ subN m, s.length ≤ 5 := by decide +kernel
theorem ev_cures (C : ChartOk 6 ns ls vs) (A : AskOk ns acted asked) : D_cures [diag ns ls vs, sL acted, sL asked] = .ok true (.lst ((curN ns ls vs acted asked).map nL)) := by
  have vl := C.vlen
  have ec := ev_check_asked (ls := ls) (vs := vs) A
  have e0 := ev_pairs (ns := ns) (ls := ls) (vs := vs)
  have sl := (subN_len vs.length vl).1
  obtain ⟨t5, t6, e⟩ := ev_cures3 C A (List.range (vs.length + 1)) [] .no .no (fun r hr => by have := List.mem_range.mp hr; omega) (by
    show 0 + (subN vs.length).length ≤ 1000
    omega) (fun t ht => by simp at ht)
  unfold D_cures
  apply j_run
  · rfl
  · walk_at "d5ry"
  · apply k_seq (ρ1 := [.dat false (diag ns ls vs), .dat false (sL acted), .dat false (sL asked), .no, .no, .no, .no])
    · walk_at "d5ry"
    apply k_seq (ρ1 := [.dat false (diag ns ls vs), .dat false (sL acted), .dat false (sL asked), .dat true (.int (vs.length : Nat)), .no, .no, .no])
    · walk_at "d5ry"
    apply k_seq (ρ1 := [.dat false (diag ns ls vs), .dat false (sL acted), .dat false (sL asked), .dat true (.int (vs.length : Nat)), .own true (([] : List (List Nat)).map nL), .no, .no])
    · walk_at "d5ry"
    apply k_seq
    · apply k_for (its := (List.range (vs.length + 1)).map fun r : Nat => (true, D.int (r : Int)))
      · apply j_rng (ds := [.int ((vs.length : Nat) + 1)]) (g := true)
        · walk_at "d5ry"
        · have this : rng1 [.int (((vs.length : Nat) : Int) + 1)] = some (rngD 0 (((vs.length : Nat) : Int) + 1).toNat) := rng1_nat (by omega) (by omega)
          have z : (((vs.length : Nat) : Int) + 1).toNat = vs.length + 1 := by omega
          rw [z] at this
          refine this.trans ?_
          unfold rngD
          refine congrArg some (List.map_congr_left fun i _ => ?_)
          rw [Int.zero_add]
      · exact e
    apply j_ret
    rfl
  · rfl
  · rfl
end
end F95
section F96
open PySem PySem.Spec PyProof.Rows L2 He Ds CpCmb
def prN (s : List Nat) : D := .tup [.int (s.length : Nat), nL s]
noncomputable def leN (s t : List Nat) : Bool := leD (prN s) (prN t)
def bitN (m b : Nat) : List Nat := (List.range m).filter fun i => decide (b / 2 ^ i % 2 = 1)
def bitL (m : Nat) : List (List Nat) := (List.range (2 ^ m)).map (bitN m)
theorem sub_anti : ∀ m ≤ 5, ((subN m).all fun s => (subN m).all fun t => !(leN s t && leN t s) || decide (s = t)) = true := by decide +kernel
theorem sub_perm : ∀ m ≤ 5, ((bitL m).isPerm (subN m)) = true := by decide +kernel
theorem sub_srt : ∀ m ≤ 5, (List.range (subN m).length).all (fun i => (List.range i).all fun j => leN ((subN m).getD j []) ((subN m).getD i [])) = true := by decide +kernel
theorem sort_sub {m : Nat} (hm : m ≤ 5) : ((bitL m).map prN).mergeSort leD = (subN m).map prN := by
  have p : (bitL m).Perm (subN m) := List.isPerm_iff.mp (sub_perm m hm)
  refine List.Perm.eq_of_pairwise (le := fun a b => leD a b = true) (fun a b ha hb h1 h2 => ?_) (sort_pw _) ?_ ((List.mergeSort_perm _ _).trans (p.map prN))
  · obtain ⟨s, hs, rfl⟩ := List.mem_map.mp ((List.mergeSort_perm _ _).subset ha)
    obtain ⟨t, ht, rfl⟩ := List.mem_map.mp hb
    have q := List.all_eq_true.mp (List.all_eq_true.mp (sub_anti m hm) s (p.subset hs)) t ht
    have h1' : leN s t = true := h1
    have h2' : leN t s = true := h2
    rw [h1', h2'] at q
    simp at q
    rw [q]
  · rw [List.pairwise_map, List.pairwise_iff_getElem]
    intro j i hj hi hji
    have q := List.all_eq_true.mp (List.all_eq_true.mp (sub_srt m hm) i (List.mem_range.mpr hi)) j (List.mem_range.mpr hji)
    rw [List.getD_eq_getElem?_getD, List.getD_eq_getElem?_getD, List.getElem?_eq_getElem hj, List.getElem?_eq_getElem hi] at q
    exact q
theorem toPys_nats : ∀ s : List Nat, toPys (s.map iN) = some (s.map fun j : Nat => PyData.int (j : Int))
  | [] => rfl
  | a :: s => by
    rw [List.map_cons, toPys, toPys_nats s]
    rfl
theorem enc_prN (s : List Nat) : toPy (prN s) = some (.tuple [.int (s.length : Nat), .list (s.map fun j : Nat => PyData.int (j : Int))]) := by
  unfold prN
  rw [toPy, toPys, toPys, toPys, show toPy (nL s) = (toPys (s.map iN)).map .list from rfl, toPys_nats]
  rfl
theorem depth_nats : ∀ s : List Nat, PyData.depthAll (s.map fun j : Nat => PyData.int (j : Int)) ≤ 2
  | [] => by simp [PyData.depthAll]
  | a :: s => by
    have := depth_nats s
    rw [List.map_cons]
    simp only [PyData.depthAll, PyData.depth]
    omega
theorem alike_nats : ∀ s t : List Nat, PySem.W.alikeAll (s.map fun j : Nat => PyData.int (j : Int)) (t.map fun j : Nat => PyData.int (j : Int)) = true
  | [], _ => by simp [PySem.W.alikeAll]
  | _ :: _, [] => by simp [PySem.W.alikeAll]
  | x :: xs, y :: ys => by
    rw [List.map_cons, List.map_cons, PySem.W.alikeAll, alike_nats xs ys]
    simp [PySem.W.alike]
theorem ok_prN {xs : List (List Nat)} (h : xs.length ≤ 100000) : SortOk (xs.map prN) := by
  refine ⟨fun d hd => ?_, ?_, ?_, by rw [List.length_map]; exact h⟩
  · obtain ⟨s, _, rfl⟩ := List.mem_map.mp hd
    refine ⟨_, enc_prN s, ?_⟩
    have := depth_nats s
    simp only [PyData.depth, PyData.depthAll]
    omega
  · rw [List.map_map]
    refine PySem.W.AllAlike.of fun a b => ?_
    show PySem.W.alike (encD (prN a)) (encD (prN b)) = true
    rw [enc_of (enc_prN a), enc_of (enc_prN b), PySem.W.alike, PySem.W.alikeAll, PySem.W.alikeAll, PySem.W.alike, PySem.W.alike, alike_nats]
    simp [PySem.W.alikeAll]
  · rw [List.map_map]
    refine PySem.W.Sortable.tuples fun a => ?_
    exact ⟨_, _, enc_of (enc_prN a)⟩
theorem subs_loop {m : Nat} (hm : m ≤ 5) : sFor (mRng rng1 (maCons (mDat (mOp dShl (mE (mp (true, D.int 1))) (mLook 0))) (mp []))) (tgName 2) B_law_subsets_1 [.dat false (.int (m : Nat)), .own true [], .no, .no, .no, .no] = .nx [.dat false (.int (m : Nat)), .own true ((bitL m).map nL), .dat true (.int ((2 ^ m - 1 : Nat) : Int)), .no, .no, .no] := by
  have : m = 0 ∨ m = 1 ∨ m = 2 ∨ m = 3 ∨ m = 4 ∨ m = 5 := by omega
  rcases this with rfl | rfl | rfl | rfl | rfl | rfl
  all_goals kernel_rfl
theorem bit_len {m : Nat} (hm : m ≤ 5) : (bitL m).length ≤ 32 := by
  unfold bitL
  rw [List.length_map, List.length_range]
  exact Nat.pow_le_pow_right (by decide : 0 < 2) hm
theorem ev_law_subsets {m : Nat} (hm : m ≤ 5) : D_law_subsets [.int (m : Nat)] = .ok true (.lst ((subN m).map nL)) := by
  have lp := subs_loop hm
  have bl := bit_len hm
  have sl := (subN_len m hm).1
  have co : mCompO [5] 1 (tgName 5) (mp true) (mTup (maCons (mDat (mUn dLen (mLook 5))) (maCons (mDat (mVar 5)) (mp [])))) [.dat false (.int (m : Nat)), .own true ((bitL m).map nL), .dat true (.int ((2 ^ m - 1 : Nat) : Int)), .no, .no, .no] = .ok (true, (bitL m).map prN) [.dat false (.int (m : Nat)), .own true ((bitL m).map nL), .dat true (.int ((2 ^ m - 1 : Nat) : Int)), .no, .no, .no] := by
    have this : m = 0 ∨ m = 1 ∨ m = 2 ∨ m = 3 ∨ m = 4 ∨ m = 5 := by omega
    rcases this with rfl | rfl | rfl | rfl | rfl | rfl
    all_goals kernel_rfl
  have so : mOne mSortK (mE (mKeep (mCompO [5] 1 (tgName 5) (mp true) (mTup (maCons (mDat (mUn dLen (mLook 5))) (maCons (mDat (mVar 5)) (mp []))))))) [.dat false (.int (m : Nat)), .own true ((bitL m).map nL), .dat true (.int ((2 ^ m - 1 : Nat) : Int)), .no, .no, .no] = .ok (true, (subN m).map prN) [.dat false (.int (m : Nat)), .own true ((bitL m).map nL), .dat true (.int ((2 ^ m - 1 : Nat) : Int)), .no, .no, .no] := by
    apply j_sortE (f := true) (xs := (bitL m).map prN)
    · apply j_E
      apply j_keep
      exact co
    · rfl
    · exact ok_prN (by omega)
    · rfl
    · exact sort_sub hm
  unfold D_law_subsets
  apply j_run
  · rfl
  · walk_at "d5ry"
  · apply k_seq (ρ1 := [.dat false (.int (m : Nat)), .own true [], .no, .no, .no, .no])
    · walk_at "d5ry"
    apply k_seq lp
    apply j_ret
    apply j_keep
    apply j_compA (xs := subN m) (e := fun s => (true, prN s)) (g := nL)
    · apply j_it
      · apply j_keep
        exact so
      · show some (tagL true ((subN m).map prN)) = _
        unfold tagL
        rw [List.map_map]
        rfl
    · omega
    · rfl
    · intro s hs
      rfl
    · intro s hs
      rfl
    · intro s hs
      rfl
    · rfl
  · rfl
  · rfl
end F96
section F97
open PySem PySem.Spec PyProof.Rows L2 He Ds CpCmb
theorem map_iN (s : List Nat) : s.map iN = (s.map fun j : Nat => (j : Int)).map D.int := by rw [List.map_map]; rfl
theorem o_ninN {j : Nat} {s : List Nat} : dNotIn (.int (j : Int)) (nL s) = some (.bl (!decide (j ∈ s))) := by
  show dNotIn (.int (j : Int)) (.lst (s.map iN)) = _
  rw [map_iN, o_ninI]
  have : decide ((j : Int) ∈ s.map fun j : Nat => (j : Int)) = decide (j ∈ s) := by
    rw [decide_eq_decide, List.mem_map]
    constructor
    · rintro ⟨k, hk, e⟩
      have : k = j := by omega
      exact this ▸ hk
    · exact fun h => ⟨j, h, rfl⟩
  rw [this]
theorem o_eqN0 {s : List Nat} : dEq (.lst (s.map iN)) (.lst []) = some (.bl (decide (s = []))) := by
  rw [map_iN, show dEq (.lst ((s.map fun j : Nat => (j : Int)).map D.int)) (.lst []) = _ from o_eqI (y := [])]
  rw [show decide ((s.map fun j : Nat => (j : Int)) = []) = decide (s = []) from by rw [decide_eq_decide, List.map_eq_nil_iff]]
theorem o_eq10 {α : Type} {s : List α} : dEq (.lst (s.map fun _ => D.int 1)) (.lst []) = some (.bl (decide (s = []))) := by
  have e : s.map (fun _ => D.int 1) = (s.map fun _ => (1 : Int)).map D.int := by rw [List.map_map]; rfl
  rw [e, show dEq (.lst ((s.map fun _ => (1 : Int)).map D.int)) (.lst []) = _ from o_eqI (y := [])]
  rw [show decide ((s.map fun _ => (1 : Int)) = []) = decide (s = []) from by rw [decide_eq_decide, List.map_eq_nil_iff]]
theorem nil_E {ρ : List Slot} : mE (mKeep (mLst (mp []))) ρ = .ok (fun _ => some (true, .lst [])) ρ := rfl
theorem hon_nil {found : List (List Nat)} {s : List Nat} : decide ((found.filter fun t => decide ((t.filter fun x => !decide (x ∈ s)) = [])) = []) = !honN found s := by
  unfold honN
  rw [Bool.eq_iff_iff, decide_eq_true_eq, List.filter_eq_nil_iff, Bool.not_eq_true', List.any_eq_false]
  constructor
  · intro h t ht z
    refine h t ht (decide_eq_true (List.filter_eq_nil_iff.mpr fun x hx y => ?_))
    have := List.all_eq_true.mp z x hx
    rw [this] at y
    cases y
  · intro h t ht z
    refine h t ht (List.all_eq_true.mpr fun x hx => ?_)
    have := List.filter_eq_nil_iff.mp (of_decide_eq_true z) x hx
    cases q : decide (x ∈ s) with
    | true => rfl
    | false => rw [q] at this; exact absurd rfl this
section
variable {ns : List Str} {ls vs : List Pr} {acted asked : List Str}
theorem ev_due1 (C : ChartOk 6 ns ls vs) (A : AskOk ns acted asked) {found : List (List Nat)} {s : List Nat} {s5 : Slot} (hl : s.length ≤ 900) (h1 : found.length ≤ 1000) (h2 : ∀ t ∈ found, t.length ≤ 900) :
    ∃ t5, B_law_due_1 [.dat false (cht ns ls vs), .dat false (sL acted), .dat false (sL asked), .own true (found.map nL), .dat true (nL s), s5, .no, .no, .no] = .nx [.dat false (cht ns ls vs), .dat false (sL acted), .dat false (sL asked), .own true ((cstN ns ls vs acted asked found s).map nL), .dat true (nL s), t5, .no, .no, .no] := by
  have C' := chart_subN C (lessN_sub (is := s))
  obtain ⟨f, _, _⟩ := cht_fw C'
  have es := ev_law_stuck f A
  have vl := C.vlen
  have zl : vs.zipIdx.length = vs.length := List.length_zipIdx
  have ll : (lessN vs s).length ≤ vs.length := lessN_sub.length_le
  have at0 := at_c0 (a := sL ns) (b := pL ls) (c := pL vs)
  have t1 : mT (mOp dEq (mE (mKeep (mCompO [6] 3 (tgName 6) (mT (mOp dEq (mE (mKeep (mComp [7] (mIt itList (mVar 6)) (tgName 7) (mT (mOp dNotIn (mLook 7) (mLook 4))) (mVar 7)))) (mE (mKeep (mLst (mp [])))))) (mp (true, D.int 1))))) (mE (mKeep (mLst (mp []))))) [.dat false (cht ns ls vs), .dat false (sL acted), .dat false (sL asked), .own true (found.map nL), .dat true (nL s), s5, .no, .no, .no] = .ok (!honN found s) [.dat false (cht ns ls vs), .dat false (sL acted), .dat false (sL asked), .own true (found.map nL), .dat true (nL s), s5, .no, .no, .no] := by
    rw [← hon_nil]
    apply j_T
    apply j_op
    · apply j_E
      apply j_keep
      apply j_compO (e := nL) (xs := found) (p := fun t => decide ((t.filter fun x => !decide (x ∈ s)) = [])) (g := fun _ => .int 1) (r := fun t => [.dat false (cht ns ls vs), .dat false (sL acted), .dat false (sL asked), .no, .dat true (nL s), s5, .dat true (nL t), .no, .no])
      · rfl
      · omega
      · rfl
      · intro t ht
        rfl
      · intro t ht
        have tl := h2 t ht
        apply j_T
        apply j_op
        · apply j_E
          apply j_keep
          apply j_comp (xs := t) (e := fun x : Nat => (true, iN x)) (p := fun x => !decide (x ∈ s)) (g := iN) (r := fun x => [.dat false (cht ns ls vs), .dat false (sL acted), .dat false (sL asked), .no, .dat true (nL s), s5, .dat true (nL t), .dat true (iN x), .no])
          · apply j_it
            · walk_at "d5ry"
            · show some (tagL true (t.map iN)) = _
              unfold tagL
              rw [List.map_map]
              rfl
          · omega
          · rfl
          · intro x hx
            rfl
          · intro x hx
            apply j_T
            apply j_op
            · walk_at "d5ry"
            · walk_at "d5ry"
            · rfl
            · rfl
            · exact o_ninN
          · intro x hx
            rfl
          · intro x hx
            rfl
          · rfl
        · exact nil_E
        · rfl
        · rfl
        · exact o_eqN0
      · intro t ht
        rfl
      · intro t ht
        rfl
      · rfl
      · rfl
    · exact nil_E
    · rfl
    · rfl
    · exact o_eq10
  have c1 : sSet 5 (mKeep (mComp [7, 8] (mEnum (maCons (mDat (mBin mIxT (mLook 0) (mE (mp (true, D.int 2))))) (mp []))) (tgTup 2 (tgsCons (tgName 7) (tgsCons (tgName 8) tgsNil))) (mT (mOp dNotIn (mLook 7) (mLook 4))) (mVar 8))) [.dat false (cht ns ls vs), .dat false (sL acted), .dat false (sL asked), .own true (found.map nL), .dat true (nL s), s5, .no, .no, .no] = .nx [.dat false (cht ns ls vs), .dat false (sL acted), .dat false (sL asked), .own true (found.map nL), .dat true (nL s), .dat true (pL (lessN vs s)), .no, .no, .no] := by
    apply j_set (f := true) (d := pL (lessN vs s))
    · apply j_keep
      have q : mComp [7, 8] (mEnum (maCons (mDat (mBin mIxT (mLook 0) (mE (mp (true, D.int 2))))) (mp []))) (tgTup 2 (tgsCons (tgName 7) (tgsCons (tgName 8) tgsNil))) (mT (mOp dNotIn (mLook 7) (mLook 4))) (mVar 8) [.dat false (cht ns ls vs), .dat false (sL acted), .dat false (sL asked), .own true (found.map nL), .dat true (nL s), s5, .no, .no, .no] = .ok (true, (vs.zipIdx.filter fun p : Pr × Nat => !decide (p.2 ∈ s)).map fun p => prD p.1) [.dat false (cht ns ls vs), .dat false (sL acted), .dat false (sL asked), .own true (found.map nL), .dat true (nL s), s5, .no, .no, .no] := by
        apply j_comp (xs := vs.zipIdx) (e := fun p : Pr × Nat => (true, .tup [.int (p.2 : Nat), prD p.1])) (p := fun p => !decide (p.2 ∈ s)) (g := fun p => prD p.1) (r := fun p => [.dat false (cht ns ls vs), .dat false (sL acted), .dat false (sL asked), .own true (found.map nL), .dat true (nL s), s5, .no, .dat true (.int (p.2 : Nat)), .dat true (prD p.1)])
        · apply j_enum (g := false) (ds := [pL vs])
          · walk_at "d5ry"
          · exact it_en fun x hx => rfl
        · omega
        · rfl
        · intro p hp
          rfl
        · intro p hp
          apply j_T
          apply j_op
          · walk_at "d5ry"
          · walk_at "d5ry"
          · rfl
          · rfl
          · exact o_ninN
        · intro p hp
          rfl
        · intro p hp
          rfl
        · rfl
      rw [q]
      unfold lessN
      rw [List.map_map]
      rfl
    · rfl
    · rfl
  unfold B_law_due_1
  unfold cstN
  cases q : honN found s with
  | true =>
    rw [if_neg (by simp)]
    refine ⟨s5, ?_⟩
    apply k_if t1
    rw [q, if_neg (by simp)]
    rfl
  | false =>
    refine ⟨.dat true (pL (lessN vs s)), ?_⟩
    apply k_if t1
    rw [q, if_pos (by simp)]
    apply k_seq c1
    have iz : isNon (stkD ns ls (lessN vs s) acted asked) = tld ns ls (lessN vs s) acted asked := by
      unfold stkD tld
      cases stk ns ls (lessN vs s) acted asked <;> rfl
    have t2 : mT (mOp dIsN (mE (mCall D_law_stuck (maCons (mDat (mTup (maCons (mDat (mBin mIxT (mLook 0) (mE (mp (true, D.int 0))))) (maCons (mDat (mBin mIxT (mLook 0) (mE (mp (true, D.int 1))))) (maCons (mDat (mVar 5)) (mp [])))))) (maCons (mDat (mVar 1)) (maCons (mDat (mVar 2)) (mp [])))))) (mE (mp (true, D.non)))) [.dat false (cht ns ls vs), .dat false (sL acted), .dat false (sL asked), .own true (found.map nL), .dat true (nL s), .dat true (pL (lessN vs s)), .no, .no, .no] = .ok (tld ns ls (lessN vs s) acted asked) [.dat false (cht ns ls vs), .dat false (sL acted), .dat false (sL asked), .own true (found.map nL), .dat true (nL s), .dat true (pL (lessN vs s)), .no, .no, .no] := by
      rw [← iz]
      walk_at "d5ry"
    apply k_if t2
    cases q2 : tld ns ls (lessN vs s) acted asked with
    | false => rw [if_neg (by decide), if_neg (by decide)]; rfl
    | true =>
      rw [if_pos rfl, if_pos (by decide)]
      apply j_drop
      apply j_appM (e := nL) (xs := found) (x := s)
      · rfl
      · apply a_consF
        · rfl
        · exact a_nil
        · rfl
        · rfl
      · rfl
      · rfl
      · omega
      · rfl
theorem ev_due2 (C : ChartOk 6 ns ls vs) (A : AskOk ns acted asked) : ∀ (L found : List (List Nat)) (s4 s5 : Slot), (∀ s ∈ L, s.length ≤ 900) → found.length + L.length ≤ 1000 → (∀ t ∈ found, t.length ≤ 900) →
    ∃ t4 t5, forD (tgName 4) B_law_due_1 (L.map fun s => (true, nL s)) [.dat false (cht ns ls vs), .dat false (sL acted), .dat false (sL asked), .own true (found.map nL), s4, s5, .no, .no, .no] = .nx [.dat false (cht ns ls vs), .dat false (sL acted), .dat false (sL asked), .own true ((L.foldl (cstN ns ls vs acted asked) found).map nL), t4, t5, .no, .no, .no]
  | [], found, s4, s5, _, _, _ => ⟨s4, s5, rfl⟩
  | s :: L, found, s4, s5, hL, hn, h2 => by
    rw [List.length_cons] at hn
    have hs := hL s List.mem_cons_self
    obtain ⟨u5, e1⟩ := ev_due1 C A (s5 := s5) hs (show found.length ≤ 1000 by omega) h2
    have hl := cstN_len (ns := ns) (ls := ls) (vs := vs) (acted := acted) (asked := asked) (found := found) (s := s)
    obtain ⟨t4, t5, e2⟩ := ev_due2 C A L (cstN ns ls vs acted asked found s) (.dat true (nL s)) u5 (fun x hx => hL x (List.mem_cons_of_mem _ hx)) (by omega) (cstN_each hs h2)
    exact ⟨t4, t5, by rw [List.map_cons, k_forC (show tgName 4 _ _ = some [.dat false (cht ns ls vs), .dat false (sL acted), .dat false (sL asked), .own true (found.map nL), .dat true (nL s), s5, .no, .no, .no] from rfl) e1, e2]; rfl⟩
theorem ev_law_due (C : ChartOk 6 ns ls vs) (A : AskOk ns acted asked) : D_law_due [cht ns ls vs, sL acted, sL asked] = .ok true (.lst ((curN ns ls vs acted asked).map nL)) := by
  have vl := C.vlen
  obtain ⟨sl, se⟩ := subN_len vs.length vl
  have esu := ev_law_subsets vl
  have at0 := at_c0 (a := sL ns) (b := pL ls) (c := pL vs)
  obtain ⟨t4, t5, e⟩ := ev_due2 C A (subN vs.length) [] .no .no (fun s hs => Nat.le_trans (se s hs) (by decide)) (by rw [List.length_nil]; omega) (fun t ht => by simp at ht)
  unfold D_law_due
  apply j_run
  · rfl
  · walk_at "d5ry"
  · apply k_seq (ρ1 := [.dat false (cht ns ls vs), .dat false (sL acted), .dat false (sL asked), .own true (([] : List (List Nat)).map nL), .no, .no, .no, .no, .no])
    · walk_at "d5ry"
    apply k_seq
    · apply k_for (its := (subN vs.length).map fun s => (true, nL s))
      · apply j_it (d := .lst ((subN vs.length).map nL)) (f := true)
        · walk_at "d5ry"
        · show some (tagL true ((subN vs.length).map nL)) = _
          unfold tagL
          rw [List.map_map]
          rfl
      · exact e
    apply j_ret
    rfl
  · rfl
  · rfl
end
end F97
section F98
open PySem PySem.Spec PyProof.Rows L2 He Ds CpCmb
theorem fold_mem {ns : List Str} {ls vs : List Pr} {acted asked : List Str} : ∀ (M found : List (List Nat)) {t : List Nat}, t ∈ M.foldl (cstN ns ls vs acted asked) found → t ∈ found ∨ t ∈ M
  | [], found, t, h => .inl h
  | s :: M, found, t, h => by
    rcases fold_mem M _ h with z | z
    · unfold cstN at z
      split at z
      · rcases List.mem_append.mp z with z | z
        · exact .inl z
        · exact .inr (by rw [List.mem_singleton.mp z]; exact List.mem_cons_self)
      · exact .inl z
    · exact .inr (List.mem_cons_of_mem _ z)
theorem subN_low : ∀ m ≤ 5, ∀ s ∈ subN m, ∀ j ∈ s, j < 5 := by decide +kernel
theorem shd_low {j : Nat} (h : j < 5) : ShD (iN j) 0 5 := by
  have : j = 0 ∨ j = 1 ∨ j = 2 ∨ j = 3 ∨ j = 4 := by omega
  rcases this with rfl | rfl | rfl | rfl | rfl
  all_goals exact ⟨_, rfl, ⟨rfl, rfl, Nat.le_refl _, by decide +kernel⟩⟩
section
variable {ns : List Str} {ls vs : List Pr} {acted asked : List Str}
theorem cur_len (C : ChartOk 6 ns ls vs) : (curN ns ls vs acted asked).length ≤ 32 ∧ ∀ t ∈ curN ns ls vs acted asked, t.length ≤ 5 ∧ ∀ j ∈ t, j < 5 := by
  have vl := C.vlen
  obtain ⟨sl, se⟩ := subN_len vs.length vl
  have l := (fold_len (ns := ns) (ls := ls) (vs := vs) (acted := acted) (asked := asked) (subN vs.length) []).1
  rw [List.length_nil] at l
  refine ⟨by unfold curN; omega, fun t ht => ?_⟩
  rcases fold_mem _ _ ht with z | z
  · cases z
  · exact ⟨se t z, subN_low vs.length vl t z⟩
theorem cur_shd (C : ChartOk 6 ns ls vs) : ShD (.lst ((curN ns ls vs acted asked).map nL)) 2 1283 := by
  obtain ⟨h1, h2⟩ := cur_len (acted := acted) (asked := asked) C
  refine (shd_map (n := 1) (m := 38) (k := 32) (fun t ht => ?_) h1).mono (Nat.le_refl _) (by omega)
  refine (shd_map (n := 0) (m := 5) (k := 5) (fun j hj => shd_low ((h2 t ht).2 j hj)) (h2 t ht).1).mono (Nat.le_refl _) (by omega)
theorem cur_mu (C : ChartOk 6 ns ls vs) : mu_for (.lst ((curN ns ls vs acted asked).map nL)) = true := by
  obtain ⟨h1, h2⟩ := cur_len (acted := acted) (asked := asked) C
  unfold mu_for
  rw [Bool.and_eq_true]
  refine ⟨decide_eq_true (by rw [List.length_map]; omega), List.all_eq_true.mpr fun x hx => ?_⟩
  obtain ⟨t, ht, rfl⟩ := List.mem_map.mp hx
  show (decide ((t.map iN).length < 1000) && (t.map iN).all _) = true
  rw [Bool.and_eq_true]
  refine ⟨decide_eq_true (by have := (h2 t ht).1; rw [List.length_map]; omega), List.all_eq_true.mpr fun y hy => ?_⟩
  obtain ⟨j, _, rfl⟩ := List.mem_map.mp hy
  rfl
theorem o_eqR {e : PyData} : dEqR (.rep e) (.rep e) = some (.bl true) := by
  unfold dEqR; dsimp only; rw [decide_eq_true rfl]
theorem ask_rest (C : ChartOk 6 ns ls vs) (A : AskOk ns acted asked) : AskOk ns acted ((ns.filter fun x => !decide (x ∈ acted)).take 3) :=
  ⟨A.a, A.an, fun x hx => (List.mem_filter.mp (List.mem_of_mem_take hx)).1, (C.nd.filter _).sublist (List.take_sublist _ _), fun x hx z => by
    have := (List.mem_filter.mp (List.mem_of_mem_take hx)).2
    rw [decide_eq_true z] at this
    cases this⟩
theorem ev_right1 (C : ChartOk 6 ns ls vs) (A : AskOk ns acted asked) {ms : List Int} {due : D} (hdue : due = .lst ((curN ns ls vs acted asked).map nL)) :
    ∃ ρ, B_law_right_1 [.pool ms, .dat true (cht ns ls vs), .dat true (sL acted), .dat true (sL asked), .dat true (diag ns ls vs), .dat true due, .dat true (sL acted), .dat true (sL asked), .no, .no, .no, .no] = .rt true (.bl true) (.pool ms :: ρ) := by
  subst hdue
  have ec := ev_cures C A
  have A2 := ask_rest C A
  obtain ⟨rest, hrest⟩ : ∃ r, r = (ns.filter fun x => !decide (x ∈ acted)).take 3 := ⟨_, rfl⟩
  rw [← hrest] at A2
  have ec2 := ev_cures C A2
  have ed2 := ev_law_due C A2
  have hn := C.hi
  have at0 := at_c0 (a := sL ns) (b := pL ls) (c := pL vs)
  obtain ⟨er, hr⟩ := repr_at (cur_shd (acted := acted) (asked := asked) C) (by decide) (by decide) rfl
  obtain ⟨er2, hr2⟩ := repr_at (cur_shd (acted := acted) (asked := rest) C) (by decide) (by decide) rfl
  refine ⟨[.dat true (cht ns ls vs), .dat true (sL acted), .dat true (sL asked), .dat true (diag ns ls vs), .dat true (.lst ((curN ns ls vs acted asked).map nL)), .dat true (sL acted), .dat true (sL asked), .no, .no, .dat true (sL rest), .no], ?_⟩
  unfold B_law_right_1
  apply k_seq (ρ1 := [.pool ms, .dat true (cht ns ls vs), .dat true (sL acted), .dat true (sL asked), .dat true (diag ns ls vs), .dat true (.lst ((curN ns ls vs acted asked).map nL)), .dat true (sL acted), .dat true (sL asked), .no, .no, .no, .no])
  · apply k_if (k := false)
    · apply j_T
      apply j_op
      · apply j_E
        apply j_un
        · apply j_E
          walk_at "d5ry"
        · rfl
        · exact hr
      · apply j_E
        apply j_un
        · apply k_look; rfl
        · rfl
        · exact hr
      · rfl
      · rfl
      · exact o_neR
    · rfl
  apply k_seq (ρ1 := [.pool ms, .dat true (cht ns ls vs), .dat true (sL acted), .dat true (sL asked), .dat true (diag ns ls vs), .dat true (.lst ((curN ns ls vs acted asked).map nL)), .dat true (sL acted), .dat true (sL asked), .no, .no, .dat true (sL rest), .no])
  · have ct : cutD ((ns.filter fun x => !decide (x ∈ acted)).map D.str) none (some 3) = rest.map D.str := by
      rw [show (some (3 : Int)) = some ((3 : Nat) : Int) from rfl, o_cut, ← hrest]
    walk_at "d5ry"
  apply j_ret
  apply j_op
  · apply j_E
    apply j_un
    · apply j_E
      walk_at "d5ry"
    · rfl
    · exact hr2
  · apply j_E
    apply j_un
    · apply j_E
      walk_at "d5ry"
    · rfl
    · exact hr2
  · rfl
  · rfl
  · exact o_eqR
theorem ev_law_right {n : Nat} {ns : List Int} (h : PoolOk ns n) (hn : n ≤ 800000000) : ∃ ns', PoolOk ns' (n + 400) ∧ D_law_right ns [] = .ok true (.bl true) ns' := by
  obtain ⟨m1, xs, ls, vs, acted, asked, h1, K, e1⟩ := ev_law_case h (by omega) (W := 6) (by decide) (by decide)
  have C := K.c
  have A := K.a
  have at0 := at_c0 (a := sL xs) (b := pL ls) (c := pL vs)
  have em := ev_cmade C
  have ed := ev_law_due C A
  have ec := ev_cures C A
  obtain ⟨due, hdue⟩ : ∃ d, d = D.lst ((curN xs ls vs acted asked).map nL) := ⟨_, rfl⟩
  obtain ⟨ρ, e3⟩ := ev_right1 C A (ms := m1) hdue
  rw [← hdue] at ed ec
  have sh := cur_shd (acted := acted) (asked := asked) C
  rw [← hdue] at sh
  obtain ⟨er, hr⟩ := repr_at (shd_two sh sh) (by decide) (by decide) rfl
  have mu : mu_for due = true := by rw [hdue]; exact cur_mu C
  have b1 : (!decide ([acted, asked] = [acted, asked])) = false := by rw [decide_eq_true rfl]; rfl
  refine ⟨m1, h1.mono (by omega), ?_⟩
  unfold D_law_right
  apply j_runP
  · rfl
  · walk_at "d5ry"
  · apply k_seq (ρ1 := [.pool m1, .dat true (cht xs ls vs), .dat true (sL acted), .dat true (sL asked), .no, .no, .no, .no, .no, .no, .no, .no])
    · walk_at "d5ry"
    apply k_seq (ρ1 := [.pool m1, .dat true (cht xs ls vs), .dat true (sL acted), .dat true (sL asked), .dat true (diag xs ls vs), .dat true due, .no, .no, .no, .no, .no, .no])
    · walk_at "d5ry"
    apply k_seq (ρ1 := [.pool m1, .dat true (cht xs ls vs), .dat true (sL acted), .dat true (sL asked), .dat true (diag xs ls vs), .dat true due, .dat true (sL acted), .dat true (sL asked), .no, .no, .no, .no])
    · walk_at "d5ry"
    apply k_scrL (ρ0 := [.pool m1, .dat true (cht xs ls vs), .dat true (sL acted), .dat true (sL asked), .dat true (diag xs ls vs), .dat true due, .dat true (sL acted), .dat true (sL asked), .no, .no, .no, .no]) (ss := [.dat true (diag xs ls vs), .dat true (sL acted), .dat true (sL asked)]) (g := true) (ds := [diag xs ls vs, sL acted, sL asked]) (d := due) (d2 := due)
    · rfl
    · rfl
    · exact ec
    · walk_at "d5ry"
    · intro s hs
      simp only [List.mem_cons, List.not_mem_nil, or_false] at hs
      rcases hs with rfl | rfl | rfl | rfl | rfl | rfl | rfl | rfl | rfl | rfl | rfl | rfl <;> rfl
    · rfl
    · exact mu
    · rfl
    · apply j_rIf
      apply j_or (k := false) (z := false)
      · apply j_T
        apply j_op
        · apply j_E
          apply j_un
          · apply k_look; rfl
          · rfl
          · exact hr
        · apply j_E
          apply j_un
          · apply j_E
            walk_at "d5ry"
          · rfl
          · exact hr
        · rfl
        · rfl
        · exact o_neR
      · apply j_T
        apply j_op
        · apply j_E
          walk_at "d5ry"
        · apply j_E
          walk_at "d5ry"
        · rfl
        · rfl
        · have q : dNe (.lst ([acted, asked].map sL)) (.lst ([acted, asked].map sL)) = some (.bl (!decide ([acted, asked] = [acted, asked]))) := by
            unfold dNe
            rw [dEqv_strss]
            rfl
          rw [b1] at q
          exact q
    · rfl
    · exact e3
  · rfl
  · rfl
end
end F98
end Da
section F99
namespace Da
open PySem PySem.Spec PyProof.Rows L2 He Ds
/-- the built-ins' names are free -/
structure Tx (mg : Str → Option Value) : Prop where
  n_abs : mg "abs" = none
  n_int : mg "int" = none
  n_len : mg "len" = none
  n_list : mg "list" = none
  n_max : mg "max" = none
  n_min : mg "min" = none
  n_range : mg "range" = none
  n_enumerate : mg "enumerate" = none
  n_zip : mg "zip" = none
  n_repr : mg "repr" = none
  n_isinstance : mg "isinstance" = none
  n_ValueError : mg "ValueError" = none
  n_all : mg "all" = none
  n_any : mg "any" = none
  n_sum : mg "sum" = none
  n_sorted : mg "sorted" = none
  n_tuple : mg "tuple" = none
  n_dict : mg "dict" = none
  n_set : mg "set" = none
  n_str : mg "str" = none
abbrev FnP (K : PySem.W.Frag) (x q : Str) (st : Stmt) (f : Addr) (fd : FuncData) : Prop := FunD K x q (defArgs st) (defBody st) (defScope st) [] [] f fd
end Da
end F99
section F100
/-! A def that calls itself: so many calls, one within another, as are allowed. -/
namespace Da
open PySem PySem.Spec PyProof.Rows L2 He Ds
variable [Tabl]
end Da
end F100
section F101
namespace Da
open PySem PySem.Spec PyProof.Rows L2 He Ds
def top (i : Nat) : Stmt := PySem.Challenge.pw_deedshares_k35_least_cures.main.body.getD i (.Pass ⟨0, 0, 0, 0⟩)
section
variable {P : Program} {w : World} {K : PySem.W.Frag} {mg : Str → Option Value} {base : Heap}
abbrev s_law_draw : Stmt := top 36
abbrev N_law_draw : List Str := ["pool", "span", "drawn", "mixed"]
theorem sc_law_draw : FnScope N_law_draw ["pool", "span"] (defScope s_law_draw) := ⟨rfl, rfl, rfl, by decide +kernel, rfl, by decide +kernel, by decide +kernel⟩
theorem ok_law_draw {f : Addr} {fd : FuncData} (F : FnP K "_law_draw" "_law_draw" s_law_draw f fd) (T : Tx mg) : FnOk P w K mg base CX0 1 f fd ["pool", "span"] (spP K D_law_draw) := by
  refine F.ok sc_law_draw (fun vs H Q E h => len_p (N := N_law_draw) h) (fun cdv A outer s H vs Q E hr h => ⟨_, PSs.nox ((pss_cons (ps_if (pt_cmpR op_gt (pe_ix (r := rIxL K) ix_list (pv 0) pe_int (fun _ _ => rfl)) pe_int (nomark _))
 (pss_cons (ps_set (i := 2) sc_law_draw.nd rfl (Or.inl rfl) (pe_op op_mod (pe_callTy call_int1 (by rfl) T.n_int (by decide +kernel) (pa_cons (pe_ix (r := rIxL K) ix_list (pv 0) pe_int (fun _ _ => rfl)) pa_nil)) (pv 1)))
 (pss_cons (ps_asg (pe_op op_fdivW (pe_ix (r := rIxL K) ix_list (pv 0) pe_int (fun _ _ => rfl)) (pv 1)) (pg_sub (pv 0) pe_int set_list))
 (pss_one (ps_ret (pv 2)))))
 pss_nil)
 (pss_cons (ps_asg (pe_op op_add (pe_ix (r := rIxL K) ix_list (pv 0) pe_int (fun _ _ => rfl)) pe_int) (pg_sub (pv 0) pe_int set_list))
 (pss_cons (ps_set (i := 3) sc_law_draw.nd rfl (Or.inl rfl) (pe_op op_mod (pe_callTy call_int1 (by rfl) T.n_int (by decide +kernel) (pa_cons (pe_op op_powW (pe_op op_add (pe_ix (r := rIxL K) ix_list (pv 0) pe_int (fun _ _ => rfl)) (pe_op op_mulW pe_int (pe_ix (r := rIxL K) ix_list (pv 0) pe_int (fun _ _ => rfl)))) pe_int) pa_nil)) pe_int))
 (pss_cons (ps_set (i := 3) sc_law_draw.nd rfl (Or.inl rfl) (pe_op op_mod (pe_callTy call_int1 (by rfl) T.n_int (by decide +kernel) (pa_cons (pe_op op_powW (pe_op op_add (pv 3) (pe_op op_mulW pe_int (pe_ix (r := rIxL K) ix_list (pv 0) pe_int (fun _ _ => rfl)))) pe_int) pa_nil)) pe_int))
 (pss_one (ps_ret (pe_op op_mod (pe_callTy call_int1 (by rfl) T.n_int (by decide +kernel) (pa_cons (pe_op op_fdivW (pv 3) pe_int) pa_nil)) (pv 1))))))))),
    body_p (N := N_law_draw) (ds_seq (ds_if (dt_t (de_op s_gt (DE.b (de_ixL (db_var 0) (DE.b de_int))) (DE.b de_int)))
 (ds_seq (ds_set (de_op s_mod (DE.b (de_b1 s_int (DE.b (de_ixL (db_var 0) (DE.b de_int))))) (db_var 1)))
 (ds_seq (ds_poolSet de_int (de_op s_fdiv (DE.b (de_ixL (db_var 0) (DE.b de_int))) (db_var 1)))
 (ds_ret (de_var 2))))
 ds_nil)
 (ds_seq (ds_poolSet de_int (de_op s_add (DE.b (de_ixL (db_var 0) (DE.b de_int))) (DE.b de_int)))
 (ds_seq (ds_set (de_op s_mod (DE.b (de_b1 s_int (DE.b (de_op s_pow (DE.b (de_op s_add (DE.b (de_ixL (db_var 0) (DE.b de_int))) (DE.b (de_op s_mul (DE.b de_int) (DE.b (de_ixL (db_var 0) (DE.b de_int))))))) (DE.b de_int))))) (DE.b de_int)))
 (ds_seq (ds_set (de_op s_mod (DE.b (de_b1 s_int (DE.b (de_op s_pow (DE.b (de_op s_add (db_var 3) (DE.b (de_op s_mul (DE.b de_int) (DE.b (de_ixL (db_var 0) (DE.b de_int))))))) (DE.b de_int))))) (DE.b de_int)))
 (ds_ret (de_op s_mod (DE.b (de_b1 s_int (DE.b (de_op s_fdiv (db_var 3) (DE.b de_int))))) (db_var 1))))))) h⟩)
abbrev s_law_chart : Stmt := top 37
abbrev N_law_chart : List Str := ["pool", "widest", "letters_here", "left", "turn", "order", "rest_here", "ties", "late", "lines", "veils", "tie", "way", "early"]
theorem sc_law_chart : FnScope N_law_chart ["pool", "widest"] (defScope s_law_chart) := ⟨rfl, rfl, rfl, by decide +kernel, rfl, by decide +kernel, by decide +kernel⟩
theorem ok_law_chart {f : Addr} {fd : FuncData} (F : FnP K "_law_chart" "_law_chart" s_law_chart f fd) (T : Tx mg) (C_law_draw : Cal P w K mg base CX0 1 "_law_draw" ["pool", "span"] (spP K D_law_draw)) : FnOk P w K mg base CX0 2 f fd ["pool", "widest"] (spP K D_law_chart) := by
  refine F.ok sc_law_chart (fun vs H Q E h => len_p (N := N_law_chart) h) (fun cdv A outer s H vs Q E hr h => ⟨_, PSs.nox ((pss_cons (ps_par (i := 2) (j := 3) (by rfl) sc_law_chart.nd rfl rfl (by decide) rfl rfl (pa_cons (pe_lst pa_nil) (pa_cons (pe_callTy (call_listS rfl) (by rfl) T.n_list (by decide +kernel) (pa_cons pe_str pa_nil)) pa_nil)) (by rfl))
 (pss_cons (ps_for PassesOwn.never rfl (pi_range1 (by rfl) T.n_range (pa_cons (pe_op op_add pe_int (pe_cal C_law_draw hr rfl (pa_cons (pv 0) (pa_cons (pv 1) pa_nil)))) pa_nil)) (pg_name (i := 4) sc_law_chart.nd rfl (Or.inl rfl))
 (pss_one (ps_expr (pe_bmK (K := K) PySem.F.plainAttrs_list PySem.F.slot_list_append PySem.F.type_list_append mt_append (pv 2) (pa_cons (pe_bmK (K := K) PySem.F.plainAttrs_list PySem.F.slot_list_pop PySem.F.type_list_pop mt_popAt (pv 3) (pa_cons (pe_cal C_law_draw hr rfl (pa_cons (pv 0) (pa_cons (pe_callB (r := Evl.rLenS K) call_len_seq (by rfl) T.n_len (by decide +kernel) (pa_cons (pv 3) pa_nil)) pa_nil))) pa_nil)) pa_nil)))))
 (pss_cons (ps_asg (pe_tup (pa_cons (pe_lst pa_nil) (pa_cons (pe_callTy (r := Evl.rListS K) call_list_of (by rfl) T.n_list (by decide +kernel) (pa_cons (pv 2) pa_nil)) (pa_cons (pe_lst pa_nil) pa_nil)))) (pg_tupK (K := K) (n := 3) (pgs_cons (pg_name (i := 5) sc_law_chart.nd rfl (Or.inr rfl)) (pgs_cons (pg_name (i := 6) sc_law_chart.nd rfl (Or.inl rfl)) (pgs_cons (pg_name (i := 7) sc_law_chart.nd rfl (Or.inl rfl)) pgs_nil)))))
 (pss_cons (ps_while PassesOwn.never (pt_cmpR (r := rNeD K) (op_neD hr.units) (pv 6) (pe_lst pa_nil) (nomark _))
 (pss_one (ps_expr (pe_bmK (K := K) PySem.F.plainAttrs_list PySem.F.slot_list_append PySem.F.type_list_append mt_append (pv 5) (pa_cons (pe_bmK (K := K) PySem.F.plainAttrs_list PySem.F.slot_list_pop PySem.F.type_list_pop mt_popAt (pv 6) (pa_cons (pe_cal C_law_draw hr rfl (pa_cons (pv 0) (pa_cons (pe_callB (r := Evl.rLenS K) call_len_seq (by rfl) T.n_len (by decide +kernel) (pa_cons (pv 6) pa_nil)) pa_nil))) pa_nil)) pa_nil)))))
 (pss_cons (ps_for PassesOwn.never rfl (pi_range1 (by rfl) T.n_range (pa_cons (pe_callB (r := Evl.rLenS K) call_len_seq (by rfl) T.n_len (by decide +kernel) (pa_cons (pv 5) pa_nil)) pa_nil)) (pg_name (i := 8) sc_law_chart.nd rfl (Or.inr rfl))
 (pss_one (ps_expr (pe_bmK (K := K) PySem.F.plainAttrs_list PySem.F.slot_list_extend PySem.F.type_list_extend mt_extend (pv 7) (pa_cons (pe_lc (own := [("early", 13)]) (by rfl) sc_law_chart.nd (pi_range1 (by rfl) T.n_range (pa_cons (pv 8) pa_nil)) (blkOk_by (own := [("early", 13)]) (N := N_law_chart) (sc := defScope s_law_chart) (by decide +kernel)) (fun _ _ _ _ _ => (pg_name (i := 13) sc_law_chart.nd rfl (Or.inl rfl))) (fun _ _ _ _ _ => pts_nil) (fun _ _ _ _ _ => (pe_tup (pa_cons (pe_ix (r := rIxL K) ix_list (pv 5) (pv 13) (fun _ _ => rfl)) (pa_cons (pe_ix (r := rIxL K) ix_list (pv 5) (pv 8) (fun _ _ => rfl)) pa_nil))))) pa_nil)))))
 (pss_cons (ps_par (i := 9) (j := 10) (by rfl) sc_law_chart.nd rfl rfl (by decide) rfl rfl (pa_cons (pe_lst pa_nil) (pa_cons (pe_lst pa_nil) pa_nil)) (by rfl))
 (pss_cons (ps_for PassesOwn.never rfl (pi_listK (K := K) (pv 7)) (pg_name (i := 11) sc_law_chart.nd rfl (Or.inl rfl))
 (pss_cons (ps_set (i := 12) sc_law_chart.nd rfl (Or.inl rfl) (pe_cal C_law_draw hr rfl (pa_cons (pv 0) (pa_cons pe_int pa_nil))))
 (Evl.pss_cut (ps_if (pt_cmpR (r := rIn K false) op_in_seq (pv 12) (pe_tup (pa_cons pe_int (pa_cons pe_int (pa_cons pe_int pa_nil)))) (by rfl))
 (pss_one (ps_expr (pe_bmK (K := K) PySem.F.plainAttrs_list PySem.F.slot_list_insert PySem.F.type_list_insert mt_insert (pv 9) (pa_cons (pe_cal C_law_draw hr rfl (pa_cons (pv 0) (pa_cons (pe_op op_add (pe_callB (r := Evl.rLenS K) call_len_seq (by rfl) T.n_len (by decide +kernel) (pa_cons (pv 9) pa_nil)) pe_int) pa_nil))) (pa_cons (pv 11) pa_nil)))))
 pss_nil)
 (pss_one (ps_if (PW.pt (pw_and (pt_cmpR (r := rIn K false) op_in_seq (pv 12) (pe_tup (pa_cons pe_int (pa_cons pe_int pa_nil))) (by rfl)) (pw_and1 (pt_cmpR op_lt (pe_callB (r := Evl.rLenS K) call_len_seq (by rfl) T.n_len (by decide +kernel) (pa_cons (pv 10) pa_nil)) pe_int (nomark _)))))
 (pss_one (ps_expr (pe_bmK (K := K) PySem.F.plainAttrs_list PySem.F.slot_list_insert PySem.F.type_list_insert mt_insert (pv 10) (pa_cons (pe_cal C_law_draw hr rfl (pa_cons (pv 0) (pa_cons (pe_op op_add (pe_callB (r := Evl.rLenS K) call_len_seq (by rfl) T.n_len (by decide +kernel) (pa_cons (pv 10) pa_nil)) pe_int) pa_nil))) (pa_cons (pe_sliceStepK (K := K) (pv 11) (pe_ix (r := rIxL K) ix_list (pe_lst (pa_cons pe_int (pa_cons (pe_un un_neg pe_int) pa_nil))) (pe_cal C_law_draw hr rfl (pa_cons (pv 0) (pa_cons pe_int pa_nil))) (fun _ _ => rfl))) pa_nil)))))
 pss_nil)))))
 (pss_one (ps_ret (pe_tup (pa_cons (pv 2) (pa_cons (pv 9) (pa_cons (pv 10) pa_nil)))))))))))))),
    body_p (N := N_law_chart) (ds_seq (ds_par (da_cons (DL.s (dl_lst da_nil)) (da_cons (DL.s (dl_listS (DE.b de_str))) da_nil)))
 (ds_seq (ds_for (di_rng1 (da_cons (DE.s (de_op s_add (DE.b de_int) (DE.b (de_callP (da_cons (DE.s (de_var 1)) da_nil))))) da_nil)) (dg_name 4)
 (ds_drop (de_append (da_cons (DE.s (de_popAt (da_cons (DE.s (de_callP (da_cons (DE.s (de_b1 s_len (db_var 3))) da_nil))) da_nil))) da_nil))))
 (ds_seq (ds_tupPar (is := [5, 6, 7]) (da_cons (DL.s (dl_lst da_nil)) (da_cons (DL.s (dl_list (db_var 2))) (da_cons (DL.s (dl_lst da_nil)) da_nil))))
 (ds_seq (ds_while (dt_t (de_op s_ne (db_var 6) (DE.b (DL.e (dl_lst da_nil)))))
 (ds_drop (de_append (da_cons (DE.s (de_popAt (da_cons (DE.s (de_callP (da_cons (DE.s (de_b1 s_len (db_var 6))) da_nil))) da_nil))) da_nil))))
 (ds_seq (ds_for (di_rng1 (da_cons (DE.s (de_b1 s_len (db_var 5))) da_nil)) (dg_name 8)
 (ds_drop (de_extend (da_cons (DE.s (DL.e (dl_lc (vs := [13]) (di_rng1 (da_cons (DE.s (de_var 8)) da_nil)) (dg_name 13) (by decide) dt_yes (de_tup (da_cons (DE.s (de_ixL (db_var 5) (db_var 13))) (da_cons (DE.s (de_ixL (db_var 5) (db_var 8))) da_nil)))))) da_nil))))
 (ds_seq (ds_par (da_cons (DL.s (dl_lst da_nil)) (da_cons (DL.s (dl_lst da_nil)) da_nil)))
 (ds_seq (ds_for (di_list (de_varF 7)) (dg_name 11)
 (ds_seq (ds_set (de_callP (da_cons (DE.s de_int) da_nil)))
 (ds_cut (ds_if (dt_t (de_op s_inT (db_var 12) (DE.b (de_tup (da_cons (DE.s de_int) (da_cons (DE.s de_int) (da_cons (DE.s de_int) da_nil)))))))
 (ds_drop (de_insert (da_cons (DE.s (de_callP (da_cons (DE.s (de_op s_add (DE.b (de_b1 s_len (db_var 9))) (DE.b de_int))) da_nil))) (da_cons (DE.s (de_var 11)) da_nil))))
 ds_nil)
 (ds_if (dt_and (dt_t (de_op s_inT (db_var 12) (DE.b (de_tup (da_cons (DE.s de_int) (da_cons (DE.s de_int) da_nil)))))) (dt_t (de_op s_lt (DE.b (de_b1 s_len (db_var 10))) (DE.b de_int))))
 (ds_drop (de_insert (da_cons (DE.s (de_callP (da_cons (DE.s (de_op s_add (DE.b (de_b1 s_len (db_var 10))) (DE.b de_int))) da_nil))) (da_cons (DE.s (de_step2 (de_var 11) (de_ixL (DE.b (DL.e (dl_lst (da_cons (DE.s de_int) (da_cons (DE.s (de_un s_neg (DE.b de_int))) da_nil))))) (DE.b (de_callP (da_cons (DE.s de_int) da_nil)))))) da_nil))))
 ds_nil))))
 (ds_ret (de_tup (da_cons (DE.s (de_varF 2)) (da_cons (DE.s (de_varF 9)) (da_cons (DE.s (de_varF 10)) da_nil)))))))))))) h⟩)
abbrev s_law_known : Stmt := top 38
abbrev N_law_known : List Str := ["pool", "found", "letters_here", "lines", "veils", "tie"]
theorem sc_law_known : FnScope N_law_known ["pool"] (defScope s_law_known) := ⟨rfl, rfl, rfl, by decide +kernel, rfl, by decide +kernel, by decide +kernel⟩
theorem ok_law_known {f : Addr} {fd : FuncData} (F : FnP K "_law_known" "_law_known" s_law_known f fd) (C_law_draw : Cal P w K mg base CX0 1 "_law_draw" ["pool", "span"] (spP K D_law_draw)) (T : Tx mg) : FnOk P w K mg base CX0 2 f fd ["pool"] (spP K D_law_known) := by
  refine F.ok sc_law_known (fun vs H Q E h => len_p (N := N_law_known) h) (fun cdv A outer s H vs Q E hr h => ⟨_, PSs.nox ((pss_cons (ps_set (i := 1) sc_law_known.nd rfl (Or.inl rfl) (pe_lst (pa_cons (pe_tup (pa_cons pe_str (pa_cons (pe_lst (pa_cons pe_str pa_nil)) (pa_cons (pe_lst (pa_cons pe_str pa_nil)) pa_nil)))) (pa_cons (pe_tup (pa_cons pe_str (pa_cons (pe_lst (pa_cons pe_str (pa_cons pe_str pa_nil))) (pa_cons (pe_lst (pa_cons pe_str pa_nil)) pa_nil)))) (pa_cons (pe_tup (pa_cons pe_str (pa_cons (pe_lst (pa_cons pe_str (pa_cons pe_str (pa_cons pe_str pa_nil)))) (pa_cons (pe_lst (pa_cons pe_str (pa_cons pe_str pa_nil))) pa_nil)))) pa_nil)))))
 (pss_cons (ps_set (i := 1) sc_law_known.nd rfl (Or.inl rfl) (pe_op op_cat (pv 1) (pe_lst (pa_cons (pe_tup (pa_cons pe_str (pa_cons (pe_lst (pa_cons pe_str (pa_cons pe_str pa_nil))) (pa_cons (pe_lst (pa_cons pe_str pa_nil)) pa_nil)))) (pa_cons (pe_tup (pa_cons pe_str (pa_cons (pe_lst (pa_cons pe_str (pa_cons pe_str (pa_cons pe_str pa_nil)))) (pa_cons (pe_lst pa_nil) pa_nil)))) (pa_cons (pe_tup (pa_cons pe_str (pa_cons (pe_lst (pa_cons pe_str (pa_cons pe_str pa_nil))) (pa_cons (pe_lst (pa_cons pe_str pa_nil)) pa_nil)))) pa_nil))))))
 (pss_cons (ps_set (i := 1) sc_law_known.nd rfl (Or.inl rfl) (pe_op op_cat (pv 1) (pe_lst (pa_cons (pe_tup (pa_cons pe_str (pa_cons (pe_lst (pa_cons pe_str (pa_cons pe_str (pa_cons pe_str (pa_cons pe_str pa_nil))))) (pa_cons (pe_lst (pa_cons pe_str (pa_cons pe_str pa_nil))) pa_nil)))) (pa_cons (pe_tup (pa_cons pe_str (pa_cons (pe_lst (pa_cons pe_str (pa_cons pe_str (pa_cons pe_str pa_nil)))) (pa_cons (pe_lst (pa_cons pe_str (pa_cons pe_str pa_nil))) pa_nil)))) pa_nil)))))
 (pss_cons (ps_set (i := 1) sc_law_known.nd rfl (Or.inl rfl) (pe_op op_cat (pv 1) (pe_lst (pa_cons (pe_tup (pa_cons pe_str (pa_cons (pe_lst (pa_cons pe_str (pa_cons pe_str (pa_cons pe_str pa_nil)))) (pa_cons (pe_lst (pa_cons pe_str (pa_cons pe_str pa_nil))) pa_nil)))) (pa_cons (pe_tup (pa_cons pe_str (pa_cons (pe_lst (pa_cons pe_str (pa_cons pe_str (pa_cons pe_str (pa_cons pe_str pa_nil))))) (pa_cons (pe_lst (pa_cons pe_str (pa_cons pe_str pa_nil))) pa_nil)))) pa_nil)))))
 (pss_cons (ps_asg (pe_ix (r := rIxL K) ix_list (pv 1) (pe_cal C_law_draw hr rfl (pa_cons (pv 0) (pa_cons pe_int pa_nil))) (fun _ _ => rfl)) (pg_tupK (K := K) (n := 3) (pgs_cons (pg_name (i := 2) sc_law_known.nd rfl (Or.inl rfl)) (pgs_cons (pg_name (i := 3) sc_law_known.nd rfl (Or.inl rfl)) (pgs_cons (pg_name (i := 4) sc_law_known.nd rfl (Or.inl rfl)) pgs_nil)))))
 (pss_one (ps_ret (pe_tup (pa_cons (pe_tup (pa_cons (pe_callTy (call_listS rfl) (by rfl) T.n_list (by decide +kernel) (pa_cons (pv 2) pa_nil)) (pa_cons (pe_lc (own := [("tie", 5)]) (by rfl) sc_law_known.nd (pi_listK (K := K) (pv 3)) (blkOk_by (own := [("tie", 5)]) (N := N_law_known) (sc := defScope s_law_known) (by decide +kernel)) (fun _ _ _ _ _ => (pg_name (i := 5) sc_law_known.nd rfl (Or.inl rfl))) (fun _ _ _ _ _ => pts_nil) (fun _ _ _ _ _ => (pe_callTy (call_tupleS rfl) (by rfl) T.n_tuple (by decide +kernel) (pa_cons (pv 5) pa_nil)))) (pa_cons (pe_lc (own := [("tie", 5)]) (by rfl) sc_law_known.nd (pi_listK (K := K) (pv 4)) (blkOk_by (own := [("tie", 5)]) (N := N_law_known) (sc := defScope s_law_known) (by decide +kernel)) (fun _ _ _ _ _ => (pg_name (i := 5) sc_law_known.nd rfl (Or.inl rfl))) (fun _ _ _ _ _ => pts_nil) (fun _ _ _ _ _ => (pe_callTy (call_tupleS rfl) (by rfl) T.n_tuple (by decide +kernel) (pa_cons (pv 5) pa_nil)))) pa_nil)))) (pa_cons (pe_lst (pa_cons pe_str pa_nil)) (pa_cons (pe_lst (pa_cons pe_str pa_nil)) pa_nil)))))))))))),
    body_p (N := N_law_known) (ds_seq (ds_set (DL.e (dl_lst (da_cons (DE.s (de_tup (da_cons (DE.s de_str) (da_cons (DE.s (DL.e (dl_lst (da_cons (DE.s de_str) da_nil)))) (da_cons (DE.s (DL.e (dl_lst (da_cons (DE.s de_str) da_nil)))) da_nil))))) (da_cons (DE.s (de_tup (da_cons (DE.s de_str) (da_cons (DE.s (DL.e (dl_lst (da_cons (DE.s de_str) (da_cons (DE.s de_str) da_nil))))) (da_cons (DE.s (DL.e (dl_lst (da_cons (DE.s de_str) da_nil)))) da_nil))))) (da_cons (DE.s (de_tup (da_cons (DE.s de_str) (da_cons (DE.s (DL.e (dl_lst (da_cons (DE.s de_str) (da_cons (DE.s de_str) (da_cons (DE.s de_str) da_nil)))))) (da_cons (DE.s (DL.e (dl_lst (da_cons (DE.s de_str) (da_cons (DE.s de_str) da_nil))))) da_nil))))) da_nil))))))
 (ds_seq (ds_set (DL.e (dl_cat (db_var 1) (DE.b (DL.e (dl_lst (da_cons (DE.s (de_tup (da_cons (DE.s de_str) (da_cons (DE.s (DL.e (dl_lst (da_cons (DE.s de_str) (da_cons (DE.s de_str) da_nil))))) (da_cons (DE.s (DL.e (dl_lst (da_cons (DE.s de_str) da_nil)))) da_nil))))) (da_cons (DE.s (de_tup (da_cons (DE.s de_str) (da_cons (DE.s (DL.e (dl_lst (da_cons (DE.s de_str) (da_cons (DE.s de_str) (da_cons (DE.s de_str) da_nil)))))) (da_cons (DE.s (DL.e (dl_lst da_nil))) da_nil))))) (da_cons (DE.s (de_tup (da_cons (DE.s de_str) (da_cons (DE.s (DL.e (dl_lst (da_cons (DE.s de_str) (da_cons (DE.s de_str) da_nil))))) (da_cons (DE.s (DL.e (dl_lst (da_cons (DE.s de_str) da_nil)))) da_nil))))) da_nil)))))))))
 (ds_seq (ds_set (DL.e (dl_cat (db_var 1) (DE.b (DL.e (dl_lst (da_cons (DE.s (de_tup (da_cons (DE.s de_str) (da_cons (DE.s (DL.e (dl_lst (da_cons (DE.s de_str) (da_cons (DE.s de_str) (da_cons (DE.s de_str) (da_cons (DE.s de_str) da_nil))))))) (da_cons (DE.s (DL.e (dl_lst (da_cons (DE.s de_str) (da_cons (DE.s de_str) da_nil))))) da_nil))))) (da_cons (DE.s (de_tup (da_cons (DE.s de_str) (da_cons (DE.s (DL.e (dl_lst (da_cons (DE.s de_str) (da_cons (DE.s de_str) (da_cons (DE.s de_str) da_nil)))))) (da_cons (DE.s (DL.e (dl_lst (da_cons (DE.s de_str) (da_cons (DE.s de_str) da_nil))))) da_nil))))) da_nil))))))))
 (ds_seq (ds_set (DL.e (dl_cat (db_var 1) (DE.b (DL.e (dl_lst (da_cons (DE.s (de_tup (da_cons (DE.s de_str) (da_cons (DE.s (DL.e (dl_lst (da_cons (DE.s de_str) (da_cons (DE.s de_str) (da_cons (DE.s de_str) da_nil)))))) (da_cons (DE.s (DL.e (dl_lst (da_cons (DE.s de_str) (da_cons (DE.s de_str) da_nil))))) da_nil))))) (da_cons (DE.s (de_tup (da_cons (DE.s de_str) (da_cons (DE.s (DL.e (dl_lst (da_cons (DE.s de_str) (da_cons (DE.s de_str) (da_cons (DE.s de_str) (da_cons (DE.s de_str) da_nil))))))) (da_cons (DE.s (DL.e (dl_lst (da_cons (DE.s de_str) (da_cons (DE.s de_str) da_nil))))) da_nil))))) da_nil))))))))
 (ds_seq (ds_asg (dg_tup (dgs_cons (dg_name 2) (dgs_cons (dg_name 3) (dgs_cons (dg_name 4) dgs_nil)))) (de_ixL (db_var 1) (DE.b (de_callP (da_cons (DE.s de_int) da_nil)))))
 (ds_ret (de_tup (da_cons (DE.s (de_tup (da_cons (DE.s (DL.e (dl_listS (db_var 2)))) (da_cons (DE.s (DL.e (dl_lc (vs := [5]) (di_list (de_var 3)) (dg_name 5) (by decide) dt_yes (de_tupS (db_var 5))))) (da_cons (DE.s (DL.e (dl_lc (vs := [5]) (di_list (de_var 4)) (dg_name 5) (by decide) dt_yes (de_tupS (db_var 5))))) da_nil))))) (da_cons (DE.s (DL.e (dl_lst (da_cons (DE.s de_str) da_nil)))) (da_cons (DE.s (DL.e (dl_lst (da_cons (DE.s de_str) da_nil)))) da_nil)))))))))) h⟩)
abbrev s_law_case : Stmt := top 39
abbrev N_law_case : List Str := ["pool", "widest", "chart", "left", "picked", "cut"]
theorem sc_law_case : FnScope N_law_case ["pool", "widest"] (defScope s_law_case) := ⟨rfl, rfl, rfl, by decide +kernel, rfl, by decide +kernel, by decide +kernel⟩
theorem ok_law_case {f : Addr} {fd : FuncData} (F : FnP K "_law_case" "_law_case" s_law_case f fd) (C_law_draw : Cal P w K mg base CX0 1 "_law_draw" ["pool", "span"] (spP K D_law_draw)) (C_law_known : Cal P w K mg base CX0 2 "_law_known" ["pool"] (spP K D_law_known)) (C_law_chart : Cal P w K mg base CX0 2 "_law_chart" ["pool", "widest"] (spP K D_law_chart)) (T : Tx mg) : FnOk P w K mg base CX0 3 f fd ["pool", "widest"] (spP K D_law_case) := by
  refine F.ok sc_law_case (fun vs H Q E h => len_p (N := N_law_case) h) (fun cdv A outer s H vs Q E hr h => ⟨_, PSs.nox ((pss_cons (ps_if (pt_cmpR (r := rEqD K) (op_eqD hr.units) (pe_cal C_law_draw hr rfl (pa_cons (pv 0) (pa_cons pe_int pa_nil))) pe_int (nomark _))
 (pss_one (ps_ret (pe_cal C_law_known hr rfl (pa_cons (pv 0) pa_nil))))
 pss_nil)
 (pss_cons (ps_set (i := 2) sc_law_case.nd rfl (Or.inl rfl) (pe_cal C_law_chart hr rfl (pa_cons (pv 0) (pa_cons (pv 1) pa_nil))))
 (pss_cons (ps_par (i := 3) (j := 4) (by rfl) sc_law_case.nd rfl rfl (by decide) rfl rfl (pa_cons (pe_callTy (r := Evl.rListS K) call_list_of (by rfl) T.n_list (by decide +kernel) (pa_cons (pe_ix (r := rIxT K) ix_tup (pv 2) pe_int (fun _ _ => rfl)) pa_nil)) (pa_cons (pe_lst pa_nil) pa_nil)) (by rfl))
 (pss_cons (ps_while PassesOwn.never (pt_cmpR (r := rNeD K) (op_neD hr.units) (pv 3) (pe_lst pa_nil) (nomark _))
 (pss_one (ps_expr (pe_bmK (K := K) PySem.F.plainAttrs_list PySem.F.slot_list_append PySem.F.type_list_append mt_append (pv 4) (pa_cons (pe_bmK (K := K) PySem.F.plainAttrs_list PySem.F.slot_list_pop PySem.F.type_list_pop mt_popAt (pv 3) (pa_cons (pe_cal C_law_draw hr rfl (pa_cons (pv 0) (pa_cons (pe_callB (r := Evl.rLenS K) call_len_seq (by rfl) T.n_len (by decide +kernel) (pa_cons (pv 3) pa_nil)) pa_nil))) pa_nil)) pa_nil)))))
 (pss_cons (ps_set (i := 5) sc_law_case.nd rfl (Or.inl rfl) (pe_callB (call_min2 rfl) (by rfl) T.n_min (by decide +kernel) (pa_cons (pe_cal C_law_draw hr rfl (pa_cons (pv 0) (pa_cons pe_int pa_nil))) (pa_cons (pe_op op_sub (pe_callB (r := Evl.rLenS K) call_len_seq (by rfl) T.n_len (by decide +kernel) (pa_cons (pv 4) pa_nil)) pe_int) pa_nil))))
 (pss_one (ps_ret (pe_tup (pa_cons (pv 2) (pa_cons (pe_slice (r := rSlL K) sl_list (pv 4) po_none (po_some (pv 5))) (pa_cons (pe_slice (r := rSlL K) sl_list (pv 4) (po_some (pv 5)) (po_some (pe_op op_add (pe_op op_add (pv 5) pe_int) (pe_cal C_law_draw hr rfl (pa_cons (pv 0) (pa_cons pe_int pa_nil)))))) pa_nil)))))))))))),
    body_p (N := N_law_case) (ds_seq (ds_if (dt_t (de_op s_eq (DE.b (de_callP (da_cons (DE.s de_int) da_nil))) (DE.b de_int)))
 (ds_ret (de_callP da_nil))
 ds_nil)
 (ds_seq (ds_set (de_callP (da_cons (DE.s (de_var 1)) da_nil)))
 (ds_seq (ds_par (da_cons (DL.s (dl_list (DE.b (de_ixT (db_var 2) (DE.b de_int))))) (da_cons (DL.s (dl_lst da_nil)) da_nil)))
 (ds_seq (ds_while (dt_t (de_op s_ne (db_var 3) (DE.b (DL.e (dl_lst da_nil)))))
 (ds_drop (de_append (da_cons (DE.s (de_popAt (da_cons (DE.s (de_callP (da_cons (DE.s (de_b1 s_len (db_var 3))) da_nil))) da_nil))) da_nil))))
 (ds_seq (ds_set (de_min2 (DE.b (de_callP (da_cons (DE.s de_int) da_nil))) (DE.b (de_op s_sub (DE.b (de_b1 s_len (db_var 4))) (DE.b de_int)))))
 (ds_ret (de_tup (da_cons (DE.s (de_var 2)) (da_cons (DE.s (DL.e (dl_slice (db_var 4) do_none (do_some (de_var 5))))) (da_cons (DE.s (DL.e (dl_slice (db_var 4) (do_some (de_var 5)) (do_some (de_op s_add (DE.b (de_op s_add (db_var 5) (DE.b de_int))) (DE.b (de_callP (da_cons (DE.s de_int) da_nil)))))))) da_nil)))))))))) h⟩)
abbrev s_is_letter : Stmt := top 19
abbrev N_is_letter : List Str := ["name"]
theorem sc_is_letter : FnScope N_is_letter ["name"] (defScope s_is_letter) := ⟨rfl, rfl, rfl, by decide +kernel, rfl, by decide +kernel, by decide +kernel⟩
theorem ok_is_letter {f : Addr} {fd : FuncData} (F : FnP K "is_letter" "is_letter" s_is_letter f fd) (T : Tx mg) : FnOk P w K mg base CX0 1 f fd ["name"] (spD K D_is_letter) := by
  refine F.ok sc_is_letter (fun vs H Q E h => len_d (N := N_is_letter) h) (fun cdv A outer s H vs Q E hr h => ⟨_, PSs.nox ((pss_one (ps_ret (pe_and (pe_cmpR (r := rEqD K) (op_eqD hr.units) (pe_callB call_len_str (by rfl) T.n_len (by decide +kernel) (pa_cons (pv 0) pa_nil)) pe_int (nomark _)) (pe_one (pe_chain op_le_str op_le_str pe_str (pv 0) pe_str)))))),
    body_d (N := N_is_letter) (ds_ret (de_and (de_op s_eq (DE.b (de_b1 s_lenS (db_var 0))) (DE.b de_int)) (de_chain s_leS s_leS (DE.b de_str) (db_var 0) (DE.b de_str)))) h⟩)
abbrev s_check_things : Stmt := top 16
abbrev N_check_things : List Str := ["names", "at", "name"]
theorem sc_check_things : FnScope N_check_things ["names"] (defScope s_check_things) := ⟨rfl, rfl, rfl, by decide +kernel, rfl, by decide +kernel, by decide +kernel⟩
theorem ok_check_things {f : Addr} {fd : FuncData} (F : FnP K "check_things" "check_things" s_check_things f fd) (T : Tx mg) (C_is_letter : Cal P w K mg base CX0 1 "is_letter" ["name"] (spD K D_is_letter)) (T_InvalidName : ErrC K mg "InvalidName") (IE : ErrI P w K mg base) (hv_MOST_THINGS : ∃ t, mg "MOST_THINGS" = some (.int 6 t)) (T_InvalidNumber : ErrC K mg "InvalidNumber") : FnOk P w K mg base (L2.CX P w) 3 f fd ["names"] (spD K D_check_things) := by
  obtain ⟨t_MOST_THINGS, hc_MOST_THINGS⟩ := hv_MOST_THINGS
  refine F.ok sc_check_things (fun vs H Q E h => len_d (N := N_check_things) h) (fun cdv A outer s H vs Q E hr h => ⟨_, (pss_cons (ps_for (passes_of rfl) rfl (pi_enumK (K := K) (by rfl) T.n_enumerate (pa_cons (pv 0) pa_nil)) (pg_tupK (K := K) (n := 2) (pgs_cons (pg_name (i := 1) sc_check_things.nd rfl (Or.inl rfl)) (pgs_cons (pg_name (i := 2) sc_check_things.nd rfl (Or.inl rfl)) pgs_nil)))
 (pss_one (ps_if (PW.pt (pw_or (pt_not (pt_val (pe_cal C_is_letter hr rfl (pa_cons (pv 2) pa_nil)))) (pw_or1 (pt_cmpR (r := rInD K) (op_inD hr.units5) (pv 2) (pe_slice (r := rSlL K) sl_list (pv 0) po_none (po_some (pv 1))) (by rfl)))))
 (pss_one (ps_raise rfl (takes_of rfl rfl rfl rfl) (pmk_x IE T_InvalidName hr rfl (pa_cons (pv 2) pa_nil))))
 pss_nil)))
 (pss_one (ps_if (pt_not (pt_chain op_le op_le pe_int (pe_callB (r := Evl.rLenS K) call_len_seq (by rfl) T.n_len (by decide +kernel) (pa_cons (pv 0) pa_nil)) (pe_glob (v := .int 6) rfl hc_MOST_THINGS ⟨_, rfl⟩)))
 (pss_one (ps_raise rfl (takes_of rfl rfl rfl rfl) (pmk_x IE T_InvalidNumber hr rfl (pa_cons (pe_callB (r := Evl.rLenS K) call_len_seq (by rfl) T.n_len (by decide +kernel) (pa_cons (pv 0) pa_nil)) pa_nil))))
 pss_nil))),
    body_d (N := N_check_things) (ds_seq (ds_for (di_enum (da_cons (DE.s (de_var 0)) da_nil)) (dg_tup (dgs_cons (dg_name 1) (dgs_cons (dg_name 2) dgs_nil)))
 (ds_if (dt_or (dt_not (dt_b (de_call (da_cons (DE.s (de_var 2)) da_nil)))) (dt_t (de_op s_in (db_var 2) (DE.b (DL.e (dl_slice (db_var 0) do_none (do_some (de_var 1))))))))
 (ds_raise T_InvalidName (da_cons (DE.s (de_var 2)) da_nil))
 ds_nil))
 (ds_if (dt_not (dt_t (de_chain s_le s_le (DE.b de_int) (DE.b (de_b1 s_len (db_var 0))) (DE.b de_int))))
 (ds_raise T_InvalidNumber (da_cons (DE.s (de_b1 s_len (db_var 0))) da_nil))
 ds_nil)) h⟩)
abbrev s_things_leading : Stmt := top 21
abbrev N_things_leading : List Str := ["names", "arrows", "name", "found", "waiting", "thing", "one", "other"]
theorem sc_things_leading : FnScope N_things_leading ["names", "arrows", "name"] (defScope s_things_leading) := ⟨rfl, rfl, rfl, by decide +kernel, rfl, by decide +kernel, by decide +kernel⟩
theorem ok_things_leading {f : Addr} {fd : FuncData} (F : FnP K "things_leading" "things_leading" s_things_leading f fd)  : FnOk P w K mg base CX0 1 f fd ["names", "arrows", "name"] (spD K D_things_leading) := by
  refine F.ok sc_things_leading (fun vs H Q E h => len_d (N := N_things_leading) h) (fun cdv A outer s H vs Q E hr h => ⟨_, PSs.nox ((pss_cons (ps_set (i := 3) sc_things_leading.nd rfl (Or.inr rfl) (pe_disp (pps_cons (pv 2) pe_bl pps_nil) (by rfl) (by rfl) (fun z => by cases z) (by decide)))
 (pss_cons (ps_set (i := 4) sc_things_leading.nd rfl (Or.inl rfl) (pe_lst (pa_cons (pv 2) pa_nil)))
 (pss_cons (ps_while PassesOwn.never (pt_truth (pv 4) (by intro _; rfl))
 (pss_cons (ps_set (i := 5) sc_things_leading.nd rfl (Or.inl rfl) (pe_bm0K (K := K) PySem.F.plainAttrs_list PySem.F.slot_list_pop PySem.F.type_list_pop mt_pop (pv 4)))
 (pss_one (ps_for PassesOwn.never rfl (pi_listK (K := K) (pv 1)) (pg_tupK (K := K) (n := 2) (pgs_cons (pg_name (i := 6) sc_things_leading.nd rfl (Or.inl rfl)) (pgs_cons (pg_name (i := 7) sc_things_leading.nd rfl (Or.inl rfl)) pgs_nil)))
 (pss_one (ps_if (PW.pt (pw_and (pt_cmpR (r := rEqD K) (op_eqD hr.units) (pv 7) (pv 5) (nomark _)) (pw_and1 (pt_cmp (pc_dnotin (hu_of hr) (pv 6) (pv 3))))))
 (pss_cons (ps_dput (hu_of hr) (pv 3) (pv 6) pe_bl rfl)
 (pss_one (ps_expr (pe_bmK (K := K) PySem.F.plainAttrs_list PySem.F.slot_list_append PySem.F.type_list_append mt_append (pv 4) (pa_cons (pv 6) pa_nil)))))
 pss_nil))))))
 (pss_one (ps_ret (pe_lc (own := [("thing", 5)]) (by rfl) sc_things_leading.nd (pi_listK (K := K) (pv 0)) (blkOk_by (own := [("thing", 5)]) (N := N_things_leading) (sc := defScope s_things_leading) (by decide +kernel)) (fun _ _ _ _ _ => (pg_name (i := 5) sc_things_leading.nd rfl (Or.inl rfl))) (fun _ _ _ _ _ => (pts_one (pt_cmp (pc_din (hu_of hr) (pv 5) (pv 3))))) (fun _ _ _ _ _ => (pv 5))))))))),
    body_d (N := N_things_leading) (ds_seq (ds_setD (dd_disp1 (de_var 2) de_bl))
 (ds_seq (ds_setO (dl_lst (da_cons (DE.s (de_var 2)) da_nil)))
 (ds_seq (ds_while (dt_tru (db_var 4))
 (ds_seq (ds_set de_pop)
 (ds_for (di_list (de_var 1)) (dg_tup (dgs_cons (dg_name 6) (dgs_cons (dg_name 7) dgs_nil)))
 (ds_if (dt_and (dt_t (de_op s_eq (db_var 7) (db_var 5))) (dt_b (de_dnotin (de_var 6) (db_var 3))))
 (ds_seq (ds_put 3 (de_var 6) de_bl)
 (ds_drop (de_append (da_cons (DE.s (de_var 6)) da_nil))))
 ds_nil))))
 (ds_ret (DL.e (dl_lc (vs := [5]) (di_list (de_var 0)) (dg_name 5) (by decide) (dt_b (de_din (de_var 5) (db_var 3))) (de_var 5))))))) h⟩)
abbrev s_are_two : Stmt := top 20
abbrev N_are_two : List Str := ["names", "one", "other"]
theorem sc_are_two : FnScope N_are_two ["names", "one", "other"] (defScope s_are_two) := ⟨rfl, rfl, rfl, by decide +kernel, rfl, by decide +kernel, by decide +kernel⟩
theorem ok_are_two {f : Addr} {fd : FuncData} (F : FnP K "are_two" "are_two" s_are_two f fd)  : FnOk P w K mg base CX0 1 f fd ["names", "one", "other"] (spD K D_are_two) := by
  refine F.ok sc_are_two (fun vs H Q E h => len_d (N := N_are_two) h) (fun cdv A outer s H vs Q E hr h => ⟨_, PSs.nox ((pss_one (ps_ret (pe_and (pe_cmpR (r := rInD K) (op_inD hr.units5) (pv 1) (pv 0) (by rfl)) (pe_and (pe_cmpR (r := rInD K) (op_inD hr.units5) (pv 2) (pv 0) (by rfl)) (pe_one (pe_cmpR (r := rNeD K) (op_neD hr.units) (pv 1) (pv 2) (nomark _)))))))),
    body_d (N := N_are_two) (ds_ret (de_and (de_op s_in (db_var 1) (db_var 0)) (de_and (de_op s_in (db_var 2) (db_var 0)) (de_op s_ne (db_var 1) (db_var 2))))) h⟩)
abbrev s_check_arrows : Stmt := top 17
abbrev N_check_arrows : List Str := ["names", "arrows", "at", "one", "other", "ahead"]
theorem sc_check_arrows : FnScope N_check_arrows ["names", "arrows"] (defScope s_check_arrows) := ⟨rfl, rfl, rfl, by decide +kernel, rfl, by decide +kernel, by decide +kernel⟩
theorem ok_check_arrows {f : Addr} {fd : FuncData} (F : FnP K "check_arrows" "check_arrows" s_check_arrows f fd) (T : Tx mg) (C_are_two : Cal P w K mg base CX0 1 "are_two" ["names", "one", "other"] (spD K D_are_two)) (T_InvalidArrow : ErrC K mg "InvalidArrow") (IE : ErrI P w K mg base) (C_things_leading : Cal P w K mg base CX0 1 "things_leading" ["names", "arrows", "name"] (spD K D_things_leading)) : FnOk P w K mg base (L2.CX P w) 3 f fd ["names", "arrows"] (spD K D_check_arrows) := by
  refine F.ok sc_check_arrows (fun vs H Q E h => len_d (N := N_check_arrows) h) (fun cdv A outer s H vs Q E hr h => ⟨_, (pss_one (ps_for (passes_of rfl) rfl (pi_enumK (K := K) (by rfl) T.n_enumerate (pa_cons (pv 1) pa_nil)) (pg_tupK (K := K) (n := 2) (pgs_cons (pg_name (i := 2) sc_check_arrows.nd rfl (Or.inl rfl)) (pgs_cons (pg_tupK (K := K) (n := 2) (pgs_cons (pg_name (i := 3) sc_check_arrows.nd rfl (Or.inl rfl)) (pgs_cons (pg_name (i := 4) sc_check_arrows.nd rfl (Or.inl rfl)) pgs_nil))) pgs_nil)))
 (pss_cons (ps_set (i := 5) sc_check_arrows.nd rfl (Or.inl rfl) (pe_slice (r := rSlL K) sl_list (pv 1) po_none (po_some (pv 2))))
 (pss_cons (ps_if (PW.pt (pw_or (pt_not (pt_val (pe_cal C_are_two hr rfl (pa_cons (pv 0) (pa_cons (pv 3) (pa_cons (pv 4) pa_nil)))))) (pw_or1 (pt_cmpR (r := rInD K) (op_inD hr.units5) (pe_tup (pa_cons (pv 3) (pa_cons (pv 4) pa_nil))) (pv 5) (by rfl)))))
 (pss_one (ps_raise rfl (takes_of rfl rfl rfl rfl) (pmk_x IE T_InvalidArrow hr rfl (pa_cons (pe_tup (pa_cons (pv 3) (pa_cons (pv 4) pa_nil))) pa_nil))))
 pss_nil)
 (pss_one (ps_if (pt_cmpR (r := rInD K) (op_inD hr.units5) (pv 4) (pe_cal C_things_leading hr rfl (pa_cons (pv 0) (pa_cons (pv 5) (pa_cons (pv 3) pa_nil)))) (by rfl))
 (pss_one (ps_raise rfl (takes_of rfl rfl rfl rfl) (pmk_x IE T_InvalidArrow hr rfl (pa_cons (pe_tup (pa_cons (pv 3) (pa_cons (pv 4) pa_nil))) pa_nil))))
 pss_nil)))))),
    body_d (N := N_check_arrows) (ds_for (di_enum (da_cons (DE.s (de_var 1)) da_nil)) (dg_tup (dgs_cons (dg_name 2) (dgs_cons (dg_tup (dgs_cons (dg_name 3) (dgs_cons (dg_name 4) dgs_nil))) dgs_nil)))
 (ds_seq (ds_set (DL.e (dl_slice (db_var 1) do_none (do_some (de_var 2)))))
 (ds_seq (ds_if (dt_or (dt_not (dt_b (de_call (da_cons (DE.s (de_var 0)) (da_cons (DE.s (de_var 3)) (da_cons (DE.s (de_var 4)) da_nil)))))) (dt_t (de_op s_in (DE.b (de_tup (da_cons (DE.s (de_var 3)) (da_cons (DE.s (de_var 4)) da_nil)))) (db_var 5))))
 (ds_raise T_InvalidArrow (da_cons (DE.s (de_tup (da_cons (DE.s (de_var 3)) (da_cons (DE.s (de_var 4)) da_nil)))) da_nil))
 ds_nil)
 (ds_if (dt_t (de_op s_in (db_var 4) (DE.b (de_call (da_cons (DE.s (de_var 0)) (da_cons (DE.s (de_var 5)) (da_cons (DE.s (de_var 3)) da_nil)))))))
 (ds_raise T_InvalidArrow (da_cons (DE.s (de_tup (da_cons (DE.s (de_var 3)) (da_cons (DE.s (de_var 4)) da_nil)))) da_nil))
 ds_nil)))) h⟩)
abbrev s_check_pairs : Stmt := top 18
abbrev N_check_pairs : List Str := ["names", "pairs", "at", "one", "other", "ahead"]
theorem sc_check_pairs : FnScope N_check_pairs ["names", "pairs"] (defScope s_check_pairs) := ⟨rfl, rfl, rfl, by decide +kernel, rfl, by decide +kernel, by decide +kernel⟩
theorem ok_check_pairs {f : Addr} {fd : FuncData} (F : FnP K "check_pairs" "check_pairs" s_check_pairs f fd) (T : Tx mg) (C_are_two : Cal P w K mg base CX0 1 "are_two" ["names", "one", "other"] (spD K D_are_two)) (T_InvalidPair : ErrC K mg "InvalidPair") (IE : ErrI P w K mg base) : FnOk P w K mg base (L2.CX P w) 3 f fd ["names", "pairs"] (spD K D_check_pairs) := by
  refine F.ok sc_check_pairs (fun vs H Q E h => len_d (N := N_check_pairs) h) (fun cdv A outer s H vs Q E hr h => ⟨_, (pss_one (ps_for (passes_of rfl) rfl (pi_enumK (K := K) (by rfl) T.n_enumerate (pa_cons (pv 1) pa_nil)) (pg_tupK (K := K) (n := 2) (pgs_cons (pg_name (i := 2) sc_check_pairs.nd rfl (Or.inl rfl)) (pgs_cons (pg_tupK (K := K) (n := 2) (pgs_cons (pg_name (i := 3) sc_check_pairs.nd rfl (Or.inl rfl)) (pgs_cons (pg_name (i := 4) sc_check_pairs.nd rfl (Or.inl rfl)) pgs_nil))) pgs_nil)))
 (pss_cons (ps_set (i := 5) sc_check_pairs.nd rfl (Or.inl rfl) (pe_slice (r := rSlL K) sl_list (pv 1) po_none (po_some (pv 2))))
 (pss_one (ps_if (PW.pt (pw_or (pt_not (pt_val (pe_cal C_are_two hr rfl (pa_cons (pv 0) (pa_cons (pv 3) (pa_cons (pv 4) pa_nil)))))) (pw_or (pt_cmpR (r := rInD K) (op_inD hr.units5) (pe_tup (pa_cons (pv 3) (pa_cons (pv 4) pa_nil))) (pv 5) (by rfl)) (pw_or1 (pt_cmpR (r := rInD K) (op_inD hr.units5) (pe_tup (pa_cons (pv 4) (pa_cons (pv 3) pa_nil))) (pv 5) (by rfl))))))
 (pss_one (ps_raise rfl (takes_of rfl rfl rfl rfl) (pmk_x IE T_InvalidPair hr rfl (pa_cons (pe_tup (pa_cons (pv 3) (pa_cons (pv 4) pa_nil))) pa_nil))))
 pss_nil))))),
    body_d (N := N_check_pairs) (ds_for (di_enum (da_cons (DE.s (de_var 1)) da_nil)) (dg_tup (dgs_cons (dg_name 2) (dgs_cons (dg_tup (dgs_cons (dg_name 3) (dgs_cons (dg_name 4) dgs_nil))) dgs_nil)))
 (ds_seq (ds_set (DL.e (dl_slice (db_var 1) do_none (do_some (de_var 2)))))
 (ds_if (dt_or (dt_not (dt_b (de_call (da_cons (DE.s (de_var 0)) (da_cons (DE.s (de_var 3)) (da_cons (DE.s (de_var 4)) da_nil)))))) (dt_or (dt_t (de_op s_in (DE.b (de_tup (da_cons (DE.s (de_var 3)) (da_cons (DE.s (de_var 4)) da_nil)))) (db_var 5))) (dt_t (de_op s_in (DE.b (de_tup (da_cons (DE.s (de_var 4)) (da_cons (DE.s (de_var 3)) da_nil)))) (db_var 5)))))
 (ds_raise T_InvalidPair (da_cons (DE.s (de_tup (da_cons (DE.s (de_var 3)) (da_cons (DE.s (de_var 4)) da_nil)))) da_nil))
 ds_nil))) h⟩)
abbrev s_Diagram___init : Stmt := inClass (top 15) 0
abbrev N_Diagram___init : List Str := ["self", "names", "arrows", "pairs"]
theorem sc_Diagram___init : FnScope N_Diagram___init ["self", "names", "arrows", "pairs"] (defScope s_Diagram___init) := ⟨rfl, rfl, rfl, by decide +kernel, rfl, by decide +kernel, by decide +kernel⟩
theorem ok_Diagram___init {f : Addr} {fd : FuncData} (F : FnP K "__init__" "Diagram.__init__" s_Diagram___init f fd) (C_check_things : Cal P w K mg base (L2.CX P w) 3 "check_things" ["names"] (spD K D_check_things)) (C_check_arrows : Cal P w K mg base (L2.CX P w) 3 "check_arrows" ["names", "arrows"] (spD K D_check_arrows)) (C_check_pairs : Cal P w K mg base (L2.CX P w) 3 "check_pairs" ["names", "pairs"] (spD K D_check_pairs)) (T : Tx mg) (A_Diagram_names : NoAttr K (ga K "Diagram") "_names") (CC_Diagram : Cls K (ga K "Diagram")) (A_Diagram_arrows : NoAttr K (ga K "Diagram") "_arrows") (A_Diagram_pairs : NoAttr K (ga K "Diagram") "_pairs") : FnOk P w K mg base (L2.CX P w) 4 f fd ["self", "names", "arrows", "pairs"] (spI K "Diagram" D_Diagram_init) := by
  refine F.ok sc_Diagram___init (fun vs H Q E h => len_i (N := N_Diagram___init) h) (fun cdv A outer s H vs Q E hr h => ⟨_, (pss_cons (ps_expr (pe_calX C_check_things hr rfl (takes_of rfl rfl rfl rfl) (pa_cons (pv 1) pa_nil)))
 (pss_cons (ps_expr (pe_calX C_check_arrows hr rfl (takes_of rfl rfl rfl rfl) (pa_cons (pv 1) (pa_cons (pv 2) pa_nil))))
 (pss_cons (ps_expr (pe_calX C_check_pairs hr rfl (takes_of rfl rfl rfl rfl) (pa_cons (pv 1) (pa_cons (pv 3) pa_nil))))
 (pss_cons (ps_fldK (K := K) (pv 0) (pe_callTy (r := Evl.rListS K) call_list_of (by rfl) T.n_list (by decide +kernel) (pa_cons (pv 1) pa_nil)))
 (pss_cons (ps_fldK (K := K) (pv 0) (pe_callTy (r := Evl.rListS K) call_list_of (by rfl) T.n_list (by decide +kernel) (pa_cons (pv 2) pa_nil)))
 (pss_one (ps_fldK (K := K) (pv 0) (pe_callTy (r := Evl.rListS K) call_list_of (by rfl) T.n_list (by decide +kernel) (pa_cons (pv 3) pa_nil))))))))),
    body_i (N := N_Diagram___init) (ds_seq (ds_drop (de_callX (da_cons (DE.s (de_var 1)) da_nil)))
 (ds_seq (ds_drop (de_callX (da_cons (DE.s (de_var 1)) (da_cons (DE.s (de_var 2)) da_nil))))
 (ds_seq (ds_drop (de_callX (da_cons (DE.s (de_var 1)) (da_cons (DE.s (de_var 3)) da_nil))))
 (ds_seq (ds_self CC_Diagram A_Diagram_names (DL.e (dl_list (db_var 1))))
 (ds_seq (ds_self CC_Diagram A_Diagram_arrows (DL.e (dl_list (db_var 2))))
 (ds_self CC_Diagram A_Diagram_pairs (DL.e (dl_list (db_var 3))))))))) h⟩)
abbrev s_law_made : Stmt := top 40
abbrev N_law_made : List Str := ["chart"]
theorem sc_law_made : FnScope N_law_made ["chart"] (defScope s_law_made) := ⟨rfl, rfl, rfl, by decide +kernel, rfl, by decide +kernel, by decide +kernel⟩
theorem ok_law_made {f : Addr} {fd : FuncData} (F : FnP K "_law_made" "_law_made" s_law_made f fd) (T : Tx mg) (C_Diagram : CalC P w K mg base (L2.CX P w) 4 "Diagram" (ga K "Diagram") ["self", "names", "arrows", "pairs"] (spI K "Diagram" D_Diagram_init)) : FnOk P w K mg base CX0 6 f fd ["chart"] (spD K D_law_made) := by
  refine F.ok sc_law_made (fun vs H Q E h => len_d (N := N_law_made) h) (fun cdv A outer s H vs Q E hr h => ⟨_, PSs.nox ((pss_one (ps_ret (pe_mkN C_Diagram hr rfl (pa_cons (pe_callTy (r := Evl.rListS K) call_list_of (by rfl) T.n_list (by decide +kernel) (pa_cons (pe_ix (r := rIxT K) ix_tup (pv 0) pe_int (fun _ _ => rfl)) pa_nil)) (pa_cons (pe_callTy (r := Evl.rListS K) call_list_of (by rfl) T.n_list (by decide +kernel) (pa_cons (pe_ix (r := rIxT K) ix_tup (pv 0) pe_int (fun _ _ => rfl)) pa_nil)) (pa_cons (pe_callTy (r := Evl.rListS K) call_list_of (by rfl) T.n_list (by decide +kernel) (pa_cons (pe_ix (r := rIxT K) ix_tup (pv 0) pe_int (fun _ _ => rfl)) pa_nil)) pa_nil))))))),
    body_d (N := N_law_made) (ds_ret (de_make (da_cons (DE.s (DL.e (dl_list (DE.b (de_ixT (db_var 0) (DE.b de_int)))))) (da_cons (DE.s (DL.e (dl_list (DE.b (de_ixT (db_var 0) (DE.b de_int)))))) (da_cons (DE.s (DL.e (dl_list (DE.b (de_ixT (db_var 0) (DE.b de_int)))))) da_nil))))) h⟩)
abbrev s_law_subsets : Stmt := top 46
abbrev N_law_subsets : List Str := ["amount", "found", "bits_here", "pair", "at", "some"]
theorem sc_law_subsets : FnScope N_law_subsets ["amount"] (defScope s_law_subsets) := ⟨rfl, rfl, rfl, by decide +kernel, rfl, by decide +kernel, by decide +kernel⟩
theorem ok_law_subsets {f : Addr} {fd : FuncData} (F : FnP K "_law_subsets" "_law_subsets" s_law_subsets f fd) (T : Tx mg) : FnOk P w K mg base CX0 1 f fd ["amount"] (spD K D_law_subsets) := by
  refine F.ok sc_law_subsets (fun vs H Q E h => len_d (N := N_law_subsets) h) (fun cdv A outer s H vs Q E hr h => ⟨_, PSs.nox ((pss_cons (ps_set (i := 1) sc_law_subsets.nd rfl (Or.inl rfl) (pe_lst pa_nil))
 (pss_cons (ps_for PassesOwn.never rfl (pi_range1 (by rfl) T.n_range (pa_cons (pe_op op_shl pe_int (pv 0)) pa_nil)) (pg_name (i := 2) sc_law_subsets.nd rfl (Or.inr rfl))
 (pss_one (ps_expr (pe_bmK (K := K) PySem.F.plainAttrs_list PySem.F.slot_list_append PySem.F.type_list_append mt_append (pv 1) (pa_cons (pe_lc (own := [("at", 4)]) (by rfl) sc_law_subsets.nd (pi_range1 (by rfl) T.n_range (pa_cons (pv 0) pa_nil)) (blkOk_by (own := [("at", 4)]) (N := N_law_subsets) (sc := defScope s_law_subsets) (by decide +kernel)) (fun _ _ _ _ _ => (pg_name (i := 4) sc_law_subsets.nd rfl (Or.inl rfl))) (fun _ _ _ _ _ => (pts_one (pt_cmpR (r := rEqD K) (op_eqD hr.units) (pe_op op_mod (pe_callTy call_int1 (by rfl) T.n_int (by decide +kernel) (pa_cons (pe_op op_shr (pv 2) (pv 4)) pa_nil)) pe_int) pe_int (nomark _)))) (fun _ _ _ _ _ => (pv 4))) pa_nil)))))
 (pss_one (ps_ret (pe_lc (own := [("pair", 3)]) (by rfl) sc_law_subsets.nd (pi_listK (K := K) (pe_callB (r := rSortD K) (cr_sortD hr.units) (by rfl) T.n_sorted (by decide +kernel) (pa_cons (pe_lc (own := [("some", 5)]) (by rfl) sc_law_subsets.nd (pi_listK (K := K) (pv 1)) (blkOk_by (own := [("some", 5)]) (N := N_law_subsets) (sc := defScope s_law_subsets) (by decide +kernel)) (fun _ _ _ _ _ => (pg_name (i := 5) sc_law_subsets.nd rfl (Or.inl rfl))) (fun _ _ _ _ _ => pts_nil) (fun _ _ _ _ _ => (pe_tup (pa_cons (pe_callB (r := Evl.rLenS K) call_len_seq (by rfl) T.n_len (by decide +kernel) (pa_cons (pv 5) pa_nil)) (pa_cons (pv 5) pa_nil))))) pa_nil))) (blkOk_by (own := [("pair", 3)]) (N := N_law_subsets) (sc := defScope s_law_subsets) (by decide +kernel)) (fun _ _ _ _ _ => (pg_name (i := 3) sc_law_subsets.nd rfl (Or.inl rfl))) (fun _ _ _ _ _ => pts_nil) (fun _ _ _ _ _ => (pe_ix (r := rIxT K) ix_tup (pv 3) pe_int (fun _ _ => rfl))))))))),
    body_d (N := N_law_subsets) (ds_seq (ds_setO (dl_lst da_nil))
 (ds_seq (ds_for (di_rng1 (da_cons (DE.s (de_op s_shl (DE.b de_int) (db_var 0))) da_nil)) (dg_name 2)
 (ds_drop (de_append (da_cons (DE.s (DL.e (dl_lc (vs := [4]) (di_rng1 (da_cons (DE.s (de_var 0)) da_nil)) (dg_name 4) (by decide) (dt_t (de_op s_eq (DE.b (de_op s_mod (DE.b (de_b1 s_int (DE.b (de_op s_shr (db_var 2) (db_var 4))))) (DE.b de_int))) (DE.b de_int))) (de_var 4)))) da_nil))))
 (ds_ret (DL.e (dl_lc (vs := [3]) (di_list (DL.e (dl_sort (DE.b (DL.e (dl_lcO (vs := [5]) (dg_name 5) (by decide) dt_yes (de_tup (da_cons (DE.s (de_b1 s_len (db_var 5))) (da_cons (DE.s (de_var 5)) da_nil))))))))) (dg_name 3) (by decide) dt_yes (de_ixT (db_var 3) (DE.b de_int))))))) h⟩)
abbrev s_law_leads : Stmt := top 41
abbrev N_law_leads : List Str := ["chart", "goals", "within", "found", "size", "start", "end", "thing"]
theorem sc_law_leads : FnScope N_law_leads ["chart", "goals", "within"] (defScope s_law_leads) := ⟨rfl, rfl, rfl, by decide +kernel, rfl, by decide +kernel, by decide +kernel⟩
theorem ok_law_leads {f : Addr} {fd : FuncData} (F : FnP K "_law_leads" "_law_leads" s_law_leads f fd) (T : Tx mg) : FnOk P w K mg base CX0 1 f fd ["chart", "goals", "within"] (spD K D_law_leads) := by
  refine F.ok sc_law_leads (fun vs H Q E h => len_d (N := N_law_leads) h) (fun cdv A outer s H vs Q E hr h => ⟨_, PSs.nox ((pss_cons (ps_asg (pe_tup (pa_cons (pe_callTy (r := Evl.rListS K) call_list_of (by rfl) T.n_list (by decide +kernel) (pa_cons (pv 1) pa_nil)) (pa_cons (pe_un un_neg pe_int) pa_nil))) (pg_tupK (K := K) (n := 2) (pgs_cons (pg_name (i := 3) sc_law_leads.nd rfl (Or.inr rfl)) (pgs_cons (pg_name (i := 4) sc_law_leads.nd rfl (Or.inl rfl)) pgs_nil))))
 (pss_cons (ps_while PassesOwn.never (pt_cmpR (r := rNeD K) (op_neD hr.units) (pv 4) (pe_callB (r := Evl.rLenS K) call_len_seq (by rfl) T.n_len (by decide +kernel) (pa_cons (pv 3) pa_nil)) (nomark _))
 (pss_cons (ps_set (i := 4) sc_law_leads.nd rfl (Or.inl rfl) (pe_callB (r := Evl.rLenS K) call_len_seq (by rfl) T.n_len (by decide +kernel) (pa_cons (pv 3) pa_nil)))
 (pss_one (ps_for PassesOwn.never rfl (pi_listK (K := K) (pe_ix (r := rIxT K) ix_tup (pv 0) pe_int (fun _ _ => rfl))) (pg_tupK (K := K) (n := 2) (pgs_cons (pg_name (i := 5) sc_law_leads.nd rfl (Or.inl rfl)) (pgs_cons (pg_name (i := 6) sc_law_leads.nd rfl (Or.inl rfl)) pgs_nil)))
 (pss_one (ps_if (PW.pt (pw_and (pt_cmpR (r := rInD K) (op_inD hr.units5) (pv 6) (pv 3) (by rfl)) (pw_and (pt_cmpR (r := rInD K) (op_inD hr.units5) (pv 5) (pv 2) (by rfl)) (pw_and1 (pt_cmpR (r := rNotInD K) (op_notInD hr.units5) (pv 5) (pv 3) (by rfl))))))
 (pss_one (ps_expr (pe_bmK (K := K) PySem.F.plainAttrs_list PySem.F.slot_list_append PySem.F.type_list_append mt_append (pv 3) (pa_cons (pv 5) pa_nil))))
 pss_nil))))))
 (pss_one (ps_ret (pe_lc (own := [("thing", 7)]) (by rfl) sc_law_leads.nd (pi_listK (K := K) (pe_ix (r := rIxT K) ix_tup (pv 0) pe_int (fun _ _ => rfl))) (blkOk_by (own := [("thing", 7)]) (N := N_law_leads) (sc := defScope s_law_leads) (by decide +kernel)) (fun _ _ _ _ _ => (pg_name (i := 7) sc_law_leads.nd rfl (Or.inl rfl))) (fun _ _ _ _ _ => (pts_one (pt_cmpR (r := rInD K) (op_inD hr.units5) (pv 7) (pv 3) (by rfl)))) (fun _ _ _ _ _ => (pv 7)))))))),
    body_d (N := N_law_leads) (ds_seq (ds_tupPar (is := [3, 4]) (da_cons (DL.s (dl_list (db_var 1))) (da_cons (DE.s (de_un s_neg (DE.b de_int))) da_nil)))
 (ds_seq (ds_while (dt_t (de_op s_ne (db_var 4) (DE.b (de_b1 s_len (db_var 3)))))
 (ds_seq (ds_set (de_b1 s_len (db_var 3)))
 (ds_for (di_list (de_ixT (db_var 0) (DE.b de_int))) (dg_tup (dgs_cons (dg_name 5) (dgs_cons (dg_name 6) dgs_nil)))
 (ds_if (dt_and (dt_t (de_op s_in (db_var 6) (db_var 3))) (dt_and (dt_t (de_op s_in (db_var 5) (db_var 2))) (dt_t (de_op s_notIn (db_var 5) (db_var 3)))))
 (ds_drop (de_append (da_cons (DE.s (de_var 5)) da_nil)))
 ds_nil))))
 (ds_ret (DL.e (dl_lc (vs := [7]) (di_list (de_ixT (db_var 0) (DE.b de_int))) (dg_name 7) (by decide) (dt_t (de_op s_in (db_var 7) (db_var 3))) (de_var 7)))))) h⟩)
abbrev s_law_group : Stmt := top 42
abbrev N_law_group : List Str := ["chart", "thing", "within", "found", "size", "left", "right", "some"]
theorem sc_law_group : FnScope N_law_group ["chart", "thing", "within"] (defScope s_law_group) := ⟨rfl, rfl, rfl, by decide +kernel, rfl, by decide +kernel, by decide +kernel⟩
theorem ok_law_group {f : Addr} {fd : FuncData} (F : FnP K "_law_group" "_law_group" s_law_group f fd) (T : Tx mg) : FnOk P w K mg base CX0 1 f fd ["chart", "thing", "within"] (spD K D_law_group) := by
  refine F.ok sc_law_group (fun vs H Q E h => len_d (N := N_law_group) h) (fun cdv A outer s H vs Q E hr h => ⟨_, PSs.nox ((pss_cons (ps_asg (pe_tup (pa_cons (pe_lst (pa_cons (pv 1) pa_nil)) (pa_cons (pe_un un_neg pe_int) pa_nil))) (pg_tupK (K := K) (n := 2) (pgs_cons (pg_name (i := 3) sc_law_group.nd rfl (Or.inr rfl)) (pgs_cons (pg_name (i := 4) sc_law_group.nd rfl (Or.inl rfl)) pgs_nil))))
 (pss_cons (ps_while PassesOwn.never (pt_cmpR (r := rNeD K) (op_neD hr.units) (pv 4) (pe_callB (r := Evl.rLenS K) call_len_seq (by rfl) T.n_len (by decide +kernel) (pa_cons (pv 3) pa_nil)) (nomark _))
 (pss_cons (ps_set (i := 4) sc_law_group.nd rfl (Or.inl rfl) (pe_callB (r := Evl.rLenS K) call_len_seq (by rfl) T.n_len (by decide +kernel) (pa_cons (pv 3) pa_nil)))
 (pss_one (ps_for PassesOwn.never rfl (pi_listK (K := K) (pe_ix (r := rIxT K) ix_tup (pv 0) pe_int (fun _ _ => rfl))) (pg_tupK (K := K) (n := 2) (pgs_cons (pg_name (i := 5) sc_law_group.nd rfl (Or.inl rfl)) (pgs_cons (pg_name (i := 6) sc_law_group.nd rfl (Or.inl rfl)) pgs_nil)))
 (pss_one (ps_if (PW.pt (pw_and (pt_cmpR (r := rInD K) (op_inD hr.units5) (pv 5) (pv 2) (by rfl)) (pw_and (pt_cmpR (r := rInD K) (op_inD hr.units5) (pv 6) (pv 2) (by rfl)) (pw_and1 (pt_cmpR (r := rNeD K) (op_neD hr.units) (pe_cmpR (r := rInD K) (op_inD hr.units5) (pv 5) (pv 3) (by rfl)) (pe_cmpR (r := rInD K) (op_inD hr.units5) (pv 6) (pv 3) (by rfl)) (nomark _))))))
 (pss_one (ps_expr (pe_bmK (K := K) PySem.F.plainAttrs_list PySem.F.slot_list_append PySem.F.type_list_append mt_append (pv 3) (pa_cons (pe_ifExp (pt_cmpR (r := rInD K) (op_inD hr.units5) (pv 5) (pv 3) (by rfl)) (pv 6) (pv 5)) pa_nil))))
 pss_nil))))))
 (pss_one (ps_ret (pe_lc (own := [("some", 7)]) (by rfl) sc_law_group.nd (pi_listK (K := K) (pe_ix (r := rIxT K) ix_tup (pv 0) pe_int (fun _ _ => rfl))) (blkOk_by (own := [("some", 7)]) (N := N_law_group) (sc := defScope s_law_group) (by decide +kernel)) (fun _ _ _ _ _ => (pg_name (i := 7) sc_law_group.nd rfl (Or.inl rfl))) (fun _ _ _ _ _ => (pts_one (pt_cmpR (r := rInD K) (op_inD hr.units5) (pv 7) (pv 3) (by rfl)))) (fun _ _ _ _ _ => (pv 7)))))))),
    body_d (N := N_law_group) (ds_seq (ds_tupPar (is := [3, 4]) (da_cons (DL.s (dl_lst (da_cons (DE.s (de_var 1)) da_nil))) (da_cons (DE.s (de_un s_neg (DE.b de_int))) da_nil)))
 (ds_seq (ds_while (dt_t (de_op s_ne (db_var 4) (DE.b (de_b1 s_len (db_var 3)))))
 (ds_seq (ds_set (de_b1 s_len (db_var 3)))
 (ds_for (di_list (de_ixT (db_var 0) (DE.b de_int))) (dg_tup (dgs_cons (dg_name 5) (dgs_cons (dg_name 6) dgs_nil)))
 (ds_if (dt_and (dt_t (de_op s_in (db_var 5) (db_var 2))) (dt_and (dt_t (de_op s_in (db_var 6) (db_var 2))) (dt_t (de_op s_ne (DE.b (de_op s_in (db_var 5) (db_var 3))) (DE.b (de_op s_in (db_var 6) (db_var 3)))))))
 (ds_drop (de_append (da_cons (DE.s (de_if (dt_t (de_op s_in (db_var 5) (db_var 3))) (de_var 6) (de_var 5))) da_nil)))
 ds_nil))))
 (ds_ret (DL.e (dl_lc (vs := [7]) (di_list (de_ixT (db_var 0) (DE.b de_int))) (dg_name 7) (by decide) (dt_t (de_op s_in (db_var 7) (db_var 3))) (de_var 7)))))) h⟩)
abbrev s_law_wanted : Stmt := top 43
abbrev N_law_wanted : List Str := ["chart", "acted_here", "asked_here", "thing", "rest_here", "within", "found", "some"]
theorem sc_law_wanted : FnScope N_law_wanted ["chart", "acted_here", "asked_here"] (defScope s_law_wanted) := ⟨rfl, rfl, rfl, by decide +kernel, rfl, by decide +kernel, by decide +kernel⟩
theorem ok_law_wanted {f : Addr} {fd : FuncData} (F : FnP K "_law_wanted" "_law_wanted" s_law_wanted f fd) (C_law_leads : Cal P w K mg base CX0 1 "_law_leads" ["chart", "goals", "within"] (spD K D_law_leads)) (C_law_group : Cal P w K mg base CX0 1 "_law_group" ["chart", "thing", "within"] (spD K D_law_group)) : FnOk P w K mg base CX0 2 f fd ["chart", "acted_here", "asked_here"] (spD K D_law_wanted) := by
  refine F.ok sc_law_wanted (fun vs H Q E h => len_d (N := N_law_wanted) h) (fun cdv A outer s H vs Q E hr h => ⟨_, PSs.nox ((pss_cons (ps_setLc (i := 4) (own := [("thing", 3)]) (by rfl) sc_law_wanted.nd rfl rfl (sw_true rfl rfl rfl (by decide +kernel)) (pi_listK (K := K) (pe_ix (r := rIxT K) ix_tup (pv 0) pe_int (fun _ _ => rfl))) (blkOk_by (own := [("thing", 3)]) (N := N_law_wanted) (sc := defScope s_law_wanted) (by decide +kernel)) (fun _ _ _ _ _ => (pg_name (i := 3) sc_law_wanted.nd rfl (Or.inl rfl))) (fun _ _ _ _ _ => (pts_one (pt_cmpR (r := rNotInD K) (op_notInD hr.units5) (pv 3) (pv 1) (by rfl)))) (fun _ _ _ _ _ => (pv 3)))
 (pss_cons (ps_par (i := 5) (j := 6) (by rfl) sc_law_wanted.nd rfl rfl (by decide) rfl rfl (pa_cons (pe_cal C_law_leads hr rfl (pa_cons (pv 0) (pa_cons (pv 2) (pa_cons (pv 4) pa_nil)))) (pa_cons (pe_lst pa_nil) pa_nil)) (by rfl))
 (pss_cons (ps_for PassesOwn.never rfl (pi_listK (K := K) (pv 5)) (pg_name (i := 3) sc_law_wanted.nd rfl (Or.inr rfl))
 (pss_one (ps_if (pt_cmpR (r := rEqD K) (op_eqD hr.units) (pe_lc (own := [("some", 7)]) (by rfl) sc_law_wanted.nd (pi_listK (K := K) (pv 6)) (blkOk_by (own := [("some", 7)]) (N := N_law_wanted) (sc := defScope s_law_wanted) (by decide +kernel)) (fun _ _ _ _ _ => (pg_name (i := 7) sc_law_wanted.nd rfl (Or.inl rfl))) (fun _ _ _ _ _ => (pts_one (pt_cmpR (r := rInD K) (op_inD hr.units5) (pv 3) (pv 7) (by rfl)))) (fun _ _ _ _ _ => (pv 7))) (pe_lst pa_nil) (nomark _))
 (pss_one (ps_expr (pe_bmK (K := K) PySem.F.plainAttrs_list PySem.F.slot_list_append PySem.F.type_list_append mt_append (pv 6) (pa_cons (pe_cal C_law_group hr rfl (pa_cons (pv 0) (pa_cons (pv 3) (pa_cons (pv 5) pa_nil)))) pa_nil))))
 pss_nil)))
 (pss_one (ps_ret (pv 6))))))),
    body_d (N := N_law_wanted) (ds_seq (ds_setLc (dl_lc (vs := [3]) (di_list (de_ixT (db_var 0) (DE.b de_int))) (dg_name 3) (by decide) (dt_t (de_op s_notIn (db_var 3) (db_var 1))) (de_var 3)))
 (ds_seq (ds_par (da_cons (DE.s (de_call (da_cons (DE.s (de_var 0)) (da_cons (DE.s (de_var 2)) (da_cons (DE.s (de_var 4)) da_nil))))) (da_cons (DL.s (dl_lst da_nil)) da_nil)))
 (ds_seq (ds_for (di_list (de_var 5)) (dg_name 3)
 (ds_if (dt_t (de_op s_eq (DE.b (DL.e (dl_lcO (vs := [7]) (dg_name 7) (by decide) (dt_t (de_op s_in (db_var 3) (db_var 7))) (de_var 7)))) (DE.b (DL.e (dl_lst da_nil)))))
 (ds_drop (de_append (da_cons (DE.s (de_call (da_cons (DE.s (de_var 0)) (da_cons (DE.s (de_var 3)) (da_cons (DE.s (de_var 5)) da_nil))))) da_nil)))
 ds_nil))
 (ds_ret (de_varF 6))))) h⟩)
abbrev s_law_chain : Stmt := top 44
abbrev N_law_chain : List Str := ["chart", "some", "found", "closed", "held"]
theorem sc_law_chain : FnScope N_law_chain ["chart", "some"] (defScope s_law_chain) := ⟨rfl, rfl, rfl, by decide +kernel, rfl, by decide +kernel, by decide +kernel⟩
theorem ok_law_chain {f : Addr} {fd : FuncData} (F : FnP K "_law_chain" "_law_chain" s_law_chain f fd) (C_law_group : Cal P w K mg base CX0 1 "_law_group" ["chart", "thing", "within"] (spD K D_law_group)) (C_law_leads : Cal P w K mg base CX0 1 "_law_leads" ["chart", "goals", "within"] (spD K D_law_leads)) : FnOk P w K mg base CX0 2 f fd ["chart", "some"] (spD K D_law_chain) := by
  refine F.ok sc_law_chain (fun vs H Q E h => len_d (N := N_law_chain) h) (fun cdv A outer s H vs Q E hr h => ⟨_, PSs.nox ((pss_cons (ps_set (i := 2) sc_law_chain.nd rfl (Or.inl rfl) (pe_lst (pa_cons (pe_cal C_law_group hr rfl (pa_cons (pv 0) (pa_cons (pe_ix (r := rIxL K) ix_list (pv 1) pe_int (fun _ _ => rfl)) (pa_cons (pe_ix (r := rIxT K) ix_tup (pv 0) pe_int (fun _ _ => rfl)) pa_nil)))) pa_nil)))
 (pss_cons (ps_while PassesOwn.never (pt_cmpR (r := rNeD K) (op_neD hr.units) (pe_ix (r := rIxL K) ix_list (pv 2) (pe_un un_neg pe_int) (fun _ _ => rfl)) (pv 1) (nomark _))
 (pss_cons (ps_set (i := 3) sc_law_chain.nd rfl (Or.inl rfl) (pe_cal C_law_leads hr rfl (pa_cons (pv 0) (pa_cons (pv 1) (pa_cons (pe_ix (r := rIxL K) ix_list (pv 2) (pe_un un_neg pe_int) (fun _ _ => rfl)) pa_nil)))))
 (pss_cons (ps_if (pt_cmpR (r := rEqD K) (op_eqD hr.units) (pv 3) (pe_ix (r := rIxL K) ix_list (pv 2) (pe_un un_neg pe_int) (fun _ _ => rfl)) (nomark _))
 (pss_one (ps_ret (pv 2)))
 pss_nil)
 (pss_cons (ps_expr (pe_bmK (K := K) PySem.F.plainAttrs_list PySem.F.slot_list_append PySem.F.type_list_append mt_append (pv 2) (pa_cons (pv 3) pa_nil)))
 (pss_cons (ps_set (i := 4) sc_law_chain.nd rfl (Or.inl rfl) (pe_cal C_law_group hr rfl (pa_cons (pv 0) (pa_cons (pe_ix (r := rIxL K) ix_list (pv 1) pe_int (fun _ _ => rfl)) (pa_cons (pv 3) pa_nil)))))
 (pss_one (ps_if (pt_cmpR (r := rNeD K) (op_neD hr.units) (pv 4) (pv 3) (nomark _))
 (pss_one (ps_expr (pe_bmK (K := K) PySem.F.plainAttrs_list PySem.F.slot_list_append PySem.F.type_list_append mt_append (pv 2) (pa_cons (pv 4) pa_nil))))
 pss_nil)))))))
 (pss_one (ps_ret (pv 2)))))),
    body_d (N := N_law_chain) (ds_seq (ds_setO (dl_lst (da_cons (DE.s (de_call (da_cons (DE.s (de_var 0)) (da_cons (DE.s (de_ixL (db_var 1) (DE.b de_int))) (da_cons (DE.s (de_ixT (db_var 0) (DE.b de_int))) da_nil))))) da_nil)))
 (ds_seq (ds_while (dt_t (de_op s_ne (DE.b (de_ixL (db_var 2) (DE.b (de_un s_neg (DE.b de_int))))) (db_var 1)))
 (ds_seq (ds_set (de_call (da_cons (DE.s (de_var 0)) (da_cons (DE.s (de_var 1)) (da_cons (DE.s (de_ixL (db_var 2) (DE.b (de_un s_neg (DE.b de_int))))) da_nil)))))
 (ds_seq (ds_if (dt_t (de_op s_eq (db_var 3) (DE.b (de_ixL (db_var 2) (DE.b (de_un s_neg (DE.b de_int)))))))
 (ds_ret (de_varF 2))
 ds_nil)
 (ds_seq (ds_drop (de_append (da_cons (DE.s (de_var 3)) da_nil)))
 (ds_seq (ds_set (de_call (da_cons (DE.s (de_var 0)) (da_cons (DE.s (de_ixL (db_var 1) (DE.b de_int))) (da_cons (DE.s (de_var 3)) da_nil)))))
 (ds_if (dt_t (de_op s_ne (db_var 4) (db_var 3)))
 (ds_drop (de_append (da_cons (DE.s (de_var 4)) da_nil)))
 ds_nil))))))
 (ds_ret (de_varF 2)))) h⟩)
abbrev s_law_stuck : Stmt := top 45
abbrev N_law_stuck : List Str := ["chart", "acted_here", "asked_here", "some", "last"]
theorem sc_law_stuck : FnScope N_law_stuck ["chart", "acted_here", "asked_here"] (defScope s_law_stuck) := ⟨rfl, rfl, rfl, by decide +kernel, rfl, by decide +kernel, by decide +kernel⟩
theorem ok_law_stuck {f : Addr} {fd : FuncData} (F : FnP K "_law_stuck" "_law_stuck" s_law_stuck f fd) (C_law_wanted : Cal P w K mg base CX0 2 "_law_wanted" ["chart", "acted_here", "asked_here"] (spD K D_law_wanted)) (C_law_chain : Cal P w K mg base CX0 2 "_law_chain" ["chart", "some"] (spD K D_law_chain)) : FnOk P w K mg base CX0 3 f fd ["chart", "acted_here", "asked_here"] (spD K D_law_stuck) := by
  refine F.ok sc_law_stuck (fun vs H Q E h => len_d (N := N_law_stuck) h) (fun cdv A outer s H vs Q E hr h => ⟨_, PSs.nox ((pss_cons (ps_for PassesOwn.never rfl (pi_listK (K := K) (pe_cal C_law_wanted hr rfl (pa_cons (pv 0) (pa_cons (pv 1) (pa_cons (pv 2) pa_nil))))) (pg_name (i := 3) sc_law_stuck.nd rfl (Or.inl rfl))
 (pss_cons (ps_set (i := 4) sc_law_stuck.nd rfl (Or.inl rfl) (pe_ix (r := rIxL K) ix_list (pe_cal C_law_chain hr rfl (pa_cons (pv 0) (pa_cons (pv 3) pa_nil))) (pe_un un_neg pe_int) (fun _ _ => rfl)))
 (pss_one (ps_if (pt_cmpR (r := rNeD K) (op_neD hr.units) (pv 4) (pv 3) (nomark _))
 (pss_one (ps_ret (pe_tup (pa_cons (pv 3) (pa_cons (pv 4) pa_nil)))))
 pss_nil))))
 (pss_one (ps_ret pe_non)))),
    body_d (N := N_law_stuck) (ds_seq (ds_for (di_list (de_call (da_cons (DE.s (de_var 0)) (da_cons (DE.s (de_var 1)) (da_cons (DE.s (de_var 2)) da_nil))))) (dg_name 3)
 (ds_seq (ds_set (de_ixL (DE.b (de_call (da_cons (DE.s (de_var 0)) (da_cons (DE.s (de_var 3)) da_nil)))) (DE.b (de_un s_neg (DE.b de_int)))))
 (ds_if (dt_t (de_op s_ne (db_var 4) (db_var 3)))
 (ds_ret (de_tup (da_cons (DE.s (de_var 3)) (da_cons (DE.s (de_var 4)) da_nil))))
 ds_nil)))
 (ds_ret de_non)) h⟩)
abbrev s_law_due : Stmt := top 47
abbrev N_law_due : List Str := ["chart", "acted_here", "asked_here", "found", "some", "rest_here", "less", "at", "veil"]
theorem sc_law_due : FnScope N_law_due ["chart", "acted_here", "asked_here"] (defScope s_law_due) := ⟨rfl, rfl, rfl, by decide +kernel, rfl, by decide +kernel, by decide +kernel⟩
theorem ok_law_due {f : Addr} {fd : FuncData} (F : FnP K "_law_due" "_law_due" s_law_due f fd) (T : Tx mg) (C_law_subsets : Cal P w K mg base CX0 1 "_law_subsets" ["amount"] (spD K D_law_subsets)) (C_law_stuck : Cal P w K mg base CX0 3 "_law_stuck" ["chart", "acted_here", "asked_here"] (spD K D_law_stuck)) : FnOk P w K mg base CX0 4 f fd ["chart", "acted_here", "asked_here"] (spD K D_law_due) := by
  refine F.ok sc_law_due (fun vs H Q E h => len_d (N := N_law_due) h) (fun cdv A outer s H vs Q E hr h => ⟨_, PSs.nox ((pss_cons (ps_set (i := 3) sc_law_due.nd rfl (Or.inl rfl) (pe_lst pa_nil))
 (pss_cons (ps_for PassesOwn.never rfl (pi_listK (K := K) (pe_cal C_law_subsets hr rfl (pa_cons (pe_callB (r := Evl.rLenS K) call_len_seq (by rfl) T.n_len (by decide +kernel) (pa_cons (pe_ix (r := rIxT K) ix_tup (pv 0) pe_int (fun _ _ => rfl)) pa_nil)) pa_nil))) (pg_name (i := 4) sc_law_due.nd rfl (Or.inr rfl))
 (pss_one (ps_if (pt_cmpR (r := rEqD K) (op_eqD hr.units) (pe_lc (own := [("less", 6)]) (by rfl) sc_law_due.nd (pi_listK (K := K) (pv 3)) (blkOk_by (own := [("less", 6)]) (N := N_law_due) (sc := defScope s_law_due) (by decide +kernel)) (fun _ _ _ _ _ => (pg_name (i := 6) sc_law_due.nd rfl (Or.inl rfl))) (fun _ _ _ _ _ => (pts_one (pt_cmpR (r := rEqD K) (op_eqD hr.units) (pe_lc (own := [("at", 7)]) (by rfl) sc_law_due.nd (pi_listK (K := K) (pv 6)) (blkOk_by (own := [("at", 7)]) (N := N_law_due) (by rfl)) (fun _ _ _ _ _ => (pg_name (i := 7) sc_law_due.nd rfl (Or.inl rfl))) (fun _ _ _ _ _ => (pts_one (pt_cmpR (r := rNotInD K) (op_notInD hr.units5) (pv 7) (pv 4) (by rfl)))) (fun _ _ _ _ _ => (pv 7))) (pe_lst pa_nil) (nomark _)))) (fun _ _ _ _ _ => pe_int)) (pe_lst pa_nil) (nomark _))
 (pss_cons (ps_setLc (i := 5) (own := [("at", 7), ("veil", 8)]) (by rfl) sc_law_due.nd rfl rfl (sw_true rfl rfl rfl (by decide +kernel)) (pi_enumK (K := K) (by rfl) T.n_enumerate (pa_cons (pe_ix (r := rIxT K) ix_tup (pv 0) pe_int (fun _ _ => rfl)) pa_nil)) (blkOk_by (own := [("at", 7), ("veil", 8)]) (N := N_law_due) (sc := defScope s_law_due) (by decide +kernel)) (fun _ _ _ _ _ => (pg_tupK (K := K) (n := 2) (pgs_cons (pg_name (i := 7) sc_law_due.nd rfl (Or.inl rfl)) (pgs_cons (pg_name (i := 8) sc_law_due.nd rfl (Or.inl rfl)) pgs_nil)))) (fun _ _ _ _ _ => (pts_one (pt_cmpR (r := rNotInD K) (op_notInD hr.units5) (pv 7) (pv 4) (by rfl)))) (fun _ _ _ _ _ => (pv 8)))
 (pss_one (ps_if (pt_cmpR op_isN (pe_cal C_law_stuck hr rfl (pa_cons (pe_tup (pa_cons (pe_ix (r := rIxT K) ix_tup (pv 0) pe_int (fun _ _ => rfl)) (pa_cons (pe_ix (r := rIxT K) ix_tup (pv 0) pe_int (fun _ _ => rfl)) (pa_cons (pv 5) pa_nil)))) (pa_cons (pv 1) (pa_cons (pv 2) pa_nil)))) pe_non (nomark _))
 (pss_one (ps_expr (pe_bmK (K := K) PySem.F.plainAttrs_list PySem.F.slot_list_append PySem.F.type_list_append mt_append (pv 3) (pa_cons (pv 4) pa_nil))))
 pss_nil)))
 pss_nil)))
 (pss_one (ps_ret (pv 3)))))),
    body_d (N := N_law_due) (ds_seq (ds_setO (dl_lst da_nil))
 (ds_seq (ds_for (di_list (de_call (da_cons (DE.s (de_b1 s_len (DE.b (de_ixT (db_var 0) (DE.b de_int))))) da_nil))) (dg_name 4)
 (ds_if (dt_t (de_op s_eq (DE.b (DL.e (dl_lcO (vs := [6]) (dg_name 6) (by decide) (dt_t (de_op s_eq (DE.b (DL.e (dl_lc (vs := [7]) (di_list (de_var 6)) (dg_name 7) (by decide) (dt_t (de_op s_notIn (db_var 7) (db_var 4))) (de_var 7)))) (DE.b (DL.e (dl_lst da_nil))))) de_int))) (DE.b (DL.e (dl_lst da_nil)))))
 (ds_seq (ds_setLc (dl_lc (vs := [7, 8]) (di_enum (da_cons (DE.s (de_ixT (db_var 0) (DE.b de_int))) da_nil)) (dg_tup (dgs_cons (dg_name 7) (dgs_cons (dg_name 8) dgs_nil))) (by decide) (dt_t (de_op s_notIn (db_var 7) (db_var 4))) (de_var 8)))
 (ds_if (dt_t (de_op s_isN (DE.b (de_call (da_cons (DE.s (de_tup (da_cons (DE.s (de_ixT (db_var 0) (DE.b de_int))) (da_cons (DE.s (de_ixT (db_var 0) (DE.b de_int))) (da_cons (DE.s (de_var 5)) da_nil))))) (da_cons (DE.s (de_var 1)) (da_cons (DE.s (de_var 2)) da_nil))))) (DE.b de_non)))
 (ds_drop (de_append (da_cons (DE.s (de_var 4)) da_nil)))
 ds_nil))
 ds_nil))
 (ds_ret (de_varF 3)))) h⟩)
abbrev s_Diagram_names : Stmt := inClass (top 15) 1
abbrev N_Diagram_names : List Str := ["self"]
theorem sc_Diagram_names : FnScope N_Diagram_names ["self"] (defScope s_Diagram_names) := ⟨rfl, rfl, rfl, by decide +kernel, rfl, by decide +kernel, by decide +kernel⟩
theorem ok_Diagram_names {f : Addr} {fd : FuncData} (F : FnP K "names" "Diagram.names" s_Diagram_names f fd) (T : Tx mg) (A_Diagram_names : NoAttr K (ga K "Diagram") "_names") (CC_Diagram : Cls K (ga K "Diagram")) : FnOk P w K mg base CX0 1 f fd ["self"] (spD K D_Diagram_names) := by
  refine F.ok sc_Diagram_names (fun vs H Q E h => len_d (N := N_Diagram_names) h) (fun cdv A outer s H vs Q E hr h => ⟨_, PSs.nox ((pss_one (ps_ret (pe_callTy (r := Evl.rListS K) call_list_of (by rfl) T.n_list (by decide +kernel) (pa_cons (pe_fldK (K := K) (pv 0)) pa_nil))))),
    body_d (N := N_Diagram_names) (ds_ret (DL.e (dl_list (DE.b (de_fld CC_Diagram A_Diagram_names (db_var 0)))))) h⟩)
abbrev s_check_names : Stmt := top 10
abbrev N_check_names : List Str := ["diagram", "names", "known", "at", "name"]
theorem sc_check_names : FnScope N_check_names ["diagram", "names"] (defScope s_check_names) := ⟨rfl, rfl, rfl, by decide +kernel, rfl, by decide +kernel, by decide +kernel⟩
theorem ok_check_names {f : Addr} {fd : FuncData} (F : FnP K "check_names" "check_names" s_check_names f fd) (C_Diagram_names : CalP P w K mg base 1 (ga K "Diagram") "names" (spD K D_Diagram_names)) (T : Tx mg) (T_InvalidName : ErrC K mg "InvalidName") (IE : ErrI P w K mg base) : FnOk P w K mg base (L2.CX P w) 3 f fd ["diagram", "names"] (spD K D_check_names) := by
  refine F.ok sc_check_names (fun vs H Q E h => len_d (N := N_check_names) h) (fun cdv A outer s H vs Q E hr h => ⟨_, (pss_cons (ps_set (i := 2) sc_check_names.nd rfl (Or.inl rfl) (pe_propC C_Diagram_names hr (pv 0)))
 (pss_one (ps_for (passes_of rfl) rfl (pi_enumK (K := K) (by rfl) T.n_enumerate (pa_cons (pv 1) pa_nil)) (pg_tupK (K := K) (n := 2) (pgs_cons (pg_name (i := 3) sc_check_names.nd rfl (Or.inl rfl)) (pgs_cons (pg_name (i := 4) sc_check_names.nd rfl (Or.inl rfl)) pgs_nil)))
 (pss_one (ps_if (PW.pt (pw_or (pt_cmpR (r := rNotInD K) (op_notInD hr.units5) (pv 4) (pv 2) (by rfl)) (pw_or1 (pt_cmpR (r := rInD K) (op_inD hr.units5) (pv 4) (pe_slice (r := rSlL K) sl_list (pv 1) po_none (po_some (pv 3))) (by rfl)))))
 (pss_one (ps_raise rfl (takes_of rfl rfl rfl rfl) (pmk_x IE T_InvalidName hr rfl (pa_cons (pv 4) pa_nil))))
 pss_nil))))),
    body_d (N := N_check_names) (ds_seq (ds_set (de_prop (de_var 0)))
 (ds_for (di_enum (da_cons (DE.s (de_var 1)) da_nil)) (dg_tup (dgs_cons (dg_name 3) (dgs_cons (dg_name 4) dgs_nil)))
 (ds_if (dt_or (dt_t (de_op s_notIn (db_var 4) (db_var 2))) (dt_t (de_op s_in (db_var 4) (DE.b (DL.e (dl_slice (db_var 1) do_none (do_some (de_var 3))))))))
 (ds_raise T_InvalidName (da_cons (DE.s (de_var 4)) da_nil))
 ds_nil))) h⟩)
abbrev s_check_apart : Stmt := top 11
abbrev N_check_apart : List Str := ["names", "taken", "name"]
theorem sc_check_apart : FnScope N_check_apart ["names", "taken"] (defScope s_check_apart) := ⟨rfl, rfl, rfl, by decide +kernel, rfl, by decide +kernel, by decide +kernel⟩
theorem ok_check_apart {f : Addr} {fd : FuncData} (F : FnP K "check_apart" "check_apart" s_check_apart f fd) (T_InvalidDeed : ErrC K mg "InvalidDeed") (IE : ErrI P w K mg base) : FnOk P w K mg base (L2.CX P w) 3 f fd ["names", "taken"] (spD K D_check_apart) := by
  refine F.ok sc_check_apart (fun vs H Q E h => len_d (N := N_check_apart) h) (fun cdv A outer s H vs Q E hr h => ⟨_, (pss_one (ps_for (passes_of rfl) rfl (pi_listK (K := K) (pv 0)) (pg_name (i := 2) sc_check_apart.nd rfl (Or.inl rfl))
 (pss_one (ps_if (pt_cmpR (r := rInD K) (op_inD hr.units5) (pv 2) (pv 1) (by rfl))
 (pss_one (ps_raise rfl (takes_of rfl rfl rfl rfl) (pmk_x IE T_InvalidDeed hr rfl (pa_cons (pv 2) pa_nil))))
 pss_nil)))),
    body_d (N := N_check_apart) (ds_for (di_list (de_var 0)) (dg_name 2)
 (ds_if (dt_t (de_op s_in (db_var 2) (db_var 1)))
 (ds_raise T_InvalidDeed (da_cons (DE.s (de_var 2)) da_nil))
 ds_nil)) h⟩)
abbrev s_check_asked : Stmt := top 12
abbrev N_check_asked : List Str := ["diagram", "acted", "asked"]
theorem sc_check_asked : FnScope N_check_asked ["diagram", "acted", "asked"] (defScope s_check_asked) := ⟨rfl, rfl, rfl, by decide +kernel, rfl, by decide +kernel, by decide +kernel⟩
theorem ok_check_asked {f : Addr} {fd : FuncData} (F : FnP K "check_asked" "check_asked" s_check_asked f fd) (C_check_names : Cal P w K mg base (L2.CX P w) 3 "check_names" ["diagram", "names"] (spD K D_check_names)) (C_check_apart : Cal P w K mg base (L2.CX P w) 3 "check_apart" ["names", "taken"] (spD K D_check_apart)) : FnOk P w K mg base (L2.CX P w) 4 f fd ["diagram", "acted", "asked"] (spD K D_check_asked) := by
  refine F.ok sc_check_asked (fun vs H Q E h => len_d (N := N_check_asked) h) (fun cdv A outer s H vs Q E hr h => ⟨_, (pss_cons (ps_expr (pe_calX C_check_names hr rfl (takes_of rfl rfl rfl rfl) (pa_cons (pv 0) (pa_cons (pv 1) pa_nil))))
 (pss_cons (ps_expr (pe_calX C_check_names hr rfl (takes_of rfl rfl rfl rfl) (pa_cons (pv 0) (pa_cons (pv 2) pa_nil))))
 (pss_one (ps_expr (pe_calX C_check_apart hr rfl (takes_of rfl rfl rfl rfl) (pa_cons (pv 2) (pa_cons (pv 1) pa_nil))))))),
    body_d (N := N_check_asked) (ds_seq (ds_drop (de_callX (da_cons (DE.s (de_var 0)) (da_cons (DE.s (de_var 1)) da_nil))))
 (ds_seq (ds_drop (de_callX (da_cons (DE.s (de_var 0)) (da_cons (DE.s (de_var 2)) da_nil))))
 (ds_drop (de_callX (da_cons (DE.s (de_var 2)) (da_cons (DE.s (de_var 1)) da_nil)))))) h⟩)
abbrev s_Diagram_pairs : Stmt := inClass (top 15) 3
abbrev N_Diagram_pairs : List Str := ["self"]
theorem sc_Diagram_pairs : FnScope N_Diagram_pairs ["self"] (defScope s_Diagram_pairs) := ⟨rfl, rfl, rfl, by decide +kernel, rfl, by decide +kernel, by decide +kernel⟩
theorem ok_Diagram_pairs {f : Addr} {fd : FuncData} (F : FnP K "pairs" "Diagram.pairs" s_Diagram_pairs f fd) (T : Tx mg) (A_Diagram_pairs : NoAttr K (ga K "Diagram") "_pairs") (CC_Diagram : Cls K (ga K "Diagram")) : FnOk P w K mg base CX0 1 f fd ["self"] (spD K D_Diagram_pairs) := by
  refine F.ok sc_Diagram_pairs (fun vs H Q E h => len_d (N := N_Diagram_pairs) h) (fun cdv A outer s H vs Q E hr h => ⟨_, PSs.nox ((pss_one (ps_ret (pe_callTy (r := Evl.rListS K) call_list_of (by rfl) T.n_list (by decide +kernel) (pa_cons (pe_fldK (K := K) (pv 0)) pa_nil))))),
    body_d (N := N_Diagram_pairs) (ds_ret (DL.e (dl_list (DE.b (de_fld CC_Diagram A_Diagram_pairs (db_var 0)))))) h⟩)
abbrev s_group_around : Stmt := top 28
abbrev N_group_around : List Str := ["diagram", "things", "thing", "pairs", "one", "other"]
theorem sc_group_around : FnScope N_group_around ["diagram", "things", "thing"] (defScope s_group_around) := ⟨rfl, rfl, rfl, by decide +kernel, rfl, by decide +kernel, by decide +kernel⟩
theorem ok_group_around {f : Addr} {fd : FuncData} (F : FnP K "group_around" "group_around" s_group_around f fd) (C_Diagram_pairs : CalP P w K mg base 1 (ga K "Diagram") "pairs" (spD K D_Diagram_pairs)) (C_things_leading : Cal P w K mg base CX0 1 "things_leading" ["names", "arrows", "name"] (spD K D_things_leading)) : FnOk P w K mg base CX0 3 f fd ["diagram", "things", "thing"] (spD K D_group_around) := by
  refine F.ok sc_group_around (fun vs H Q E h => len_d (N := N_group_around) h) (fun cdv A outer s H vs Q E hr h => ⟨_, PSs.nox ((pss_cons (ps_setLc (i := 3) (own := [("one", 4), ("other", 5)]) (by rfl) sc_group_around.nd rfl rfl (sw_true rfl rfl rfl (by decide +kernel)) (pi_listK (K := K) (pe_propC C_Diagram_pairs hr (pv 0))) (blkOk_by (own := [("one", 4), ("other", 5)]) (N := N_group_around) (sc := defScope s_group_around) (by decide +kernel)) (fun _ _ _ _ _ => (pg_tupK (K := K) (n := 2) (pgs_cons (pg_name (i := 4) sc_group_around.nd rfl (Or.inl rfl)) (pgs_cons (pg_name (i := 5) sc_group_around.nd rfl (Or.inl rfl)) pgs_nil)))) (fun _ _ _ _ _ => (pts_one (PW.pt (pw_and (pt_cmpR (r := rInD K) (op_inD hr.units5) (pv 4) (pv 1) (by rfl)) (pw_and1 (pt_cmpR (r := rInD K) (op_inD hr.units5) (pv 5) (pv 1) (by rfl))))))) (fun _ _ _ _ _ => (pe_tup (pa_cons (pv 4) (pa_cons (pv 5) pa_nil)))))
 (pss_one (ps_ret (pe_cal C_things_leading hr rfl (pa_cons (pv 1) (pa_cons (pe_op op_cat (pv 3) (pe_lc (own := [("one", 4), ("other", 5)]) (by rfl) sc_group_around.nd (pi_listK (K := K) (pv 3)) (blkOk_by (own := [("one", 4), ("other", 5)]) (N := N_group_around) (sc := defScope s_group_around) (by decide +kernel)) (fun _ _ _ _ _ => (pg_tupK (K := K) (n := 2) (pgs_cons (pg_name (i := 4) sc_group_around.nd rfl (Or.inl rfl)) (pgs_cons (pg_name (i := 5) sc_group_around.nd rfl (Or.inl rfl)) pgs_nil)))) (fun _ _ _ _ _ => pts_nil) (fun _ _ _ _ _ => (pe_tup (pa_cons (pv 5) (pa_cons (pv 4) pa_nil)))))) (pa_cons (pv 2) pa_nil)))))))),
    body_d (N := N_group_around) (ds_seq (ds_setLc (dl_lc (vs := [4, 5]) (di_list (de_prop (de_var 0))) (dg_tup (dgs_cons (dg_name 4) (dgs_cons (dg_name 5) dgs_nil))) (by decide) (dt_and (dt_t (de_op s_in (db_var 4) (db_var 1))) (dt_t (de_op s_in (db_var 5) (db_var 1)))) (de_tup (da_cons (DE.s (de_var 4)) (da_cons (DE.s (de_var 5)) da_nil)))))
 (ds_ret (de_call (da_cons (DE.s (de_var 1)) (da_cons (DE.s (DL.e (dl_cat (db_var 3) (DE.b (DL.e (dl_lc (vs := [4, 5]) (di_list (de_var 3)) (dg_tup (dgs_cons (dg_name 4) (dgs_cons (dg_name 5) dgs_nil))) (by decide) dt_yes (de_tup (da_cons (DE.s (de_var 5)) (da_cons (DE.s (de_var 4)) da_nil))))))))) (da_cons (DE.s (de_var 2)) da_nil)))))) h⟩)
abbrev s_groups_of : Stmt := top 27
abbrev N_groups_of : List Str := ["diagram", "things", "found", "thing", "group"]
theorem sc_groups_of : FnScope N_groups_of ["diagram", "things"] (defScope s_groups_of) := ⟨rfl, rfl, rfl, by decide +kernel, rfl, by decide +kernel, by decide +kernel⟩
theorem ok_groups_of {f : Addr} {fd : FuncData} (F : FnP K "groups_of" "groups_of" s_groups_of f fd) (T : Tx mg) (C_group_around : Cal P w K mg base CX0 3 "group_around" ["diagram", "things", "thing"] (spD K D_group_around)) : FnOk P w K mg base CX0 4 f fd ["diagram", "things"] (spD K D_groups_of) := by
  refine F.ok sc_groups_of (fun vs H Q E h => len_d (N := N_groups_of) h) (fun cdv A outer s H vs Q E hr h => ⟨_, PSs.nox ((pss_cons (ps_set (i := 2) sc_groups_of.nd rfl (Or.inl rfl) (pe_lst pa_nil))
 (pss_cons (ps_for PassesOwn.never rfl (pi_listK (K := K) (pv 1)) (pg_name (i := 3) sc_groups_of.nd rfl (Or.inr rfl))
 (pss_one (ps_if (pt_not (pt_val (pe_callB (r := rAny K) (cr_any rfl) (by rfl) T.n_any (by decide +kernel) (pa_cons (pe_lc (own := [("group", 4)]) (by rfl) sc_groups_of.nd (pi_listK (K := K) (pv 2)) (blkOk_by (own := [("group", 4)]) (N := N_groups_of) (sc := defScope s_groups_of) (by decide +kernel)) (fun _ _ _ _ _ => (pg_name (i := 4) sc_groups_of.nd rfl (Or.inl rfl))) (fun _ _ _ _ _ => pts_nil) (fun _ _ _ _ _ => (pe_cmpR (r := rInD K) (op_inD hr.units5) (pv 3) (pv 4) (by rfl)))) pa_nil))))
 (pss_one (ps_expr (pe_bmK (K := K) PySem.F.plainAttrs_list PySem.F.slot_list_append PySem.F.type_list_append mt_append (pv 2) (pa_cons (pe_cal C_group_around hr rfl (pa_cons (pv 0) (pa_cons (pv 1) (pa_cons (pv 3) pa_nil)))) pa_nil))))
 pss_nil)))
 (pss_one (ps_ret (pv 2)))))),
    body_d (N := N_groups_of) (ds_seq (ds_setO (dl_lst da_nil))
 (ds_seq (ds_for (di_list (de_var 1)) (dg_name 3)
 (ds_if (dt_not (dt_b (de_b1 s_any (DE.b (DL.e (dl_lcO (vs := [4]) (dg_name 4) (by decide) dt_yes (de_op s_in (db_var 3) (db_var 4))))))))
 (ds_drop (de_append (da_cons (DE.s (de_call (da_cons (DE.s (de_var 0)) (da_cons (DE.s (de_var 1)) (da_cons (DE.s (de_var 3)) da_nil))))) da_nil)))
 ds_nil))
 (ds_ret (de_varF 2)))) h⟩)
abbrev s_Diagram_arrows : Stmt := inClass (top 15) 2
abbrev N_Diagram_arrows : List Str := ["self"]
theorem sc_Diagram_arrows : FnScope N_Diagram_arrows ["self"] (defScope s_Diagram_arrows) := ⟨rfl, rfl, rfl, by decide +kernel, rfl, by decide +kernel, by decide +kernel⟩
theorem ok_Diagram_arrows {f : Addr} {fd : FuncData} (F : FnP K "arrows" "Diagram.arrows" s_Diagram_arrows f fd) (T : Tx mg) (A_Diagram_arrows : NoAttr K (ga K "Diagram") "_arrows") (CC_Diagram : Cls K (ga K "Diagram")) : FnOk P w K mg base CX0 1 f fd ["self"] (spD K D_Diagram_arrows) := by
  refine F.ok sc_Diagram_arrows (fun vs H Q E h => len_d (N := N_Diagram_arrows) h) (fun cdv A outer s H vs Q E hr h => ⟨_, PSs.nox ((pss_one (ps_ret (pe_callTy (r := Evl.rListS K) call_list_of (by rfl) T.n_list (by decide +kernel) (pa_cons (pe_fldK (K := K) (pv 0)) pa_nil))))),
    body_d (N := N_Diagram_arrows) (ds_ret (DL.e (dl_list (DE.b (de_fld CC_Diagram A_Diagram_arrows (db_var 0)))))) h⟩)
abbrev s_leading_within : Stmt := top 26
abbrev N_leading_within : List Str := ["diagram", "things", "ends", "arrows", "found", "one", "other", "end", "thing"]
theorem sc_leading_within : FnScope N_leading_within ["diagram", "things", "ends"] (defScope s_leading_within) := ⟨rfl, rfl, rfl, by decide +kernel, rfl, by decide +kernel, by decide +kernel⟩
theorem ok_leading_within {f : Addr} {fd : FuncData} (F : FnP K "leading_within" "leading_within" s_leading_within f fd) (C_Diagram_arrows : CalP P w K mg base 1 (ga K "Diagram") "arrows" (spD K D_Diagram_arrows)) (C_things_leading : Cal P w K mg base CX0 1 "things_leading" ["names", "arrows", "name"] (spD K D_things_leading)) : FnOk P w K mg base CX0 3 f fd ["diagram", "things", "ends"] (spD K D_leading_within) := by
  refine F.ok sc_leading_within (fun vs H Q E h => len_d (N := N_leading_within) h) (fun cdv A outer s H vs Q E hr h => ⟨_, PSs.nox ((pss_cons (ps_set (i := 3) sc_leading_within.nd rfl (Or.inr rfl) (pe_lc (own := [("one", 5), ("other", 6)]) (by rfl) sc_leading_within.nd (pi_listK (K := K) (pe_propC C_Diagram_arrows hr (pv 0))) (blkOk_by (own := [("one", 5), ("other", 6)]) (N := N_leading_within) (sc := defScope s_leading_within) (by decide +kernel)) (fun _ _ _ _ _ => (pg_tupK (K := K) (n := 2) (pgs_cons (pg_name (i := 5) sc_leading_within.nd rfl (Or.inl rfl)) (pgs_cons (pg_name (i := 6) sc_leading_within.nd rfl (Or.inl rfl)) pgs_nil)))) (fun _ _ _ _ _ => (pts_one (PW.pt (pw_and (pt_cmpR (r := rInD K) (op_inD hr.units5) (pv 5) (pv 1) (by rfl)) (pw_and1 (pt_cmpR (r := rInD K) (op_inD hr.units5) (pv 6) (pv 1) (by rfl))))))) (fun _ _ _ _ _ => (pe_tup (pa_cons (pv 5) (pa_cons (pv 6) pa_nil))))))
 (pss_cons (ps_set (i := 4) sc_leading_within.nd rfl (Or.inr rfl) (pe_lc2K (own := [("end", 7), ("thing", 8)]) (by rfl) sc_leading_within.nd (pi_listK (K := K) (pv 2)) (blkOk_by (own := [("end", 7), ("thing", 8)]) (N := N_leading_within) (sc := defScope s_leading_within) (by decide +kernel)) (vs1 := [8]) (by decide) (fun _ _ _ _ _ => (pg_name (i := 7) sc_leading_within.nd rfl (Or.inl rfl))) (fun _ _ _ _ _ => pts_nil) (fun _ _ _ _ _ => (pi_listK (K := K) (pe_cal C_things_leading hr rfl (pa_cons (pv 1) (pa_cons (pv 3) (pa_cons (pv 7) pa_nil)))))) (fun _ _ _ _ _ => (pg_name (i := 8) sc_leading_within.nd rfl (Or.inl rfl))) (fun _ _ _ _ _ => pts_nil) (fun _ _ _ _ _ => (pv 8))))
 (pss_one (ps_ret (pe_lc (own := [("thing", 8)]) (by rfl) sc_leading_within.nd (pi_listK (K := K) (pv 1)) (blkOk_by (own := [("thing", 8)]) (N := N_leading_within) (sc := defScope s_leading_within) (by decide +kernel)) (fun _ _ _ _ _ => (pg_name (i := 8) sc_leading_within.nd rfl (Or.inl rfl))) (fun _ _ _ _ _ => (pts_one (pt_cmpR (r := rInD K) (op_inD hr.units5) (pv 8) (pv 4) (by rfl)))) (fun _ _ _ _ _ => (pv 8)))))))),
    body_d (N := N_leading_within) (ds_seq (ds_set (DL.e (dl_lc (vs := [5, 6]) (di_list (de_prop (de_var 0))) (dg_tup (dgs_cons (dg_name 5) (dgs_cons (dg_name 6) dgs_nil))) (by decide) (dt_and (dt_t (de_op s_in (db_var 5) (db_var 1))) (dt_t (de_op s_in (db_var 6) (db_var 1)))) (de_tup (da_cons (DE.s (de_var 5)) (da_cons (DE.s (de_var 6)) da_nil))))))
 (ds_seq (ds_set (DL.e (dl_lc2 (vs := [7, 8]) (vs1 := [8]) (di_list (de_var 2)) (dg_name 7) (by decide) dt_yes (di_list (de_call (da_cons (DE.s (de_var 1)) (da_cons (DE.s (de_var 3)) (da_cons (DE.s (de_var 7)) da_nil))))) (dg_name 8) (by decide) (by decide) dt_yes (de_var 8))))
 (ds_ret (DL.e (dl_lc (vs := [8]) (di_list (de_var 1)) (dg_name 8) (by decide) (dt_t (de_op s_in (db_var 8) (db_var 4))) (de_var 8)))))) h⟩)
abbrev s_counting : Stmt := top 25
abbrev N_counting : List Str := ["diagram", "acted", "asked", "name"]
theorem sc_counting : FnScope N_counting ["diagram", "acted", "asked"] (defScope s_counting) := ⟨rfl, rfl, rfl, by decide +kernel, rfl, by decide +kernel, by decide +kernel⟩
theorem ok_counting {f : Addr} {fd : FuncData} (F : FnP K "counting" "counting" s_counting f fd) (C_Diagram_names : CalP P w K mg base 1 (ga K "Diagram") "names" (spD K D_Diagram_names)) (C_leading_within : Cal P w K mg base CX0 3 "leading_within" ["diagram", "things", "ends"] (spD K D_leading_within)) : FnOk P w K mg base CX0 4 f fd ["diagram", "acted", "asked"] (spD K D_counting) := by
  refine F.ok sc_counting (fun vs H Q E h => len_d (N := N_counting) h) (fun cdv A outer s H vs Q E hr h => ⟨_, PSs.nox ((pss_one (ps_ret (pe_cal C_leading_within hr rfl (pa_cons (pv 0) (pa_cons (pe_lc (own := [("name", 3)]) (by rfl) sc_counting.nd (pi_listK (K := K) (pe_propC C_Diagram_names hr (pv 0))) (blkOk_by (own := [("name", 3)]) (N := N_counting) (sc := defScope s_counting) (by decide +kernel)) (fun _ _ _ _ _ => (pg_name (i := 3) sc_counting.nd rfl (Or.inl rfl))) (fun _ _ _ _ _ => (pts_one (pt_cmpR (r := rNotInD K) (op_notInD hr.units5) (pv 3) (pv 1) (by rfl)))) (fun _ _ _ _ _ => (pv 3))) (pa_cons (pv 2) pa_nil))))))),
    body_d (N := N_counting) (ds_ret (de_call (da_cons (DE.s (de_var 0)) (da_cons (DE.s (DL.e (dl_lc (vs := [3]) (di_list (de_prop (de_var 0))) (dg_name 3) (by decide) (dt_t (de_op s_notIn (db_var 3) (db_var 1))) (de_var 3)))) (da_cons (DE.s (de_var 2)) da_nil))))) h⟩)
abbrev s_steps_to : Stmt := top 29
abbrev N_steps_to : List Str := ["diagram", "group", "told", "leading", "joined"]
theorem sc_steps_to : FnScope N_steps_to ["diagram", "group"] (defScope s_steps_to) := ⟨rfl, rfl, rfl, by decide +kernel, rfl, by decide +kernel, by decide +kernel⟩
theorem ok_steps_to {f : Addr} {fd : FuncData} (F : FnP K "steps_to" "steps_to" s_steps_to f fd) (C_Diagram_names : CalP P w K mg base 1 (ga K "Diagram") "names" (spD K D_Diagram_names)) (C_group_around : Cal P w K mg base CX0 3 "group_around" ["diagram", "things", "thing"] (spD K D_group_around)) (C_leading_within : Cal P w K mg base CX0 3 "leading_within" ["diagram", "things", "ends"] (spD K D_leading_within)) : FnOk P w K mg base CX0 4 f fd ["diagram", "group"] (spD K D_steps_to) := by
  refine F.ok sc_steps_to (fun vs H Q E h => len_d (N := N_steps_to) h) (fun cdv A outer s H vs Q E hr h => ⟨_, PSs.nox ((pss_cons (ps_set (i := 2) sc_steps_to.nd rfl (Or.inl rfl) (pe_lst (pa_cons (pe_cal C_group_around hr rfl (pa_cons (pv 0) (pa_cons (pe_propC C_Diagram_names hr (pv 0)) (pa_cons (pe_ix (r := rIxL K) ix_list (pv 1) pe_int (fun _ _ => rfl)) pa_nil)))) pa_nil)))
 (pss_cons (ps_while PassesOwn.never (pt_cmpR (r := rNeD K) (op_neD hr.units) (pe_ix (r := rIxL K) ix_list (pv 2) (pe_un un_neg pe_int) (fun _ _ => rfl)) (pv 1) (nomark _))
 (pss_cons (ps_set (i := 3) sc_steps_to.nd rfl (Or.inl rfl) (pe_cal C_leading_within hr rfl (pa_cons (pv 0) (pa_cons (pe_ix (r := rIxL K) ix_list (pv 2) (pe_un un_neg pe_int) (fun _ _ => rfl)) (pa_cons (pv 1) pa_nil)))))
 (pss_cons (ps_if (pt_cmpR (r := rEqD K) (op_eqD hr.units) (pv 3) (pe_ix (r := rIxL K) ix_list (pv 2) (pe_un un_neg pe_int) (fun _ _ => rfl)) (nomark _))
 (pss_one (ps_ret (pv 2)))
 pss_nil)
 (pss_cons (ps_expr (pe_bmK (K := K) PySem.F.plainAttrs_list PySem.F.slot_list_append PySem.F.type_list_append mt_append (pv 2) (pa_cons (pv 3) pa_nil)))
 (pss_cons (ps_set (i := 4) sc_steps_to.nd rfl (Or.inl rfl) (pe_cal C_group_around hr rfl (pa_cons (pv 0) (pa_cons (pv 3) (pa_cons (pe_ix (r := rIxL K) ix_list (pv 1) pe_int (fun _ _ => rfl)) pa_nil)))))
 (pss_one (ps_if (pt_cmpR (r := rNeD K) (op_neD hr.units) (pv 4) (pv 3) (nomark _))
 (pss_one (ps_expr (pe_bmK (K := K) PySem.F.plainAttrs_list PySem.F.slot_list_append PySem.F.type_list_append mt_append (pv 2) (pa_cons (pv 4) pa_nil))))
 pss_nil)))))))
 (pss_one (ps_ret (pv 2)))))),
    body_d (N := N_steps_to) (ds_seq (ds_setO (dl_lst (da_cons (DE.s (de_call (da_cons (DE.s (de_var 0)) (da_cons (DE.s (de_prop (de_var 0))) (da_cons (DE.s (de_ixL (db_var 1) (DE.b de_int))) da_nil))))) da_nil)))
 (ds_seq (ds_while (dt_t (de_op s_ne (DE.b (de_ixL (db_var 2) (DE.b (de_un s_neg (DE.b de_int))))) (db_var 1)))
 (ds_seq (ds_set (de_call (da_cons (DE.s (de_var 0)) (da_cons (DE.s (de_ixL (db_var 2) (DE.b (de_un s_neg (DE.b de_int))))) (da_cons (DE.s (de_var 1)) da_nil)))))
 (ds_seq (ds_if (dt_t (de_op s_eq (db_var 3) (DE.b (de_ixL (db_var 2) (DE.b (de_un s_neg (DE.b de_int)))))))
 (ds_ret (de_varF 2))
 ds_nil)
 (ds_seq (ds_drop (de_append (da_cons (DE.s (de_var 3)) da_nil)))
 (ds_seq (ds_set (de_call (da_cons (DE.s (de_var 0)) (da_cons (DE.s (de_var 3)) (da_cons (DE.s (de_ixL (db_var 1) (DE.b de_int))) da_nil)))))
 (ds_if (dt_t (de_op s_ne (db_var 4) (db_var 3)))
 (ds_drop (de_append (da_cons (DE.s (de_var 4)) da_nil)))
 ds_nil))))))
 (ds_ret (de_varF 2)))) h⟩)
abbrev s_stuck : Stmt := top 24
abbrev N_stuck : List Str := ["diagram", "acted", "asked", "group", "last"]
theorem sc_stuck : FnScope N_stuck ["diagram", "acted", "asked"] (defScope s_stuck) := ⟨rfl, rfl, rfl, by decide +kernel, rfl, by decide +kernel, by decide +kernel⟩
theorem ok_stuck {f : Addr} {fd : FuncData} (F : FnP K "stuck" "stuck" s_stuck f fd) (C_check_asked : Cal P w K mg base (L2.CX P w) 4 "check_asked" ["diagram", "acted", "asked"] (spD K D_check_asked)) (C_counting : Cal P w K mg base CX0 4 "counting" ["diagram", "acted", "asked"] (spD K D_counting)) (C_groups_of : Cal P w K mg base CX0 4 "groups_of" ["diagram", "things"] (spD K D_groups_of)) (C_steps_to : Cal P w K mg base CX0 4 "steps_to" ["diagram", "group"] (spD K D_steps_to)) : FnOk P w K mg base (L2.CX P w) 5 f fd ["diagram", "acted", "asked"] (spD K D_stuck) := by
  refine F.ok sc_stuck (fun vs H Q E h => len_d (N := N_stuck) h) (fun cdv A outer s H vs Q E hr h => ⟨_, (pss_cons (ps_expr (pe_calX C_check_asked hr rfl (takes_of rfl rfl rfl rfl) (pa_cons (pv 0) (pa_cons (pv 1) (pa_cons (pv 2) pa_nil)))))
 (pss_cons (ps_for (passes_of rfl) rfl (pi_listK (K := K) (pe_cal C_groups_of hr rfl (pa_cons (pv 0) (pa_cons (pe_cal C_counting hr rfl (pa_cons (pv 0) (pa_cons (pv 1) (pa_cons (pv 2) pa_nil)))) pa_nil)))) (pg_name (i := 3) sc_stuck.nd rfl (Or.inl rfl))
 (pss_cons (ps_set (i := 4) sc_stuck.nd rfl (Or.inl rfl) (pe_ix (r := rIxL K) ix_list (pe_cal C_steps_to hr rfl (pa_cons (pv 0) (pa_cons (pv 3) pa_nil))) (pe_un un_neg pe_int) (fun _ _ => rfl)))
 (pss_one (ps_if (pt_cmpR (r := rNeD K) (op_neD hr.units) (pv 4) (pv 3) (nomark _))
 (pss_one (ps_ret (pe_tup (pa_cons (pv 3) (pa_cons (pv 4) pa_nil)))))
 pss_nil))))
 (pss_one (ps_ret pe_non)))),
    body_d (N := N_stuck) (ds_seq (ds_drop (de_callX (da_cons (DE.s (de_var 0)) (da_cons (DE.s (de_var 1)) (da_cons (DE.s (de_var 2)) da_nil)))))
 (ds_seq (ds_for (di_list (de_call (da_cons (DE.s (de_var 0)) (da_cons (DE.s (de_call (da_cons (DE.s (de_var 0)) (da_cons (DE.s (de_var 1)) (da_cons (DE.s (de_var 2)) da_nil))))) da_nil)))) (dg_name 3)
 (ds_seq (ds_set (de_ixL (DE.b (de_call (da_cons (DE.s (de_var 0)) (da_cons (DE.s (de_var 3)) da_nil)))) (DE.b (de_un s_neg (DE.b de_int)))))
 (ds_if (dt_t (de_op s_ne (db_var 4) (db_var 3)))
 (ds_ret (de_tup (da_cons (DE.s (de_var 3)) (da_cons (DE.s (de_var 4)) da_nil))))
 ds_nil)))
 (ds_ret de_non))) h⟩)
abbrev s_is_told : Stmt := top 23
abbrev N_is_told : List Str := ["diagram", "acted", "asked"]
theorem sc_is_told : FnScope N_is_told ["diagram", "acted", "asked"] (defScope s_is_told) := ⟨rfl, rfl, rfl, by decide +kernel, rfl, by decide +kernel, by decide +kernel⟩
theorem ok_is_told {f : Addr} {fd : FuncData} (F : FnP K "is_told" "is_told" s_is_told f fd) (C_stuck : Cal P w K mg base (L2.CX P w) 5 "stuck" ["diagram", "acted", "asked"] (spD K D_stuck)) : FnOk P w K mg base (L2.CX P w) 6 f fd ["diagram", "acted", "asked"] (spD K D_is_told) := by
  refine F.ok sc_is_told (fun vs H Q E h => len_d (N := N_is_told) h) (fun cdv A outer s H vs Q E hr h => ⟨_, (pss_one (ps_ret (pe_cmpR op_isN (pe_calX C_stuck hr rfl (takes_of rfl rfl rfl rfl) (pa_cons (pv 0) (pa_cons (pv 1) (pa_cons (pv 2) pa_nil)))) pe_non (nomark _)))),
    body_d (N := N_is_told) (ds_ret (de_op s_isN (DE.b (de_callX (da_cons (DE.s (de_var 0)) (da_cons (DE.s (de_var 1)) (da_cons (DE.s (de_var 2)) da_nil))))) (DE.b de_non))) h⟩)
abbrev s_is_told_withoutS : Stmt := top 33
abbrev N_is_told_withoutS : List Str := ["diagram", "acted", "asked", "indices", "pairs", "at", "pair"]
theorem sc_is_told_withoutS : FnScope N_is_told_withoutS ["diagram", "acted", "asked", "indices"] (defScope s_is_told_withoutS) := ⟨rfl, rfl, rfl, by decide +kernel, rfl, by decide +kernel, by decide +kernel⟩
theorem ok_is_told_withoutS {f : Addr} {fd : FuncData} (F : FnP K "is_told_without" "is_told_without" s_is_told_withoutS f fd) (T : Tx mg) (C_Diagram_pairs : CalP P w K mg base 1 (ga K "Diagram") "pairs" (spD K D_Diagram_pairs)) (C_Diagram_names : CalP P w K mg base 1 (ga K "Diagram") "names" (spD K D_Diagram_names)) (C_Diagram_arrows : CalP P w K mg base 1 (ga K "Diagram") "arrows" (spD K D_Diagram_arrows)) (C_Diagram : CalC P w K mg base (L2.CX P w) 4 "Diagram" (ga K "Diagram") ["self", "names", "arrows", "pairs"] (spI K "Diagram" D_Diagram_init)) (C_is_told : Cal P w K mg base (L2.CX P w) 6 "is_told" ["diagram", "acted", "asked"] (spD K D_is_told)) : FnOk P w K mg base (L2.CX P w) 7 f fd ["diagram", "acted", "asked", "indices"] (spD K D_is_told_withoutS) := by
  refine F.ok sc_is_told_withoutS (fun vs H Q E h => len_d (N := N_is_told_withoutS) h) (fun cdv A outer s H vs Q E hr h => ⟨_, (pss_cons (ps_setLc (i := 4) (own := [("at", 5), ("pair", 6)]) (by rfl) sc_is_told_withoutS.nd rfl rfl (sw_true rfl rfl rfl (by decide +kernel)) (pi_enumK (K := K) (by rfl) T.n_enumerate (pa_cons (pe_propC C_Diagram_pairs hr (pv 0)) pa_nil)) (blkOk_by (own := [("at", 5), ("pair", 6)]) (N := N_is_told_withoutS) (sc := defScope s_is_told_withoutS) (by decide +kernel)) (fun _ _ _ _ _ => (pg_tupK (K := K) (n := 2) (pgs_cons (pg_name (i := 5) sc_is_told_withoutS.nd rfl (Or.inl rfl)) (pgs_cons (pg_name (i := 6) sc_is_told_withoutS.nd rfl (Or.inl rfl)) pgs_nil)))) (fun _ _ _ _ _ => (pts_one (pt_cmpR (r := rIn K true) op_notIn_seq (pv 5) (pv 3) (by rfl)))) (fun _ _ _ _ _ => (pv 6)))
 (pss_one (ps_ret (pe_calX C_is_told hr rfl (takes_of rfl rfl rfl rfl) (pa_cons (pe_mkX C_Diagram hr rfl (takes_of rfl rfl rfl rfl) (pa_cons (pe_propC C_Diagram_names hr (pv 0)) (pa_cons (pe_propC C_Diagram_arrows hr (pv 0)) (pa_cons (pv 4) pa_nil)))) (pa_cons (pv 1) (pa_cons (pv 2) pa_nil))))))),
    body_d (N := N_is_told_withoutS) (ds_seq (ds_setLc (dl_lc (vs := [5, 6]) (di_enum (da_cons (DE.s (de_prop (de_var 0))) da_nil)) (dg_tup (dgs_cons (dg_name 5) (dgs_cons (dg_name 6) dgs_nil))) (by decide) (dt_t (de_op s_notInA (db_var 5) (db_var 3))) (de_var 6)))
 (ds_ret (de_callX (da_cons (DE.s (de_makeX (da_cons (DE.s (de_prop (de_var 0))) (da_cons (DE.s (de_prop (de_var 0))) (da_cons (DE.s (de_var 4)) da_nil))))) (da_cons (DE.s (de_var 1)) (da_cons (DE.s (de_var 2)) da_nil)))))) h⟩)
abbrev s_holds_one : Stmt := top 32
abbrev N_holds_one : List Str := ["lists", "indices", "within", "index"]
theorem sc_holds_one : FnScope N_holds_one ["lists", "indices"] (defScope s_holds_one) := ⟨rfl, rfl, rfl, by decide +kernel, rfl, by decide +kernel, by decide +kernel⟩
theorem ok_holds_one {f : Addr} {fd : FuncData} (F : FnP K "holds_one" "holds_one" s_holds_one f fd) (T : Tx mg) : FnOk P w K mg base CX0 1 f fd ["lists", "indices"] (spD K D_holds_one) := by
  refine F.ok sc_holds_one (fun vs H Q E h => len_d (N := N_holds_one) h) (fun cdv A outer s H vs Q E hr h => ⟨_, PSs.nox ((pss_one (ps_ret (pe_callB (r := rAny K) (cr_any rfl) (by rfl) T.n_any (by decide +kernel) (pa_cons (pe_lc (own := [("within", 2)]) (by rfl) sc_holds_one.nd (pi_listK (K := K) (pv 0)) (blkOk_by (own := [("within", 2)]) (N := N_holds_one) (sc := defScope s_holds_one) (by decide +kernel)) (fun _ _ _ _ _ => (pg_name (i := 2) sc_holds_one.nd rfl (Or.inl rfl))) (fun _ _ _ _ _ => pts_nil) (fun _ _ _ _ _ => (pe_callB (r := rAll K) (cr_all rfl) (by rfl) T.n_all (by decide +kernel) (pa_cons (pe_lc (own := [("index", 3)]) (by rfl) sc_holds_one.nd (pi_listK (K := K) (pv 2)) (blkOk_by (own := [("index", 3)]) (N := N_holds_one) (by rfl)) (fun _ _ _ _ _ => (pg_name (i := 3) sc_holds_one.nd rfl (Or.inl rfl))) (fun _ _ _ _ _ => pts_nil) (fun _ _ _ _ _ => (pe_cmpR (r := rIn K false) op_in_seq (pv 3) (pv 1) (by rfl)))) pa_nil)))) pa_nil))))),
    body_d (N := N_holds_one) (ds_ret (de_b1 s_any (DE.b (DL.e (dl_lc (vs := [2]) (di_list (de_var 0)) (dg_name 2) (by decide) dt_yes (de_b1 s_all (DE.b (DL.e (dl_lc (vs := [3]) (di_list (de_var 2)) (dg_name 3) (by decide) dt_yes (de_op s_inA (db_var 3) (db_var 1))))))))))) h⟩)
abbrev s_cures : Stmt := top 31
abbrev N_cures : List Str := ["diagram", "acted", "asked", "many", "found", "size", "indices"]
theorem sc_cures : FnScope N_cures ["diagram", "acted", "asked"] (defScope s_cures) := ⟨rfl, rfl, rfl, by decide +kernel, rfl, by decide +kernel, by decide +kernel⟩
theorem ok_cures {f : Addr} {fd : FuncData} (F : FnP K "cures" "cures" s_cures f fd) (C_check_asked : Cal P w K mg base (L2.CX P w) 4 "check_asked" ["diagram", "acted", "asked"] (spD K D_check_asked)) (T : Tx mg) (C_Diagram_pairs : CalP P w K mg base 1 (ga K "Diagram") "pairs" (spD K D_Diagram_pairs)) (ht_combinations : mg "combinations" = some (.type "itertools.combinations")) (C_holds_one : Cal P w K mg base CX0 1 "holds_one" ["lists", "indices"] (spD K D_holds_one)) (C_is_told_withoutS : Cal P w K mg base (L2.CX P w) 7 "is_told_without" ["diagram", "acted", "asked", "indices"] (spD K D_is_told_withoutS)) : FnOk P w K mg base (L2.CX P w) 8 f fd ["diagram", "acted", "asked"] (spD K D_cures) := by
  refine F.ok sc_cures (fun vs H Q E h => len_d (N := N_cures) h) (fun cdv A outer s H vs Q E hr h => ⟨_, (pss_cons (ps_expr (pe_calX C_check_asked hr rfl (takes_of rfl rfl rfl rfl) (pa_cons (pv 0) (pa_cons (pv 1) (pa_cons (pv 2) pa_nil)))))
 (pss_cons (ps_set (i := 3) sc_cures.nd rfl (Or.inl rfl) (pe_callB (r := Evl.rLenS K) call_len_seq (by rfl) T.n_len (by decide +kernel) (pa_cons (pe_propC C_Diagram_pairs hr (pv 0)) pa_nil)))
 (pss_cons (ps_set (i := 4) sc_cures.nd rfl (Or.inl rfl) (pe_lst pa_nil))
 (pss_cons (ps_for (passes_of rfl) rfl (pi_range1 (by rfl) T.n_range (pa_cons (pe_op op_add (pv 3) pe_int) pa_nil)) (pg_name (i := 5) sc_cures.nd rfl (Or.inl rfl))
 (pss_one (ps_for (passes_of rfl) rfl (pi_cmbRK (K := K) rfl rfl ht_combinations (by rfl) T.n_range (pv 3) (pv 5)) (pg_name (i := 6) sc_cures.nd rfl (Or.inl rfl))
 (pss_one (ps_if (PW.pt (pw_and (pt_not (pt_val (pe_cal C_holds_one hr rfl (pa_cons (pv 4) (pa_cons (pv 6) pa_nil))))) (pw_and1 (pt_val (pe_calX C_is_told_withoutS hr rfl (takes_of rfl rfl rfl rfl) (pa_cons (pv 0) (pa_cons (pv 1) (pa_cons (pv 2) (pa_cons (pv 6) pa_nil)))))))))
 (pss_one (ps_expr (pe_bmK (K := K) PySem.F.plainAttrs_list PySem.F.slot_list_append PySem.F.type_list_append mt_append (pv 4) (pa_cons (pe_callTy (r := Evl.rListS K) call_list_of (by rfl) T.n_list (by decide +kernel) (pa_cons (pv 6) pa_nil)) pa_nil))))
 pss_nil)))))
 (pss_one (ps_ret (pv 4))))))),
    body_d (N := N_cures) (ds_seq (ds_drop (de_callX (da_cons (DE.s (de_var 0)) (da_cons (DE.s (de_var 1)) (da_cons (DE.s (de_var 2)) da_nil)))))
 (ds_seq (ds_set (de_b1 s_len (DE.b (de_prop (de_var 0)))))
 (ds_seq (ds_setO (dl_lst da_nil))
 (ds_seq (ds_for (di_rng1 (da_cons (DE.s (de_op s_add (db_var 3) (DE.b de_int))) da_nil)) (dg_name 5)
 (ds_for (di_cmbR (de_var 3) (de_var 5)) (dg_name 6)
 (ds_if (dt_and (dt_not (dt_b (de_bor (da_cons (DE.s (de_var 6)) da_nil)))) (dt_b (de_callX (da_cons (DE.s (de_var 0)) (da_cons (DE.s (de_var 1)) (da_cons (DE.s (de_var 2)) (da_cons (DE.s (de_var 6)) da_nil)))))))
 (ds_drop (de_append (da_cons (DE.s (DL.e (dl_list (db_var 6)))) da_nil)))
 ds_nil)))
 (ds_ret (de_varF 4)))))) h⟩)
abbrev s_law_right : Stmt := top 48
abbrev N_law_right : List Str := ["pool", "chart", "acted_here", "asked_here", "made", "due", "doing", "asking", "found", "some", "rest_here", "thing"]
theorem sc_law_right : FnScope N_law_right ["pool"] (defScope s_law_right) := ⟨rfl, rfl, rfl, by decide +kernel, rfl, by decide +kernel, by decide +kernel⟩
theorem ok_law_right {f : Addr} {fd : FuncData} (F : FnP K "_law_right" "_law_right" s_law_right f fd) (C_law_case : Cal P w K mg base CX0 3 "_law_case" ["pool", "widest"] (spP K D_law_case)) (C_law_made : Cal P w K mg base CX0 6 "_law_made" ["chart"] (spD K D_law_made)) (C_law_due : Cal P w K mg base CX0 4 "_law_due" ["chart", "acted_here", "asked_here"] (spD K D_law_due)) (T : Tx mg) (C_cures : Cal P w K mg base (L2.CX P w) 8 "cures" ["diagram", "acted", "asked"] (spD K D_cures)) (C_cures_Ka_a_d : CalK P w K mg base (L2.CX P w) 8 "cures" ["diagram", "acted", "asked"] ["asked", "acted", "diagram"] [2, 1, 0] (spD K D_cures)) : FnG P w K mg base CX0 9 f fd ["pool"] (spP K D_law_right) := by
  refine okG F sc_law_right (fun vs H Q E h => len_p (N := N_law_right) h) (fun cdv A outer s H vs Q E hg hr h => ⟨_, PSs.nox ((pss_cons (ps_asg (pe_cal C_law_case hr rfl (pa_cons (pv 0) (pa_cons pe_int pa_nil))) (pg_tupK (K := K) (n := 3) (pgs_cons (pg_name (i := 1) sc_law_right.nd rfl (Or.inl rfl)) (pgs_cons (pg_name (i := 2) sc_law_right.nd rfl (Or.inr rfl)) (pgs_cons (pg_name (i := 3) sc_law_right.nd rfl (Or.inl rfl)) pgs_nil)))))
 (pss_cons (ps_par (i := 4) (j := 5) (by rfl) sc_law_right.nd rfl rfl (by decide) rfl rfl (pa_cons (pe_cal C_law_made hr rfl (pa_cons (pv 1) pa_nil)) (pa_cons (pe_cal C_law_due hr rfl (pa_cons (pv 1) (pa_cons (pv 2) (pa_cons (pv 3) pa_nil)))) pa_nil)) (by rfl))
 (pss_cons (ps_par (i := 6) (j := 7) (by rfl) sc_law_right.nd rfl rfl (by decide) rfl rfl (pa_cons (pe_callTy (r := Evl.rListS K) call_list_of (by rfl) T.n_list (by decide +kernel) (pa_cons (pv 2) pa_nil)) (pa_cons (pe_callTy (r := Evl.rListS K) call_list_of (by rfl) T.n_list (by decide +kernel) (pa_cons (pv 3) pa_nil)) pa_nil)) (by rfl))
 (pss_cons (ps_set (i := 8) sc_law_right.nd rfl (Or.inl rfl) (pe_lst (pa_cons (pe_calN C_cures hr rfl (pa_cons (pv 4) (pa_cons (pv 6) (pa_cons (pv 7) pa_nil)))) (pa_cons (pe_calKN C_cures_Ka_a_d hr rfl (pk_cons (pv 7) (pk_cons (pv 6) (pk_cons (pv 4) pk_nil)))) pa_nil))))
 (pss_cons (ps_if (PW.pt (pw_or (pt_cmpR op_ne (pe_callB (call_reprD hg hr.units) (by rfl) T.n_repr (by decide +kernel) (pa_cons (pv 8) pa_nil)) (pe_callB (call_reprD hg hr.units) (by rfl) T.n_repr (by decide +kernel) (pa_cons (pe_lst (pa_cons (pv 5) (pa_cons (pv 5) pa_nil))) pa_nil)) (nomark _)) (pw_or1 (pt_cmpR (r := rNeD K) (op_neD hr.units) (pe_lst (pa_cons (pv 6) (pa_cons (pv 7) pa_nil))) (pe_lst (pa_cons (pv 2) (pa_cons (pv 3) pa_nil))) (nomark _)))))
 (pss_one (ps_ret pe_bl))
 pss_nil)
 (pss_cons (ps_for PassesOwn.never rfl (pi_listK (K := K) (pe_ix (r := rIxL K) ix_list (pv 8) pe_int (fun _ _ => rfl))) (pg_name (i := 9) sc_law_right.nd rfl (Or.inl rfl))
 (pss_one (ps_expr (pe_bmK (K := K) PySem.F.plainAttrs_list PySem.F.slot_list_append PySem.F.type_list_append mt_append (pv 9) (pa_cons pe_int pa_nil)))))
 (pss_cons (ps_expr (pe_bmK (K := K) PySem.F.plainAttrs_list PySem.F.slot_list_append PySem.F.type_list_append mt_append (pe_ix (r := rIxL K) ix_list (pv 8) pe_int (fun _ _ => rfl)) (pa_cons (pe_lst pa_nil) pa_nil)))
 (pss_cons (ps_if (pt_cmpR op_ne (pe_callB (call_reprD hg hr.units) (by rfl) T.n_repr (by decide +kernel) (pa_cons (pe_calN C_cures hr rfl (pa_cons (pv 4) (pa_cons (pv 6) (pa_cons (pv 7) pa_nil)))) pa_nil)) (pe_callB (call_reprD hg hr.units) (by rfl) T.n_repr (by decide +kernel) (pa_cons (pv 5) pa_nil)) (nomark _))
 (pss_one (ps_ret pe_bl))
 pss_nil)
 (pss_cons (ps_set (i := 10) sc_law_right.nd rfl (Or.inl rfl) (pe_slice (r := rSlL K) sl_list (pe_lc (own := [("thing", 11)]) (by rfl) sc_law_right.nd (pi_listK (K := K) (pe_ix (r := rIxT K) ix_tup (pv 1) pe_int (fun _ _ => rfl))) (blkOk_by (own := [("thing", 11)]) (N := N_law_right) (sc := defScope s_law_right) (by decide +kernel)) (fun _ _ _ _ _ => (pg_name (i := 11) sc_law_right.nd rfl (Or.inl rfl))) (fun _ _ _ _ _ => (pts_one (pt_cmpR (r := rNotInD K) (op_notInD hr.units5) (pv 11) (pv 2) (by rfl)))) (fun _ _ _ _ _ => (pv 11))) po_none (po_some pe_int)))
 (pss_one (ps_ret (pe_cmpR op_eq (pe_callB (call_reprD hg hr.units) (by rfl) T.n_repr (by decide +kernel) (pa_cons (pe_calN C_cures hr rfl (pa_cons (pv 4) (pa_cons (pv 6) (pa_cons (pv 10) pa_nil)))) pa_nil)) (pe_callB (call_reprD hg hr.units) (by rfl) T.n_repr (by decide +kernel) (pa_cons (pe_cal C_law_due hr rfl (pa_cons (pv 1) (pa_cons (pv 2) (pa_cons (pv 10) pa_nil)))) pa_nil)) (nomark _)))))))))))))),
    body_p (N := N_law_right) (ds_seq (ds_asg (dg_tup (dgs_cons (dg_name 1) (dgs_cons (dg_name 2) (dgs_cons (dg_name 3) dgs_nil)))) (de_callP (da_cons (DE.s de_int) da_nil)))
 (ds_seq (ds_par (da_cons (DE.s (de_call (da_cons (DE.s (de_var 1)) da_nil))) (da_cons (DE.s (de_call (da_cons (DE.s (de_var 1)) (da_cons (DE.s (de_var 2)) (da_cons (DE.s (de_var 3)) da_nil))))) da_nil)))
 (ds_seq (ds_par (da_cons (DE.s (DL.e (dl_list (db_var 2)))) (da_cons (DE.s (DL.e (dl_list (db_var 3)))) da_nil)))
 (ds_scrL_1 (i := 8) (j := 9) (mu := mu_for) (da_cons (DE.s (de_var 4)) (da_cons (DE.s (de_var 6)) (da_cons (DE.s (de_var 7)) da_nil))) (de_callKN (da_cons (DE.s (de_var 7)) (da_cons (DE.s (de_var 6)) (da_cons (DE.s (de_var 4)) da_nil)))) (drd_if (dt_or (dt_t (de_op s_neR (DE.b (de_b1 s_repr (db_var 8))) (DE.b (de_b1 s_repr (DE.b (DL.e (dl_lst (da_cons (DE.s (de_var 5)) (da_cons (DE.s (de_var 5)) da_nil))))))))) (dt_t (de_op s_ne (DE.b (DL.e (dl_lst (da_cons (DE.s (de_var 6)) (da_cons (DE.s (de_var 7)) da_nil))))) (DE.b (DL.e (dl_lst (da_cons (DE.s (de_var 2)) (da_cons (DE.s (de_var 3)) da_nil)))))))) (ds_ret de_bl)) (ds_seq (ds_if (dt_t (de_op s_neR (DE.b (de_b1 s_repr (DE.b (de_call (da_cons (DE.s (de_var 4)) (da_cons (DE.s (de_var 6)) (da_cons (DE.s (de_var 7)) da_nil))))))) (DE.b (de_b1 s_repr (db_var 5)))))
 (ds_ret de_bl)
 ds_nil)
 (ds_seq (ds_set (DL.e (dl_slice (DE.b (DL.e (dl_lc (vs := [11]) (di_list (de_ixT (db_var 1) (DE.b de_int))) (dg_name 11) (by decide) (dt_t (de_op s_notIn (db_var 11) (db_var 2))) (de_var 11)))) do_none (do_some de_int))))
 (ds_ret (de_op s_eqR (DE.b (de_b1 s_repr (DE.b (de_call (da_cons (DE.s (de_var 4)) (da_cons (DE.s (de_var 6)) (da_cons (DE.s (de_var 10)) da_nil))))))) (DE.b (de_b1 s_repr (DE.b (de_call (da_cons (DE.s (de_var 1)) (da_cons (DE.s (de_var 2)) (da_cons (DE.s (de_var 10)) da_nil))))))))))) (mut_for (by decide)))))) h⟩)
end
end Da
end F101
section F102
open L2 Ds
local macro_rules | `(tactic| walk_at "ds1") => `(tactic| with_reducible first
  | refine d_seq ?_ | refine d_asg ?_ | refine d_gname ?_ | refine d_if ?_ | refine d_next ?_ | refine d_ret ?_ | refine d_drop ?_ | refine d_test ?_ | refine d_B ?_ | refine d_c ?_
  | refine d_op ?_ | refine d_un ?_ | refine d_rI0 ?_ | refine d_rU ?_ | refine d_cons ?_ | refine d_nil ?_ | refine d_cb ?_ | refine d_bl ?_ | refine d_call ?_ | refine d_and ?_ | refine d_or ?_ | refine d_not ?_ | refine d_lst ?_ | refine d_tup ?_
  | refine d_par ?_ | refine d_par2 ?_ | refine d_for ?_ | refine d_rng1 ?_ | refine d_rng2 ?_ | refine d_ils ?_ | refine d_its ?_ | refine d_ien ?_ | refine d_lc ?_ | refine d_yes ?_ | refine d_step2 ?_ | refine d_chain ?_ | refine d_andV ?_ | refine d_orV ?_ | refine d_notV ?_ | refine d_slice ?_ | refine d_nopart ?_ | refine d_part ?_ | refine d_int ?_ | refine d_s2 ?_ | refine d_mkO ?_ | refine d_callS ?_ | refine d_p0 ?_ | refine d_p1 ?_ | refine d_disp ?_ | refine d_din ?_ | refine d_dnotin ?_ | refine d_dput ?_ | refine d_sfld ?_ | refine d_fld ?_ | refine d_gcons ?_ | refine d_gnil ?_ | refine d_gsub ?_ | refine d_bm ?_ | refine d_bm0 ?_)
local macro_rules | `(tactic| walk_at "ds2") => `(tactic| first
  | ((with_reducible show tVar _ _ _ _); refine d_var (by exact rfl) ?_)
  | (with_reducible refine d_i1 ?_) | (with_reducible refine d_i2 ?_) | (with_reducible refine d_o1 ?_) | ((with_reducible refine d_ls ?k1 ?_); (case k1 => exact Nat.le_of_ble_eq_true rfl))
  | ((with_reducible refine' d_lenS ?k1 ?_); (case k1 => first | assumption | exact SqL.of (by assumption))) | ((with_reducible refine' d_listS ?k1 ?_); (case k1 => first | assumption | exact SqL.of (by assumption)))
  | ((with_reducible refine' d_len ?k1 ?_); (case k1 => first | assumption | exact SqL.of (by assumption)))
  | ((with_reducible refine' d_eq ?k1 ?_); (case k1 => rfl)) | ((with_reducible refine' d_ne ?k1 ?_); (case k1 => rfl))
  | ((with_reducible refine' d_new ?k1 ?_); (case k1 => exact Nat.le_of_ble_eq_true rfl)))
local macro_rules | `(tactic| walk_at "rd") => `(tactic| repeat (first | walk_at "ds1" | walk_at "ds2"))
local macro_rules | `(tactic| walk_at "sub") => `(tactic| repeat (first | exact List.Sublist.slnil | exact List.Sublist.refl _ | refine List.Sublist.cons₂ _ ?_ | refine List.Sublist.cons _ ?_))
namespace Da
open PySem PySem.Spec PyProof.Rows L2 He Ds
abbrev s_pool : Stmt := top 35
abbrev s_law : Stmt := top 49
/-- a pool at p, drawn from at most n times -/
def Pool (H : Hp) (p : Addr) (n : Nat) : Prop := ∃ a b c : Int, H p = some (.lst [.int a, .int b, .int c]) ∧ 0 ≤ a ∧ 0 ≤ b ∧ b < 2 ^ 62 ∧ 0 ≤ c ∧ c ≤ n
theorem Pool.mono {H : Hp} {p : Addr} {n m : Nat} (h : Pool H p n) (k : n ≤ m) : Pool H p m := by
  obtain ⟨a, b, c, h1, h2, h3, h4, h5, h6⟩ := h
  exact ⟨a, b, c, h1, h2, h3, h4, h5, by omega⟩
def spPool (K : PySem.W.Frag) : Sp := fun vs H Q _ => ∃ (a : Addr) (ns : List Int) (i : Nat), vs = [.ref a, .int i] ∧ SqL K H a (ns.map V.int) ∧ ns.length ≤ 63 ∧ i < 63 ∧
  ∀ p o, H p = none → Pool (upd H p o) p 0 → Q (.ref p) (upd H p o)
section
variable {P : Program} {w : World} {K : PySem.W.Frag} {mg : Str → Option Value} {base : Heap}
theorem sc_pool : FnScope ["script", "spot", "cell"] ["script", "spot"] (defScope s_pool) := ⟨rfl, rfl, rfl, by decide +kernel, rfl, by decide +kernel, by decide +kernel⟩
theorem ok_pool {f : Addr} {fd : FuncData} (F : FnP K "_law_pool" "_law_pool" s_pool f fd) (T : Tx mg) : FnOk P w K mg base CX0 1 f fd ["script", "spot"] (spPool K) := by
  refine F.ok sc_pool (fun vs H Q E h => ?_) (fun cdv A outer s H vs Q E hr h => ⟨_, PSs.nox ((pss_cons (ps_set (i := 2) sc_pool.nd rfl (Or.inl rfl) pe_int)
 (Evl.pss_cut (ps_if (pt_cmpR op_lt (pv 1) (pe_callB (r := Evl.rLenS K) call_len_seq (by rfl) T.n_len (by decide +kernel) (pa_cons (pv 0) pa_nil)) (nomark _))
 (pss_one (ps_set (i := 2) sc_pool.nd rfl (Or.inl rfl) (pe_ix (r := rIxL K) ix_list (pv 0) (pv 1) (fun _ _ => rfl))))
 pss_nil)
 (pss_one (ps_ret (pe_lst (pa_cons (pe_callB (call_max2 rfl) (by rfl) T.n_max (by decide +kernel) (pa_cons pe_int (pa_cons (pe_op op_sub (pe_callB call_abs (by rfl) T.n_abs (by decide +kernel) (pa_cons (pv 2) pa_nil)) (pe_op op_powW pe_int pe_int)) pa_nil))) (pa_cons (pe_op op_add (pe_op op_mod (pe_callTy call_int1 (by rfl) T.n_int (by decide +kernel) (pa_cons (pv 2) pa_nil)) pe_int) (pe_op op_mulW pe_int (pe_op op_add (pv 1) pe_int))) (pa_cons pe_int pa_nil))))))))), ?_⟩)
  · obtain ⟨a, ns, i, rfl, _⟩ := h
    rfl
  · obtain ⟨a, ns, i, rfl, hS, hl, hi, k⟩ := h
    walk_at "rd"
    refine d_cut (M := fun σ' H' => ∃ z : Int, σ' = [some (.ref a), some (.int i), some (.int z)] ∧ H' = H) ?_ ?_
    · walk_at "rd"
      refine ite2 (fun c => ?_) (fun c => ?_)
      · have c' : (i : Int) < ((ns.map V.int).length : Nat) := of_decide_eq_true c
        rw [List.length_map] at c'
        have hi' : i < ns.length := by omega
        walk_at "rd"
        refine d_ix1 hS (atI_nat (v := .int ns[i]) (by rw [List.getElem?_map, List.getElem?_eq_getElem hi']; rfl)) ?_
        walk_at "rd"
        exact ⟨_, rfl, rfl⟩
      · walk_at "rd"
        exact ⟨_, rfl, rfl⟩
    · rintro σ' H' ⟨z, rfl, rfl⟩
      walk_at "rd"
      refine d_rI ⟨by decide, by decide⟩ ?_
      walk_at "rd"
      refine d_rI (by decide) ?_
      walk_at "rd"
      refine d_rI (wide_mul (a := 30) (b := 30) (by decide) (by omega) (by decide) (by decide) (by decide)) ?_
      walk_at "rd"
      intro p hp
      refine k p _ hp ⟨_, _, _, upd_same, ?_, ?_, ?_, by decide, by decide⟩
      · split <;> omega
      · have h1 := Int.emod_nonneg z (show (2305843009213693951 : Int) ≠ 0 by decide)
        omega
      · have h1 := Int.emod_lt_of_pos z (show (0 : Int) < 2305843009213693951 by decide)
        omega
theorem sp_right {H : Hp} {p : Addr} {n : Nat} {Q : VK} {E : XK} (h : Pool H p n) (hn : n ≤ 800000000) (tb : TbsE K H) (k : ∀ H', Old (fun b => b = p) H H' → TbsE K H' → Pool H' p (n + 400) → Q (.bl true) H') : spP K D_law_right ([.ref p] ++ []) H Q E := by
  obtain ⟨a, b, c, h1, h2, h3, h4, h5, h6⟩ := h
  obtain ⟨G, t1, t2, t3⟩ := tb
  obtain ⟨ns', ⟨a', b', c', rfl, g2, g3, g4, g5, g6⟩, e⟩ := ev_law_right (ns := [a, b, c]) (n := n) ⟨a, b, c, rfl, h2, h3, h4, h5, h6⟩ hn
  refine ⟨p, [], [a, b, c], G, [], rfl, h1, tbse_pool t1 t3 h1, t1, t2, .nil, ?_⟩
  rw [e]
  intro v G' H' f1 tb' f2 _ gs' _ hv
  cases hv
  exact k H' f1 (TbsE.of gs' tb') ⟨a', b', c', f2, g2, g3, g4, g5, g6⟩
theorem sc_law : FnScope ["script", "spot", "pool", "turn"] ["script"] (defScope s_law) := ⟨rfl, rfl, rfl, by decide +kernel, rfl, by decide +kernel, by decide +kernel⟩
def spLaw (K : PySem.W.Frag) : Sp := fun us H Q _ => ∃ (a : Addr) (ns : List Int), us = [.ref a] ∧ SqL K H a (ns.map V.int) ∧ TbsE K H ∧ ns.length ≤ 63 ∧ ∀ H', Q (.bl true) H'
theorem ok_law {f : Addr} {fd : FuncData} (F : FnP K "law" "law" s_law f fd) (T : Tx mg) (C_pool : Cal P w K mg base CX0 1 "_law_pool" ["script", "spot"] (spPool K)) (C_right : CalG P w K mg base CX0 9 "_law_right" ["pool"] (spP K D_law_right)) :
    FnG P w K mg base CX0 10 f fd ["script"] (spLaw K) := by
  refine okG F sc_law (fun vs H Q E h => ?_) (fun cdv A outer s H vs Q E hg hr h => ⟨_, PSs.nox ((pss_cons (ps_for PassesOwn.never rfl (pi_range1 (by rfl) T.n_range (pa_cons (pe_callB (call_max2 rfl) (by rfl) T.n_max (by decide +kernel) (pa_cons pe_int (pa_cons (pe_callB (call_min2 rfl) (by rfl) T.n_min (by decide +kernel) (pa_cons pe_int (pa_cons (pe_callB (r := Evl.rLenS K) call_len_seq (by rfl) T.n_len (by decide +kernel) (pa_cons (pv 0) pa_nil)) pa_nil))) pa_nil))) pa_nil)) (pg_name (i := 1) sc_law.nd rfl (Or.inl rfl))
 (pss_cons (ps_set (i := 2) sc_law.nd rfl (Or.inl rfl) (pe_cal C_pool hr rfl (pa_cons (pv 0) (pa_cons (pv 1) pa_nil))))
 (pss_one (ps_for PassesOwn.never rfl (pi_range1 (by rfl) T.n_range (pa_cons pe_int pa_nil)) (pg_name (i := 3) sc_law.nd rfl (Or.inl rfl))
 (pss_one (ps_if (pt_not (pt_val (pe_calG C_right hr hg rfl (pa_cons (pv 2) pa_nil))))
 (pss_one (ps_ret pe_bl))
 pss_nil))))))
 (pss_one (ps_ret pe_bl)))), ?_⟩)
  · obtain ⟨a, ns, rfl, _⟩ := h
    rfl
  · obtain ⟨a, ns, rfl, hS, tb, hl, k⟩ := h
    walk_at "rd"
    rw [List.length_map]
    generalize hz : (if (if ((ns.length : Nat) : Int) < 5 then ((ns.length : Nat) : Int) else 5) > 1 then (if ((ns.length : Nat) : Int) < 5 then ((ns.length : Nat) : Int) else 5) else 1) = z
    have z0 : 1 ≤ z := by rw [← hz]; split <;> omega
    have z6 : z ≤ 5 := by rw [← hz]; split <;> split <;> omega
    refine ⟨by omega, by omega, ?_⟩
    refine for_range (lo := 0) (n := z.toNat) (fun i σ' Hc => ∃ v1 v2 v3 : Option V, σ' = [some (.ref a), v1, v2, v3] ∧ Old (fun _ => False) H Hc ∧ TbsE K Hc) ?_ ?_ ?_
    · exact ⟨none, none, none, rfl, Old.refl, tb⟩
    · rintro i σ' Hc hi ⟨v1, v2, v3, rfl, sc, tc⟩
      walk_at "rd"
      refine ⟨a, ns, i, by rw [Int.zero_add]; rfl, sc.seq hS, hl, by omega, fun p o np P0 => ?_⟩
      have s1 : Old (fun _ => False) H (upd Hc p o) := sc.trans (Old.of (same_new (Same.refl Hc) np))
      have np0 := sc.free np
      walk_at "rd"
      refine ⟨by decide, by decide, ?_⟩
      refine for_range (lo := 0) (n := (3 : Int).toNat) (fun j σ' Hd => ∃ v1 v3 : Option V, σ' = [some (.ref a), v1, some (.ref p), v3] ∧ Old (fun _ => False) H Hd ∧ TbsE K Hd ∧ Pool Hd p (400 * j)) ?_ ?_ ?_
      · exact ⟨_, _, rfl, s1, tc.grow (same_new (Same.refl Hc) np), P0⟩
      · rintro j σ' Hd hj ⟨v1, v3, rfl, sd, td, Pd⟩
        have hj4 : j < 3 := hj
        walk_at "rd"
        refine sp_right Pd (by omega) td fun He fe te Pe => ?_
        walk_at "rd"
        refine iteF ?_
        walk_at "rd"
        exact ⟨_, _, rfl, sd.less fe np0, te, by rw [Nat.mul_succ]; exact Pe⟩
      · rintro σ' Hd ⟨v1, v3, rfl, sd, td, Pd⟩
        walk_at "rd"
        exact ⟨_, _, _, rfl, sd, td⟩
    · rintro σ' Hc ⟨v1, v2, v3, rfl, sc, tc⟩
      walk_at "rd"
      exact k _
end
end Da
end F102
section F103
open L2 Ds
namespace Da
open PySem PySem.Spec PyProof.Rows L2 He Ds
section
variable {P : Program} {w : World} {K : PySem.W.Frag} {mg : Str → Option Value} {base : Heap} {x qual : Str} {prm : Arguments} {body : List Stmt} {sc : Scope} {f : Addr} {fd : FuncData} {CX : CXT} {k : Nat} {ps : List Str} {sp : Sp} {C : Addr} {m : Str}
theorem mkCal (F : FunD K x qual prm body sc [] [] f fd) (g : mg x = some (.ref f)) (ok : FnOk P w K mg base CX k f fd ps sp)
    (b : ∀ (kV doc pm : Value) (an : Option Addr) (cdv ct : Value) (us : List Value), us.length = ps.length → bindArgs (PySem.W.fnOf x qual prm body sc .none kV doc pm an cdv ct) ⟨us, []⟩ = pure (ps.zip us)) : Cal P w K mg base CX k x ps sp := ⟨f, fd, ok, g, F.kp, F.bindsN b⟩
theorem mkCalG (F : FunD K x qual prm body sc [] [] f fd) (g : mg x = some (.ref f)) (ok : FnG P w K mg base CX k f fd ps sp)
    (b : ∀ (kV doc pm : Value) (an : Option Addr) (cdv ct : Value) (us : List Value), us.length = ps.length → bindArgs (PySem.W.fnOf x qual prm body sc .none kV doc pm an cdv ct) ⟨us, []⟩ = pure (ps.zip us)) : CalG P w K mg base CX k x ps sp := ⟨f, fd, ok, g, F.kp, F.bindsN b⟩
theorem mkCalK {ks : List Str} {ix : List Nat} (F : FunD K x qual prm body sc [] [] f fd) (g : mg x = some (.ref f)) (ok : FnOk P w K mg base CX k f fd ps sp)
    (b : ∀ (kV doc pm : Value) (an : Option Addr) (cdv ct : Value) (ws : List Value), ws.length = ks.length → bindArgs (PySem.W.fnOf x qual prm body sc .none kV doc pm an cdv ct) ⟨[], ks.zip ws⟩ = pure (ps.zip (pick ix ws))) : CalK P w K mg base CX k x ps ks ix sp := by
  refine ⟨f, fd, ok, g, F.kp, fun s ws X hl => ?_⟩
  obtain ⟨oc, od, dV, kV, doc, pm, an, cdv, ct, osl, rfl, lk, hcd, hD, hK⟩ := F.ex
  rcases hD with ⟨_, rfl⟩ | ⟨e, _⟩
  · exact BindsTo.of_eq (b kV doc pm an cdv ct ws hl)
  · exact absurd rfl e
end
abbrev s_einit : Stmt := inClass (top 3) 0
section
variable {P : Program} {w : World} {K : PySem.W.Frag} {mg : Str → Option Value} {base : Heap}
theorem sc_einit : FnScope ["self", "value"] ["self", "value"] (defScope s_einit) := ⟨rfl, rfl, rfl, by decide +kernel, rfl, by decide +kernel, by decide +kernel⟩
theorem ok_einit {f : Addr} {fd : FuncData} (F : FnP K "__init__" "DeedError.__init__" s_einit f fd) : FnOk P w K mg base CX0 1 f fd ["self", "value"] (spErrI K) := by
  refine F.ok sc_einit (fun vs H Q E h => ?_) (fun cdv A outer s H vs Q E hr h => ⟨_, PSs.nox (pss_one (ps_ost (pv 0) (pv 1))), ?_⟩)
  · obtain ⟨a, C, v, rfl, _⟩ := h
    rfl
  · obtain ⟨a, C, v, rfl, T, hno, ha, k⟩ := h
    exact ⟨_, rfl, _, rfl, a, C, rfl, T, hno, .inl ⟨ha, fun dx h1 h2 => k dx h1 h2⟩⟩
end
def exB (K : PySem.W.Frag) : Bool := ((["InvalidName", "InvalidNumber", "InvalidArrow", "InvalidPair", "InvalidDeed"] : List Str).all (errB K)) && decide (PySem.W.typeIn K (.ref (errI K)) = some (.type "function")) && (match PySem.W.nsIn K mainGlobals "combinations" with | some (some (.type b)) => decide (b = "itertools.combinations") | _ => false)
def dd_DeedError___init__ : He.DefD := ⟨("DeedError", some "__init__"), "__init__", "DeedError.__init__", defArgs (inClass (top 3) 0), defBody (inClass (top 3) 0), defScope (inClass (top 3) 0), [], []⟩
def dd__law_draw : He.DefD := ⟨("_law_draw", none), "_law_draw", "_law_draw", defArgs (top 36), defBody (top 36), defScope (top 36), [], []⟩
def dd__law_chart : He.DefD := ⟨("_law_chart", none), "_law_chart", "_law_chart", defArgs (top 37), defBody (top 37), defScope (top 37), [], []⟩
def dd__law_known : He.DefD := ⟨("_law_known", none), "_law_known", "_law_known", defArgs (top 38), defBody (top 38), defScope (top 38), [], []⟩
def dd__law_case : He.DefD := ⟨("_law_case", none), "_law_case", "_law_case", defArgs (top 39), defBody (top 39), defScope (top 39), [], []⟩
def dd_is_letter : He.DefD := ⟨("is_letter", none), "is_letter", "is_letter", defArgs (top 19), defBody (top 19), defScope (top 19), [], []⟩
def dd_check_things : He.DefD := ⟨("check_things", none), "check_things", "check_things", defArgs (top 16), defBody (top 16), defScope (top 16), [], []⟩
def dd_things_leading : He.DefD := ⟨("things_leading", none), "things_leading", "things_leading", defArgs (top 21), defBody (top 21), defScope (top 21), [], []⟩
def dd_are_two : He.DefD := ⟨("are_two", none), "are_two", "are_two", defArgs (top 20), defBody (top 20), defScope (top 20), [], []⟩
def dd_check_arrows : He.DefD := ⟨("check_arrows", none), "check_arrows", "check_arrows", defArgs (top 17), defBody (top 17), defScope (top 17), [], []⟩
def dd_check_pairs : He.DefD := ⟨("check_pairs", none), "check_pairs", "check_pairs", defArgs (top 18), defBody (top 18), defScope (top 18), [], []⟩
def dd_Diagram___init__ : He.DefD := ⟨("Diagram", some "__init__"), "__init__", "Diagram.__init__", defArgs (inClass (top 15) 0), defBody (inClass (top 15) 0), defScope (inClass (top 15) 0), [], []⟩
def dd__law_made : He.DefD := ⟨("_law_made", none), "_law_made", "_law_made", defArgs (top 40), defBody (top 40), defScope (top 40), [], []⟩
def dd__law_subsets : He.DefD := ⟨("_law_subsets", none), "_law_subsets", "_law_subsets", defArgs (top 46), defBody (top 46), defScope (top 46), [], []⟩
def dd__law_leads : He.DefD := ⟨("_law_leads", none), "_law_leads", "_law_leads", defArgs (top 41), defBody (top 41), defScope (top 41), [], []⟩
def dd__law_group : He.DefD := ⟨("_law_group", none), "_law_group", "_law_group", defArgs (top 42), defBody (top 42), defScope (top 42), [], []⟩
def dd__law_wanted : He.DefD := ⟨("_law_wanted", none), "_law_wanted", "_law_wanted", defArgs (top 43), defBody (top 43), defScope (top 43), [], []⟩
def dd__law_chain : He.DefD := ⟨("_law_chain", none), "_law_chain", "_law_chain", defArgs (top 44), defBody (top 44), defScope (top 44), [], []⟩
def dd__law_stuck : He.DefD := ⟨("_law_stuck", none), "_law_stuck", "_law_stuck", defArgs (top 45), defBody (top 45), defScope (top 45), [], []⟩
def dd__law_due : He.DefD := ⟨("_law_due", none), "_law_due", "_law_due", defArgs (top 47), defBody (top 47), defScope (top 47), [], []⟩
def dd_check_names : He.DefD := ⟨("check_names", none), "check_names", "check_names", defArgs (top 10), defBody (top 10), defScope (top 10), [], []⟩
def dd_check_apart : He.DefD := ⟨("check_apart", none), "check_apart", "check_apart", defArgs (top 11), defBody (top 11), defScope (top 11), [], []⟩
def dd_check_asked : He.DefD := ⟨("check_asked", none), "check_asked", "check_asked", defArgs (top 12), defBody (top 12), defScope (top 12), [], []⟩
def dd_group_around : He.DefD := ⟨("group_around", none), "group_around", "group_around", defArgs (top 28), defBody (top 28), defScope (top 28), [], []⟩
def dd_groups_of : He.DefD := ⟨("groups_of", none), "groups_of", "groups_of", defArgs (top 27), defBody (top 27), defScope (top 27), [], []⟩
def dd_leading_within : He.DefD := ⟨("leading_within", none), "leading_within", "leading_within", defArgs (top 26), defBody (top 26), defScope (top 26), [], []⟩
def dd_counting : He.DefD := ⟨("counting", none), "counting", "counting", defArgs (top 25), defBody (top 25), defScope (top 25), [], []⟩
def dd_steps_to : He.DefD := ⟨("steps_to", none), "steps_to", "steps_to", defArgs (top 29), defBody (top 29), defScope (top 29), [], []⟩
def dd_stuck : He.DefD := ⟨("stuck", none), "stuck", "stuck", defArgs (top 24), defBody (top 24), defScope (top 24), [], []⟩
def dd_is_told : He.DefD := ⟨("is_told", none), "is_told", "is_told", defArgs (top 23), defBody (top 23), defScope (top 23), [], []⟩
def dd_is_told_without : He.DefD := ⟨("is_told_without", none), "is_told_without", "is_told_without", defArgs (top 33), defBody (top 33), defScope (top 33), [], []⟩
def dd_holds_one : He.DefD := ⟨("holds_one", none), "holds_one", "holds_one", defArgs (top 32), defBody (top 32), defScope (top 32), [], []⟩
def dd_cures : He.DefD := ⟨("cures", none), "cures", "cures", defArgs (top 31), defBody (top 31), defScope (top 31), [], []⟩
def dd__law_right : He.DefD := ⟨("_law_right", none), "_law_right", "_law_right", defArgs (top 48), defBody (top 48), defScope (top 48), [], []⟩
def dd__law_pool : He.DefD := ⟨("_law_pool", none), "_law_pool", "_law_pool", defArgs (top 35), defBody (top 35), defScope (top 35), [], []⟩
def dd_law : He.DefD := ⟨("law", none), "law", "law", defArgs (top 49), defBody (top 49), defScope (top 49), [], []⟩
def fnL : List He.DefD := [dd_DeedError___init__, dd__law_draw, dd__law_chart, dd__law_known, dd__law_case, dd_is_letter, dd_check_things, dd_things_leading, dd_are_two, dd_check_arrows, dd_check_pairs, dd_Diagram___init__, dd__law_made, dd__law_subsets, dd__law_leads, dd__law_group, dd__law_wanted, dd__law_chain, dd__law_stuck, dd__law_due, dd_check_names, dd_check_apart, dd_check_asked, dd_group_around, dd_groups_of, dd_leading_within, dd_counting, dd_steps_to, dd_stuck, dd_is_told, dd_is_told_without, dd_holds_one, dd_cures, dd__law_right, dd__law_pool, dd_law]
def faL : List He.Fa := [.free "abs", .free "int", .free "len", .free "list", .free "max", .free "min", .free "range", .free "enumerate", .free "zip", .free "repr", .free "isinstance", .free "ValueError", .free "all", .free "any", .free "sum", .free "sorted", .free "tuple", .free "dict", .free "set", .free "str", .glo "InvalidName", .glo "InvalidNumber", .glo "InvalidArrow", .glo "InvalidPair", .glo "InvalidDeed", .glo "law", .cls "Diagram", .noat "Diagram" "_names", .noat "Diagram" "_arrows", .noat "Diagram" "_pairs", .int "MOST_THINGS" 6, .glo "_law_pool", .glo "_law_draw", .glo "_law_chart", .glo "_law_known", .glo "_law_case", .glo "is_letter", .glo "check_things", .glo "things_leading", .glo "are_two", .glo "check_arrows", .glo "check_pairs", .glo "Diagram", .mkr "Diagram", .glo "_law_made", .glo "_law_subsets", .glo "_law_leads", .glo "_law_group", .glo "_law_wanted", .glo "_law_chain", .glo "_law_stuck", .glo "_law_due", .glo "check_names", .glo "check_apart", .glo "check_asked", .glo "group_around", .glo "groups_of", .glo "leading_within", .glo "counting", .glo "steps_to", .glo "stuck", .glo "is_told", .glo "is_told_without", .glo "holds_one", .glo "cures", .glo "_law_right"]
def dg (C m : Str) (st : Stmt) (q : Str) : He.DefD := ⟨(C, some m), m, q, defArgs st, defBody st, defScope st, [], []⟩
def gtL : List GtD := [⟨"Diagram", "names", dg "Diagram" "names" s_Diagram_names "Diagram.names"⟩, ⟨"Diagram", "pairs", dg "Diagram" "pairs" s_Diagram_pairs "Diagram.pairs"⟩, ⟨"Diagram", "arrows", dg "Diagram" "arrows" s_Diagram_arrows "Diagram.arrows"⟩]
theorem facts {P : Program} {w : World} {K : PySem.W.Frag} {h : Heap} {mg : Str → Option Value} {f : Addr} (X : K.In h) (G : h.Ns mainGlobals mg) (hfa : mg ("law" : Str) = some (.ref f)) (c : He.SaysD faL fnL K) (more : exB K = true)
    (gt : ∀ q ∈ gtL, fnV K (gtA q.C q.x K) = q.d.val ∧ gtB K q.C q.x q.d.qual = true) :
    ∃ fd : FuncData, (∀ (s : Shared) (v : Value), BindsTo s fd ⟨[v], []⟩ [("script", v)]) ∧ ∀ base : Heap, K.In base → base.Ns mainGlobals mg → FnG P w K mg base CX0 10 f fd ["script"] (spLaw K) := by
  have T : Tx mg := ⟨(He.free_ok X G (c.fact 0 (f := .free "abs") rfl)), (He.free_ok X G (c.fact 1 (f := .free "int") rfl)), (He.free_ok X G (c.fact 2 (f := .free "len") rfl)), (He.free_ok X G (c.fact 3 (f := .free "list") rfl)), (He.free_ok X G (c.fact 4 (f := .free "max") rfl)), (He.free_ok X G (c.fact 5 (f := .free "min") rfl)), (He.free_ok X G (c.fact 6 (f := .free "range") rfl)), (He.free_ok X G (c.fact 7 (f := .free "enumerate") rfl)), (He.free_ok X G (c.fact 8 (f := .free "zip") rfl)), (He.free_ok X G (c.fact 9 (f := .free "repr") rfl)), (He.free_ok X G (c.fact 10 (f := .free "isinstance") rfl)), (He.free_ok X G (c.fact 11 (f := .free "ValueError") rfl)), (He.free_ok X G (c.fact 12 (f := .free "all") rfl)), (He.free_ok X G (c.fact 13 (f := .free "any") rfl)), (He.free_ok X G (c.fact 14 (f := .free "sum") rfl)), (He.free_ok X G (c.fact 15 (f := .free "sorted") rfl)), (He.free_ok X G (c.fact 16 (f := .free "tuple") rfl)), (He.free_ok X G (c.fact 17 (f := .free "dict") rfl)), (He.free_ok X G (c.fact 18 (f := .free "set") rfl)), (He.free_ok X G (c.fact 19 (f := .free "str") rfl))⟩
  obtain ⟨more, mo_ht_combinations⟩ := ba more
  have ht_combinations : mg "combinations" = some (.type "itertools.combinations") := ty_ok X G mo_ht_combinations
  obtain ⟨m1, m2⟩ := ba more
  have tyI := of_decide_eq_true m2
  have er : ∀ x ∈ (["InvalidName", "InvalidNumber", "InvalidArrow", "InvalidPair", "InvalidDeed"] : List Str), mg x = some (.ref (ga K x)) → ErrC K mg x := fun x hx gl => errB_ok (List.all_eq_true.mp m1 x hx) gl
  have T_InvalidName := er "InvalidName" (by decide +kernel) (He.glo_ok X G (c.fact 20 (f := .glo "InvalidName") rfl))
  have T_InvalidNumber := er "InvalidNumber" (by decide +kernel) (He.glo_ok X G (c.fact 21 (f := .glo "InvalidNumber") rfl))
  have T_InvalidArrow := er "InvalidArrow" (by decide +kernel) (He.glo_ok X G (c.fact 22 (f := .glo "InvalidArrow") rfl))
  have T_InvalidPair := er "InvalidPair" (by decide +kernel) (He.glo_ok X G (c.fact 23 (f := .glo "InvalidPair") rfl))
  have T_InvalidDeed := er "InvalidDeed" (by decide +kernel) (He.glo_ok X G (c.fact 24 (f := .glo "InvalidDeed") rfl))
  obtain ⟨f_einit, F_einit⟩ := (c.def_ 0 (d := dd_DeedError___init__) rfl)
  obtain ⟨f_law_draw, F_law_draw⟩ := (c.def_ 1 (d := dd__law_draw) rfl)
  obtain ⟨f_law_chart, F_law_chart⟩ := (c.def_ 2 (d := dd__law_chart) rfl)
  obtain ⟨f_law_known, F_law_known⟩ := (c.def_ 3 (d := dd__law_known) rfl)
  obtain ⟨f_law_case, F_law_case⟩ := (c.def_ 4 (d := dd__law_case) rfl)
  obtain ⟨f_is_letter, F_is_letter⟩ := (c.def_ 5 (d := dd_is_letter) rfl)
  obtain ⟨f_check_things, F_check_things⟩ := (c.def_ 6 (d := dd_check_things) rfl)
  obtain ⟨f_things_leading, F_things_leading⟩ := (c.def_ 7 (d := dd_things_leading) rfl)
  obtain ⟨f_are_two, F_are_two⟩ := (c.def_ 8 (d := dd_are_two) rfl)
  obtain ⟨f_check_arrows, F_check_arrows⟩ := (c.def_ 9 (d := dd_check_arrows) rfl)
  obtain ⟨f_check_pairs, F_check_pairs⟩ := (c.def_ 10 (d := dd_check_pairs) rfl)
  obtain ⟨f_Diagram___init, F_Diagram___init⟩ := (c.def_ 11 (d := dd_Diagram___init__) rfl)
  obtain ⟨f_law_made, F_law_made⟩ := (c.def_ 12 (d := dd__law_made) rfl)
  obtain ⟨f_law_subsets, F_law_subsets⟩ := (c.def_ 13 (d := dd__law_subsets) rfl)
  obtain ⟨f_law_leads, F_law_leads⟩ := (c.def_ 14 (d := dd__law_leads) rfl)
  obtain ⟨f_law_group, F_law_group⟩ := (c.def_ 15 (d := dd__law_group) rfl)
  obtain ⟨f_law_wanted, F_law_wanted⟩ := (c.def_ 16 (d := dd__law_wanted) rfl)
  obtain ⟨f_law_chain, F_law_chain⟩ := (c.def_ 17 (d := dd__law_chain) rfl)
  obtain ⟨f_law_stuck, F_law_stuck⟩ := (c.def_ 18 (d := dd__law_stuck) rfl)
  obtain ⟨f_law_due, F_law_due⟩ := (c.def_ 19 (d := dd__law_due) rfl)
  obtain ⟨f_check_names, F_check_names⟩ := (c.def_ 20 (d := dd_check_names) rfl)
  obtain ⟨f_check_apart, F_check_apart⟩ := (c.def_ 21 (d := dd_check_apart) rfl)
  obtain ⟨f_check_asked, F_check_asked⟩ := (c.def_ 22 (d := dd_check_asked) rfl)
  obtain ⟨f_group_around, F_group_around⟩ := (c.def_ 23 (d := dd_group_around) rfl)
  obtain ⟨f_groups_of, F_groups_of⟩ := (c.def_ 24 (d := dd_groups_of) rfl)
  obtain ⟨f_leading_within, F_leading_within⟩ := (c.def_ 25 (d := dd_leading_within) rfl)
  obtain ⟨f_counting, F_counting⟩ := (c.def_ 26 (d := dd_counting) rfl)
  obtain ⟨f_steps_to, F_steps_to⟩ := (c.def_ 27 (d := dd_steps_to) rfl)
  obtain ⟨f_stuck, F_stuck⟩ := (c.def_ 28 (d := dd_stuck) rfl)
  obtain ⟨f_is_told, F_is_told⟩ := (c.def_ 29 (d := dd_is_told) rfl)
  obtain ⟨f_is_told_withoutS, F_is_told_withoutS⟩ := (c.def_ 30 (d := dd_is_told_without) rfl)
  obtain ⟨f_holds_one, F_holds_one⟩ := (c.def_ 31 (d := dd_holds_one) rfl)
  obtain ⟨f_cures, F_cures⟩ := (c.def_ 32 (d := dd_cures) rfl)
  obtain ⟨f_law_right, F_law_right⟩ := (c.def_ 33 (d := dd__law_right) rfl)
  obtain ⟨f_law_pool, F_law_pool⟩ := (c.def_ 34 (d := dd__law_pool) rfl)
  obtain ⟨f_law, F_law⟩ := (c.def_ 35 (d := dd_law) rfl)
  obtain ⟨g1_Diagram_names, g2_Diagram_names⟩ := gt ⟨"Diagram", "names", dg "Diagram" "names" s_Diagram_names "Diagram.names"⟩ (by simp [gtL])
  obtain ⟨f_Diagram_names, F_Diagram_names, P_Diagram_names⟩ := gtB_ok g2_Diagram_names g1_Diagram_names
  obtain ⟨g1_Diagram_pairs, g2_Diagram_pairs⟩ := gt ⟨"Diagram", "pairs", dg "Diagram" "pairs" s_Diagram_pairs "Diagram.pairs"⟩ (by simp [gtL])
  obtain ⟨f_Diagram_pairs, F_Diagram_pairs, P_Diagram_pairs⟩ := gtB_ok g2_Diagram_pairs g1_Diagram_pairs
  obtain ⟨g1_Diagram_arrows, g2_Diagram_arrows⟩ := gt ⟨"Diagram", "arrows", dg "Diagram" "arrows" s_Diagram_arrows "Diagram.arrows"⟩ (by simp [gtL])
  obtain ⟨f_Diagram_arrows, F_Diagram_arrows, P_Diagram_arrows⟩ := gtB_ok g2_Diagram_arrows g1_Diagram_arrows
  have e := hfa.symm.trans (He.glo_ok X G (c.fact 25 (f := .glo "law") rfl))
  cases e
  have CC_Diagram : Cls K (ga K "Diagram") := (He.cls_ok (c.fact 26 (f := .cls "Diagram") rfl))
  have A_Diagram_names : NoAttr K (ga K "Diagram") "_names" := (He.noat_ok (c.fact 27 (f := .noat "Diagram" "_names") rfl))
  have A_Diagram_arrows : NoAttr K (ga K "Diagram") "_arrows" := (He.noat_ok (c.fact 28 (f := .noat "Diagram" "_arrows") rfl))
  have A_Diagram_pairs : NoAttr K (ga K "Diagram") "_pairs" := (He.noat_ok (c.fact 29 (f := .noat "Diagram" "_pairs") rfl))
  have hv_MOST_THINGS : ∃ t, mg "MOST_THINGS" = some (.int 6 t) := (He.int_ok X G (c.fact 30 (f := .int "MOST_THINGS" 6) rfl))
  have b := FunD.bindsA (ps := ["script"]) F_law fun _ _ _ _ _ _ us hl => match us, hl with | [_], _ => rfl
  refine ⟨f_law, fun s v => b s [v] rfl, fun base _ _ => ?_⟩
  have IE : ErrI P w K mg base := ⟨⟨f_einit, ok_einit F_einit, F_einit.bindsN fun _ _ _ _ _ _ us hl => match us, hl with | [_, _], _ => rfl⟩, tyI⟩
  have C__law_pool : Cal P w K mg base CX0 1 "_law_pool" ["script", "spot"] (spPool K) := mkCal F_law_pool (He.glo_ok X G (c.fact 31 (f := .glo "_law_pool") rfl)) (ok_pool F_law_pool T) fun _ _ _ _ _ _ us hl => match us, hl with | [_, _], _ => rfl
  have C_law_draw : Cal P w K mg base CX0 1 "_law_draw" ["pool", "span"] (spP K D_law_draw) := mkCal F_law_draw (He.glo_ok X G (c.fact 32 (f := .glo "_law_draw") rfl)) (ok_law_draw (P := P) (w := w) (mg := mg) (base := base) F_law_draw T) (fun _ _ _ _ _ _ us hl => match us, hl with | [_, _], _ => rfl)
  have C_law_chart : Cal P w K mg base CX0 2 "_law_chart" ["pool", "widest"] (spP K D_law_chart) := mkCal F_law_chart (He.glo_ok X G (c.fact 33 (f := .glo "_law_chart") rfl)) (ok_law_chart (P := P) (w := w) (mg := mg) (base := base) F_law_chart T C_law_draw) (fun _ _ _ _ _ _ us hl => match us, hl with | [_, _], _ => rfl)
  have C_law_known : Cal P w K mg base CX0 2 "_law_known" ["pool"] (spP K D_law_known) := mkCal F_law_known (He.glo_ok X G (c.fact 34 (f := .glo "_law_known") rfl)) (ok_law_known (P := P) (w := w) (mg := mg) (base := base) F_law_known C_law_draw T) (fun _ _ _ _ _ _ us hl => match us, hl with | [_], _ => rfl)
  have C_law_case : Cal P w K mg base CX0 3 "_law_case" ["pool", "widest"] (spP K D_law_case) := mkCal F_law_case (He.glo_ok X G (c.fact 35 (f := .glo "_law_case") rfl)) (ok_law_case (P := P) (w := w) (mg := mg) (base := base) F_law_case C_law_draw C_law_known C_law_chart T) (fun _ _ _ _ _ _ us hl => match us, hl with | [_, _], _ => rfl)
  have C_is_letter : Cal P w K mg base CX0 1 "is_letter" ["name"] (spD K D_is_letter) := mkCal F_is_letter (He.glo_ok X G (c.fact 36 (f := .glo "is_letter") rfl)) (ok_is_letter (P := P) (w := w) (mg := mg) (base := base) F_is_letter T) (fun _ _ _ _ _ _ us hl => match us, hl with | [_], _ => rfl)
  have C_check_things : Cal P w K mg base (L2.CX P w) 3 "check_things" ["names"] (spD K D_check_things) := mkCal F_check_things (He.glo_ok X G (c.fact 37 (f := .glo "check_things") rfl)) (ok_check_things (P := P) (w := w) (mg := mg) (base := base) F_check_things T C_is_letter T_InvalidName IE hv_MOST_THINGS T_InvalidNumber) (fun _ _ _ _ _ _ us hl => match us, hl with | [_], _ => rfl)
  have C_things_leading : Cal P w K mg base CX0 1 "things_leading" ["names", "arrows", "name"] (spD K D_things_leading) := mkCal F_things_leading (He.glo_ok X G (c.fact 38 (f := .glo "things_leading") rfl)) (ok_things_leading (P := P) (w := w) (mg := mg) (base := base) F_things_leading ) (fun _ _ _ _ _ _ us hl => match us, hl with | [_, _, _], _ => rfl)
  have C_are_two : Cal P w K mg base CX0 1 "are_two" ["names", "one", "other"] (spD K D_are_two) := mkCal F_are_two (He.glo_ok X G (c.fact 39 (f := .glo "are_two") rfl)) (ok_are_two (P := P) (w := w) (mg := mg) (base := base) F_are_two ) (fun _ _ _ _ _ _ us hl => match us, hl with | [_, _, _], _ => rfl)
  have C_check_arrows : Cal P w K mg base (L2.CX P w) 3 "check_arrows" ["names", "arrows"] (spD K D_check_arrows) := mkCal F_check_arrows (He.glo_ok X G (c.fact 40 (f := .glo "check_arrows") rfl)) (ok_check_arrows (P := P) (w := w) (mg := mg) (base := base) F_check_arrows T C_are_two T_InvalidArrow IE C_things_leading) (fun _ _ _ _ _ _ us hl => match us, hl with | [_, _], _ => rfl)
  have C_check_pairs : Cal P w K mg base (L2.CX P w) 3 "check_pairs" ["names", "pairs"] (spD K D_check_pairs) := mkCal F_check_pairs (He.glo_ok X G (c.fact 41 (f := .glo "check_pairs") rfl)) (ok_check_pairs (P := P) (w := w) (mg := mg) (base := base) F_check_pairs T C_are_two T_InvalidPair IE) (fun _ _ _ _ _ _ us hl => match us, hl with | [_, _], _ => rfl)
  have C_Diagram : CalC P w K mg base (L2.CX P w) 4 "Diagram" (ga K "Diagram") ["self", "names", "arrows", "pairs"] (spI K "Diagram" D_Diagram_init) := ⟨(He.glo_ok X G (c.fact 42 (f := .glo "Diagram") rfl)), _, f_Diagram___init, (ok_Diagram___init (P := P) (w := w) (mg := mg) (base := base) F_Diagram___init C_check_things C_check_arrows C_check_pairs T A_Diagram_names CC_Diagram A_Diagram_arrows A_Diagram_pairs), (He.mkr_ok (c.fact 43 (f := .mkr "Diagram") rfl)), F_Diagram___init.bindsN fun _ _ _ _ _ _ us hl => match us, hl with | [_, _, _, _], _ => rfl⟩
  have C_law_made : Cal P w K mg base CX0 6 "_law_made" ["chart"] (spD K D_law_made) := mkCal F_law_made (He.glo_ok X G (c.fact 44 (f := .glo "_law_made") rfl)) (ok_law_made (P := P) (w := w) (mg := mg) (base := base) F_law_made T C_Diagram) (fun _ _ _ _ _ _ us hl => match us, hl with | [_], _ => rfl)
  have C_law_subsets : Cal P w K mg base CX0 1 "_law_subsets" ["amount"] (spD K D_law_subsets) := mkCal F_law_subsets (He.glo_ok X G (c.fact 45 (f := .glo "_law_subsets") rfl)) (ok_law_subsets (P := P) (w := w) (mg := mg) (base := base) F_law_subsets T) (fun _ _ _ _ _ _ us hl => match us, hl with | [_], _ => rfl)
  have C_law_leads : Cal P w K mg base CX0 1 "_law_leads" ["chart", "goals", "within"] (spD K D_law_leads) := mkCal F_law_leads (He.glo_ok X G (c.fact 46 (f := .glo "_law_leads") rfl)) (ok_law_leads (P := P) (w := w) (mg := mg) (base := base) F_law_leads T) (fun _ _ _ _ _ _ us hl => match us, hl with | [_, _, _], _ => rfl)
  have C_law_group : Cal P w K mg base CX0 1 "_law_group" ["chart", "thing", "within"] (spD K D_law_group) := mkCal F_law_group (He.glo_ok X G (c.fact 47 (f := .glo "_law_group") rfl)) (ok_law_group (P := P) (w := w) (mg := mg) (base := base) F_law_group T) (fun _ _ _ _ _ _ us hl => match us, hl with | [_, _, _], _ => rfl)
  have C_law_wanted : Cal P w K mg base CX0 2 "_law_wanted" ["chart", "acted_here", "asked_here"] (spD K D_law_wanted) := mkCal F_law_wanted (He.glo_ok X G (c.fact 48 (f := .glo "_law_wanted") rfl)) (ok_law_wanted (P := P) (w := w) (mg := mg) (base := base) F_law_wanted C_law_leads C_law_group) (fun _ _ _ _ _ _ us hl => match us, hl with | [_, _, _], _ => rfl)
  have C_law_chain : Cal P w K mg base CX0 2 "_law_chain" ["chart", "some"] (spD K D_law_chain) := mkCal F_law_chain (He.glo_ok X G (c.fact 49 (f := .glo "_law_chain") rfl)) (ok_law_chain (P := P) (w := w) (mg := mg) (base := base) F_law_chain C_law_group C_law_leads) (fun _ _ _ _ _ _ us hl => match us, hl with | [_, _], _ => rfl)
  have C_law_stuck : Cal P w K mg base CX0 3 "_law_stuck" ["chart", "acted_here", "asked_here"] (spD K D_law_stuck) := mkCal F_law_stuck (He.glo_ok X G (c.fact 50 (f := .glo "_law_stuck") rfl)) (ok_law_stuck (P := P) (w := w) (mg := mg) (base := base) F_law_stuck C_law_wanted C_law_chain) (fun _ _ _ _ _ _ us hl => match us, hl with | [_, _, _], _ => rfl)
  have C_law_due : Cal P w K mg base CX0 4 "_law_due" ["chart", "acted_here", "asked_here"] (spD K D_law_due) := mkCal F_law_due (He.glo_ok X G (c.fact 51 (f := .glo "_law_due") rfl)) (ok_law_due (P := P) (w := w) (mg := mg) (base := base) F_law_due T C_law_subsets C_law_stuck) (fun _ _ _ _ _ _ us hl => match us, hl with | [_, _, _], _ => rfl)
  have C_Diagram_names : CalP P w K mg base 1 (ga K "Diagram") "names" (spD K D_Diagram_names) := ⟨CC_Diagram, _, _, f_Diagram_names, P_Diagram_names, (ok_Diagram_names (P := P) (w := w) (mg := mg) (base := base) F_Diagram_names T A_Diagram_names CC_Diagram), F_Diagram_names.bindsN fun _ _ _ _ _ _ us hl => match us, hl with | [_], _ => rfl⟩
  have C_check_names : Cal P w K mg base (L2.CX P w) 3 "check_names" ["diagram", "names"] (spD K D_check_names) := mkCal F_check_names (He.glo_ok X G (c.fact 52 (f := .glo "check_names") rfl)) (ok_check_names (P := P) (w := w) (mg := mg) (base := base) F_check_names C_Diagram_names T T_InvalidName IE) (fun _ _ _ _ _ _ us hl => match us, hl with | [_, _], _ => rfl)
  have C_check_apart : Cal P w K mg base (L2.CX P w) 3 "check_apart" ["names", "taken"] (spD K D_check_apart) := mkCal F_check_apart (He.glo_ok X G (c.fact 53 (f := .glo "check_apart") rfl)) (ok_check_apart (P := P) (w := w) (mg := mg) (base := base) F_check_apart T_InvalidDeed IE) (fun _ _ _ _ _ _ us hl => match us, hl with | [_, _], _ => rfl)
  have C_check_asked : Cal P w K mg base (L2.CX P w) 4 "check_asked" ["diagram", "acted", "asked"] (spD K D_check_asked) := mkCal F_check_asked (He.glo_ok X G (c.fact 54 (f := .glo "check_asked") rfl)) (ok_check_asked (P := P) (w := w) (mg := mg) (base := base) F_check_asked C_check_names C_check_apart) (fun _ _ _ _ _ _ us hl => match us, hl with | [_, _, _], _ => rfl)
  have C_Diagram_pairs : CalP P w K mg base 1 (ga K "Diagram") "pairs" (spD K D_Diagram_pairs) := ⟨CC_Diagram, _, _, f_Diagram_pairs, P_Diagram_pairs, (ok_Diagram_pairs (P := P) (w := w) (mg := mg) (base := base) F_Diagram_pairs T A_Diagram_pairs CC_Diagram), F_Diagram_pairs.bindsN fun _ _ _ _ _ _ us hl => match us, hl with | [_], _ => rfl⟩
  have C_group_around : Cal P w K mg base CX0 3 "group_around" ["diagram", "things", "thing"] (spD K D_group_around) := mkCal F_group_around (He.glo_ok X G (c.fact 55 (f := .glo "group_around") rfl)) (ok_group_around (P := P) (w := w) (mg := mg) (base := base) F_group_around C_Diagram_pairs C_things_leading) (fun _ _ _ _ _ _ us hl => match us, hl with | [_, _, _], _ => rfl)
  have C_groups_of : Cal P w K mg base CX0 4 "groups_of" ["diagram", "things"] (spD K D_groups_of) := mkCal F_groups_of (He.glo_ok X G (c.fact 56 (f := .glo "groups_of") rfl)) (ok_groups_of (P := P) (w := w) (mg := mg) (base := base) F_groups_of T C_group_around) (fun _ _ _ _ _ _ us hl => match us, hl with | [_, _], _ => rfl)
  have C_Diagram_arrows : CalP P w K mg base 1 (ga K "Diagram") "arrows" (spD K D_Diagram_arrows) := ⟨CC_Diagram, _, _, f_Diagram_arrows, P_Diagram_arrows, (ok_Diagram_arrows (P := P) (w := w) (mg := mg) (base := base) F_Diagram_arrows T A_Diagram_arrows CC_Diagram), F_Diagram_arrows.bindsN fun _ _ _ _ _ _ us hl => match us, hl with | [_], _ => rfl⟩
  have C_leading_within : Cal P w K mg base CX0 3 "leading_within" ["diagram", "things", "ends"] (spD K D_leading_within) := mkCal F_leading_within (He.glo_ok X G (c.fact 57 (f := .glo "leading_within") rfl)) (ok_leading_within (P := P) (w := w) (mg := mg) (base := base) F_leading_within C_Diagram_arrows C_things_leading) (fun _ _ _ _ _ _ us hl => match us, hl with | [_, _, _], _ => rfl)
  have C_counting : Cal P w K mg base CX0 4 "counting" ["diagram", "acted", "asked"] (spD K D_counting) := mkCal F_counting (He.glo_ok X G (c.fact 58 (f := .glo "counting") rfl)) (ok_counting (P := P) (w := w) (mg := mg) (base := base) F_counting C_Diagram_names C_leading_within) (fun _ _ _ _ _ _ us hl => match us, hl with | [_, _, _], _ => rfl)
  have C_steps_to : Cal P w K mg base CX0 4 "steps_to" ["diagram", "group"] (spD K D_steps_to) := mkCal F_steps_to (He.glo_ok X G (c.fact 59 (f := .glo "steps_to") rfl)) (ok_steps_to (P := P) (w := w) (mg := mg) (base := base) F_steps_to C_Diagram_names C_group_around C_leading_within) (fun _ _ _ _ _ _ us hl => match us, hl with | [_, _], _ => rfl)
  have C_stuck : Cal P w K mg base (L2.CX P w) 5 "stuck" ["diagram", "acted", "asked"] (spD K D_stuck) := mkCal F_stuck (He.glo_ok X G (c.fact 60 (f := .glo "stuck") rfl)) (ok_stuck (P := P) (w := w) (mg := mg) (base := base) F_stuck C_check_asked C_counting C_groups_of C_steps_to) (fun _ _ _ _ _ _ us hl => match us, hl with | [_, _, _], _ => rfl)
  have C_is_told : Cal P w K mg base (L2.CX P w) 6 "is_told" ["diagram", "acted", "asked"] (spD K D_is_told) := mkCal F_is_told (He.glo_ok X G (c.fact 61 (f := .glo "is_told") rfl)) (ok_is_told (P := P) (w := w) (mg := mg) (base := base) F_is_told C_stuck) (fun _ _ _ _ _ _ us hl => match us, hl with | [_, _, _], _ => rfl)
  have C_is_told_withoutS : Cal P w K mg base (L2.CX P w) 7 "is_told_without" ["diagram", "acted", "asked", "indices"] (spD K D_is_told_withoutS) := mkCal F_is_told_withoutS (He.glo_ok X G (c.fact 62 (f := .glo "is_told_without") rfl)) (ok_is_told_withoutS (P := P) (w := w) (mg := mg) (base := base) F_is_told_withoutS T C_Diagram_pairs C_Diagram_names C_Diagram_arrows C_Diagram C_is_told) (fun _ _ _ _ _ _ us hl => match us, hl with | [_, _, _, _], _ => rfl)
  have C_holds_one : Cal P w K mg base CX0 1 "holds_one" ["lists", "indices"] (spD K D_holds_one) := mkCal F_holds_one (He.glo_ok X G (c.fact 63 (f := .glo "holds_one") rfl)) (ok_holds_one (P := P) (w := w) (mg := mg) (base := base) F_holds_one T) (fun _ _ _ _ _ _ us hl => match us, hl with | [_, _], _ => rfl)
  have C_cures : Cal P w K mg base (L2.CX P w) 8 "cures" ["diagram", "acted", "asked"] (spD K D_cures) := mkCal F_cures (He.glo_ok X G (c.fact 64 (f := .glo "cures") rfl)) (ok_cures (P := P) (w := w) (mg := mg) (base := base) F_cures C_check_asked T C_Diagram_pairs ht_combinations C_holds_one C_is_told_withoutS) (fun _ _ _ _ _ _ us hl => match us, hl with | [_, _, _], _ => rfl)
  have C_cures_Ka_a_d : CalK P w K mg base (L2.CX P w) 8 "cures" ["diagram", "acted", "asked"] ["asked", "acted", "diagram"] [2, 1, 0] (spD K D_cures) := mkCalK F_cures (He.glo_ok X G (c.fact 64 (f := .glo "cures") rfl)) (ok_cures (P := P) (w := w) (mg := mg) (base := base) F_cures C_check_asked T C_Diagram_pairs ht_combinations C_holds_one C_is_told_withoutS) (fun _ _ _ _ _ _ us hl => match us, hl with | [_, _, _], _ => rfl)
  have C_law_right : CalG P w K mg base CX0 9 "_law_right" ["pool"] (spP K D_law_right) := mkCalG F_law_right (He.glo_ok X G (c.fact 65 (f := .glo "_law_right") rfl)) (ok_law_right (P := P) (w := w) (mg := mg) (base := base) F_law_right C_law_case C_law_made C_law_due T C_cures C_cures_Ka_a_d) (fun _ _ _ _ _ _ us hl => match us, hl with | [_], _ => rfl)
  exact ok_law F_law T C__law_pool C_law_right
abbrev R : PySem.W.OpenRow := PySem.W.OpenLaw.row PySem.Challenge.rw_deedshares_k35_least_cures
abbrev hk : PySem.W.Hook := hookP 5 faL fnL exB gtL
def ob (s : PySem.W.SharedT) : AlP := obsP 5 faL fnL exB gtL (HandSHeadRun.getT s)
theorem ob_eq (s : PySem.W.SharedT) : ob s = hk.obs s.abs := obsP_eq (HandSHeadRun.getT_eq s)
end Da
end F103
section F104
namespace Da
open PySem PySem.Spec PyProof.Rows L2 He Ds
def looseL : List Str := (["_wall", "DeedError", "InvalidName", "InvalidNumber", "InvalidArrow", "InvalidPair", "InvalidDeed", "Diagram", "MOST_THINGS", "_law_draw", "_law_chart", "_law_known", "_law_case", "is_letter", "check_things", "things_leading", "are_two", "check_arrows", "check_pairs", "_law_made"] : List Str) ++ (["_law_subsets", "_law_leads", "_law_group", "_law_wanted", "_law_chain", "_law_stuck", "_law_due", "check_names", "check_apart", "check_asked", "group_around", "groups_of", "leading_within", "counting", "steps_to", "stuck", "is_told", "is_told_without", "holds_one", "cures"] : List Str) ++ (["_law_right", "_law_pool"] : List Str)
theorem run (w : World) : HandSHeadRun.RunEqI R (PySem.W.view R.prog [0, 49]) hk ob 6000 looseL w := by
  unfold HandSHeadRun.RunEqI
  kernel_rfl
end Da
open PySem PySem.W PySem.Calls PyProof.Rows
theorem PySem.Challenge.cw_deedshares_k35_least_cures_holds : PySem.Challenge.rw_deedshares_k35_least_cures.Holds := by
  w_on; o_law
  refine HandSHeadRun.head_imp (r := OpenLaw.row PySem.Challenge.rw_deedshares_k35_least_cures) (q := view (OpenLaw.row PySem.Challenge.rw_deedshares_k35_least_cures).prog [0, 49]) (H := Da.hk) (ob := Da.ob) (M := 6000) (loose := Da.looseL) (d := HandSHeadRun.topDef (OpenLaw.row PySem.Challenge.rw_deedshares_k35_least_cures).prog 49) (kwd := []) Da.ob_eq
    Da.run (by kernel_rfl) (by kernel_rfl) (by kernel_rfl) (by rfl) (by first | assumption | decide +kernel) (by decide +kernel) ⟨rfl, rfl, rfl, rfl, rfl, by decide +kernel⟩ ?hw ?hc
  case hw => w_witness2
  case hc =>
    refine Ds.walk_G (l := PySem.Challenge.rw_deedshares_k35_least_cures) (n := 63) (k := 10) (x := "script") rfl (by decide) (by kernel_rfl) ⟨rfl, by decide, by decide⟩ ?F
    intro w mg fa h Y G hmg0
    obtain ⟨K, KX, c⟩ := Y
    have hmg : mg ("law" : PySem.Str) = some (.ref fa) := by
      have e : (HandSHeadRun.topDef (OpenLaw.row PySem.Challenge.rw_deedshares_k35_least_cures).prog 49).name = ("law" : PySem.Str) := by kernel_rfl
      rw [← e]
      exact hmg0
    obtain ⟨fd, hb, hF⟩ := Da.facts (P := (PySem.Challenge.rw_deedshares_k35_least_cures).prog) (w := w) KX G hmg c.x.t.d c.x.more c.g
    exact ⟨K, fd, Da.spLaw K, KX, hb, fun H a ns hl hS => ⟨a, ns, rfl, hS, Da.tbse_no, hl, fun _ => rfl⟩, hF⟩
end F104
