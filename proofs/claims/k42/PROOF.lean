import PyProof.Rows.All
import Wide.All
import OpenK.AllK
import Wide.FinOn
import HandS.Style
import HandS.List
import HandS.Walk
import PyProof.Rows.FactsTup
import HandS.Call
import PyProof.WalkInts
import PyProof.Rows.StrRules
import PyProof.FString5
import PyProof.EqAt
import PyProof.EqKinds
import PyProof.TupleCall
import HandS.ForMost
import HandS.Codes
import HandS.Conv
import HandS.Flow
import HandS.More
import HandS.IsInst
import HandS.DictComp
import HandS.FStr
import HandS.MakeKwOnly
import HandS.Deep
import HandS.SetKeys
import HandS.TupAny
import HandS.Small
import HandS.ExcInit
import HandS.ExcCtx
import HandS.TryOnly
import HandS.OwnEq
import HandS.SetBool
import HandS.TupSets
import HandS.SetIn
import HandS.Strs
import HandS.SetFor
import HandS.Comp
import HandS.SortOrd
import PyProof.TupleOfSeq
import HandS.ListItems
import HandS.WordsExc
import HandS.DeepEq
import HandS.DictEq
import KE.DataMinMax
import HandS.HeadEnd
import HandS.Ends
import PyProof.ReprRoads
import HandS.Star
import PyProof.ReprBulk
import PyProof.Rows.RegFStrParts
import PyProof.StrBlock2
import KE.KStateDown
import HandS.Head0
import HandS.Head1
import HandS.Head2
import HandS.HeadHook1
import HandS.HeadHook2
import PySem.Challenge.RW_evenhands_k42_texts_of_groups
set_option Elab.async false
set_option linter.all false
set_option maxRecDepth 100000
section
set_option maxHeartbeats 2000000
/-! ### a pair turned about -/
namespace EV
open PySem PySem.Spec PyProof.Rows L2
section
variable {prog : Program} {w : World} {A : Around} {E : Value → Shared → Prop} {s : Shared}
theorem turned2 {a b m : Value} : ((List.range 2).filterMap fun (k : Nat) => (#[a, b] : Array Value)[((1 : Int) + (k : Int) * (-1)).toNat]?).toArray = #[b, a] := by rfl
theorem item_turned {t sl : Addr} {a b vm : Value} {Q : Value → Shared → Prop} (ht : IsTup s.heap t #[a, b]) (hs : s.heap.IsSliceOf sl .none .none vm) (pm : IsPart vm (some (-1)))
    (h : Q (.ref s.heap.objs.size) { s with heap := s.heap.push { cls := .type "tuple", data := .seq #[b, a] } }) : wpAny (model prog w) A (getItem (.ref t) (.ref sl)) Q E s := by
  obtain ⟨o, ho, hc, hd⟩ := id hs
  have isS : s.TypeIs (.ref sl) "slice" := ⟨o, ho, hc⟩
  unfold getItem; try with_reducible refine wpAny_holding ?_
  first | refine wpAny_bind (wpAny_pure ?_) | skip
  refine wpAny_bind (wpAny_sequenceKey (T := "tuple") ht.typeIs (by decide) (wpAny_bind (wpAny_callSpecial?_slot (T := "tuple") (name := "__getitem__") ht.typeIs slot_tuple_getitem (wpAny_call_entry slot_tuple_getitem ht.typeIs entry_tuple_getitem ?_ (args_tuple_getitem _ _)))))
  change wpAny _ _ (Builtin.Tuple.tupleItemsOf (.ref t) >>= fun xs => _) _ _ s
  refine wpAny_bind (PyProof.Rows.tupleItemsOf_ ht (wpAny_bind (wpAny_typeOf isS ?_)))
  rw [if_pos (by decide)]
  have parts : ∀ (A : Around) (E : Value → Shared → Prop), wpAny (model prog w) A (Builtin.Slice.sliceApplied (.ref sl) (pure ((#[a, b] : Array Value).size : Int))) (fun p s' => p = ((1 : Int), (-1 : Int), 2) ∧ s' = s) E s := by
    intro A E
    unfold Builtin.Slice.sliceApplied Builtin.Slice.sliceFields
    refine wpAny_bind (wpAny_bind (wpAny_field (x := .none) ho hd rfl (wpAny_bind (wpAny_field (x := .none) ho hd rfl (wpAny_bind (wpAny_field (x := vm) ho hd rfl (wpAny_pure ?_)))))))
    refine wpAny_bind (HT.slicePart_ pm ?_)
    change wpAny _ _ (if ((-1 : Int) == 0) = true then _ else _) _ _ s
    rw [if_neg (by decide)]
    refine wpAny_bind (PyProof.Rows.slicePart_none (wpAny_bind (PyProof.Rows.slicePart_none (wpAny_bind (wpAny_pure ?_)))))
    exact wpAny_pure ⟨by first | with_unfolding_all rfl | simp [Builtin.Slice.slicePlaces], rfl⟩
  refine wpAny_bind (wpAny_mono (parts _ _) (fun p s' hp => ?_) fun _ _ e => e)
  obtain ⟨rfl, rfl⟩ := hp
  change wpAny _ _ (if ((1 : Int) == 0 && (-1 : Int) == 1 && 2 == (#[a, b] : Array Value).size) = true then _ else _) _ _ s'
  rw [if_neg (by show ¬ (false = true); exact Bool.false_ne_true)]
  change wpAny _ _ (Builtin.Tuple.tupleExact ((List.range 2).filterMap fun (k : Nat) => (#[a, b] : Array Value)[((1 : Int) + (k : Int) * (-1)).toNat]?).toArray >>= _) _ _ s'
  rw [turned2 (m := a)]
  have few : sizeOk (.seq #[b, a]) := by show 2 ≤ sizeLine; decide
  first
    | exact wpAny_bind (m := Builtin.Tuple.tupleExact _) (wpAny_newObj_type (wpAny_pure ⟨_, rfl, wpAny_pure h⟩) few)
    | exact wpAny_bind (m := Builtin.Tuple.tupleExact _) (wpAny_newObj_type (wpAny_bind (wpAny_pure (wpAny_pure ⟨_, rfl, wpAny_pure h⟩))) few)
    | exact wpAny_bind (wpAny_bind (m := Builtin.Tuple.tupleExact _) (wpAny_newObj_type (wpAny_pure (wpAny_pure ⟨_, rfl, wpAny_pure h⟩)) few))
    | exact wpAny_bind (wpAny_bind (m := Builtin.Tuple.tupleExact _) (wpAny_newObj_type (wpAny_pure ⟨_, rfl, wpAny_pure h⟩) few))
end
def tTurn (K : PySem.W.Frag) (te : TE) : TE := fun σ H Q => te σ H fun x H1 => ∃ a u v, x = .ref a ∧ SqT K H1 a [u, v] ∧ ∀ p, H1 p = none → Q (.ref p) (upd H1 p (.tup [v, u]))
theorem pe_turn (K : PySem.W.Frag) {X : Cx} {e : Expr} {te : TE} {k : Nat} {p1 p2 p3 pos : Pos} (he : PE X e te) (hK : X.K = K := by rfl) : PE X (.Subscript e (.Slice none none (some (.UnaryOp .USub (.Constant (.int 1) k p1) p2)) p3) pos) (tTurn K te) := by
  subst hK
  refine ⟨fun pins s σ H Q I h => Subscript_ (thn (he.run pins s σ H _ I h) fun v s1 ⟨x, H1, I1, r1, a, u, v', ex, hx, q⟩ => ?_)⟩
  subst ex
  cases r1
  have step : PO X (some (.UnaryOp .USub (.Constant (.int 1) k p1) p2)) (tPart (tUn (rU fun i => .int (-i)) (tC (.int 1)))) := po_some (pe_un un_neg pe_int)
  refine wpAny_Slice (thn (po_none.run pins s1 σ H1 (fun o G => o = none ∧ G = H1) I1 ⟨rfl, rfl⟩) fun vl s2 ⟨l, H2, I2, pl, e1, e2⟩ => thn (po_none.run pins s2 σ H2 (fun o G => o = none ∧ G = H2) I2 ⟨rfl, rfl⟩) fun vu s3 ⟨u3, H3, I3, pu, e3, e4⟩ =>
    thn (step.run pins s3 σ H3 (fun o G => o = some (-1) ∧ G = H3) I3 ⟨1, rfl, -1, rfl, rfl, rfl⟩) fun vs s4 ⟨o, H4, I4, pm, e5, e6⟩ => ?_)
  subst e1 e2 e3 e4 e5 e6
  obtain rfl : vl = .none := by cases pl; rfl
  obtain rfl : vu = .none := by cases pu; rfl
  have I5 : Inv X pins σ H4 { s4 with heap := s4.heap.push { cls := .type "slice", data := .fields #[.none, .none, vs] } } := I4.kept (t' := s4.toks) fun b ob z => Heap.get?_push_of_some _ z
  obtain ⟨its, r, ht, hz⟩ := I5.tuple hx
  obtain ⟨i1, i2, ei, r1, r2⟩ : ∃ i1 i2, its = [i1, i2] ∧ RelV u i1 ∧ RelV v' i2 := by
    cases r with
    | cons r1 r => cases r with
      | cons r2 r => cases r; exact ⟨_, _, rfl, r1, r2⟩
  subst ei
  change wpAny (model X.prog X.w) X.A (subscriptTail e (.Slice none none (some (.UnaryOp .USub (.Constant (.int 1) k p1) p2)) p3) (.ref a) (.ref s4.heap.objs.size)) (EP X pins σ Q) X.xe _
  refine tail_any (ops := [.ref a, .ref s4.heap.objs.size]) ht.typeIs slot_tuple_getitem.lookup ?_ (by with_unfolding_all rfl)
  refine item_turned ht (Heap.IsSliceOf.new _ .none .none vs) pm ?_
  refine ⟨.ref _, _, I5.laid (t' := s4.toks) (o := .tup [v', u]) (fun b ob z => Heap.get?_push_of_some _ z) (Nat.le_refl _) ?_, rfl, q _ (I5.hok.fresh (Nat.le_refl _))⟩
  exact ⟨by show 2 ≤ sizeLine; decide, _, .cons r2 (.cons r1 .nil), IsTup.new _ _⟩
end EV
end

section
set_option maxHeartbeats 2000000
/-! ### the lesser, the greater of two texts -/
namespace EV
open PySem PySem.Spec PyProof.Rows L2
section
variable {prog : Program} {w : World} {A : Around} {E : Value → Shared → Prop} {s : Shared}
abbrev tAt (x y : Str) (i : Nat) : Str := if i = 0 then x else y
theorem duo {x y : Str} {t u : Tok} {i : Nat} {v : Value} (h : (#[Value.str x t, .str y u] : Array Value)[i]? = some v) : ∃ r, v = .str (tAt x y i) r := by
  match i, h with
  | 0, h => exact ⟨t, (Option.some.inj h).symm⟩
  | 1, h => exact ⟨u, (Option.some.inj h).symm⟩
  | i + 2, h => simp at h
theorem cmp_lt (x y : Str) (t u : Tok) : CmpOf prog w A .Lt (fun i v => (#[Value.str x t, .str y u] : Array Value)[i]? = some v) (fun i j => decide ((tAt x y i).cps.toList < (tAt x y j).cps.toList)) := fun i j vi vj s Q E hi hj h => by
  obtain ⟨a, rfl⟩ := duo hi
  obtain ⟨b, rfl⟩ := duo hj
  exact PyProof.Rows.lt_str h
theorem cmp_gt (x y : Str) (t u : Tok) : CmpOf prog w A .Gt (fun i v => (#[Value.str x t, .str y u] : Array Value)[i]? = some v) (fun i j => decide ((tAt x y j).cps.toList < (tAt x y i).cps.toList)) := fun i j vi vj s Q E hi hj h => by
  obtain ⟨a, rfl⟩ := duo hi
  obtain ⟨b, rfl⟩ := duo hj
  exact PySem.P.gt_str h
theorem min_txt {x y : Str} {t u : Tok} {Q : Value → Shared → Prop} (free : A.handled = none) (h : ∀ hp tk r, (∀ c o, s.heap.get? c = some o → hp.get? c = some o) → Q (.str (if y.cps.toList < x.cps.toList then y else x) r) { s with heap := hp, toks := tk }) : wpAny (model prog w) A (call (.builtin "min") [.str x t, .str y u]) Q E s := by
  have tup : (s.heap.push { cls := .type "tuple", data := .seq #[.str x t, .str y u] }).IsTuple s.heap.objs.size #[.str x t, .str y u] := ⟨_, Heap.get?_push_size _ rfl, rfl, 0, rfl⟩
  have sz : (s.heap.push { cls := .type "tuple", data := .seq #[.str x t, .str y u] }).objs.size = s.heap.objs.size + 1 := Heap.size_push ..
  refine call_min_two (wpAny_pyIter_tuple tup ⟨_, [_, s.heap.objs.size], [_], _, _, _, _, rfl, Walks.tuple (A := A.in1) free _ s.heap.objs.size (by rw [sz]; exact Nat.ne_of_lt (Nat.lt_succ_self _)) #[.str x t, .str y u], ⟨⟨_, Heap.get?_push_size _ rfl, rfl, rfl⟩, tup.push _⟩, fun c hc => ?_, by simp, cmp_lt x y t u, fun v hp tk pv kp => ?_⟩)
  · show c < ((s.heap.push _).push _).objs.size
    rw [Heap.size_push, sz]
    rcases List.mem_cons.mp hc with rfl | hc
    · rw [sz]; exact Nat.lt_succ_self _
    · rw [List.mem_singleton.mp hc]; exact Nat.lt_succ_of_lt (Nat.lt_succ_self _)
  · have old : ∀ c o, s.heap.get? c = some o → hp.get? c = some o := fun c o e => by
      have lt := Heap.lt_size e
      refine kp c o (fun m => ?_) (Heap.get?_push_of_some _ (Heap.get?_push_of_some _ e))
      rw [List.mem_singleton.mp m, sz] at lt
      exact Nat.lt_irrefl _ (Nat.lt_of_succ_lt lt)
    have val : ∃ r, v = .str (if y.cps.toList < x.cps.toList then y else x) r := by
      have pv' : (#[Value.str x t, .str y u] : Array Value)[argBest (fun i j => decide ((tAt x y i).cps.toList < (tAt x y j).cps.toList)) 1]? = some v := pv
      by_cases c : y.cps.toList < x.cps.toList
      · rw [if_pos c]
        have e : argBest (fun i j => decide ((tAt x y i).cps.toList < (tAt x y j).cps.toList)) 1 = 1 := by simp [argBest, tAt, c]
        rw [e] at pv'
        exact ⟨u, (Option.some.inj pv').symm⟩
      · rw [if_neg c]
        have e : argBest (fun i j => decide ((tAt x y i).cps.toList < (tAt x y j).cps.toList)) 1 = 0 := by simp [argBest, tAt, c]
        rw [e] at pv'
        exact ⟨t, (Option.some.inj pv').symm⟩
    obtain ⟨r, rfl⟩ := val
    exact h hp tk r old
theorem max_txt {x y : Str} {t u : Tok} {Q : Value → Shared → Prop} (free : A.handled = none) (h : ∀ hp tk r, (∀ c o, s.heap.get? c = some o → hp.get? c = some o) → Q (.str (if x.cps.toList < y.cps.toList then y else x) r) { s with heap := hp, toks := tk }) : wpAny (model prog w) A (call (.builtin "max") [.str x t, .str y u]) Q E s := by
  have tup : (s.heap.push { cls := .type "tuple", data := .seq #[.str x t, .str y u] }).IsTuple s.heap.objs.size #[.str x t, .str y u] := ⟨_, Heap.get?_push_size _ rfl, rfl, 0, rfl⟩
  have sz : (s.heap.push { cls := .type "tuple", data := .seq #[.str x t, .str y u] }).objs.size = s.heap.objs.size + 1 := Heap.size_push ..
  refine call_max_two (wpAny_pyIter_tuple tup ⟨_, [_, s.heap.objs.size], [_], _, _, _, _, rfl, Walks.tuple (A := A.in1) free _ s.heap.objs.size (by rw [sz]; exact Nat.ne_of_lt (Nat.lt_succ_self _)) #[.str x t, .str y u], ⟨⟨_, Heap.get?_push_size _ rfl, rfl, rfl⟩, tup.push _⟩, fun c hc => ?_, by simp, cmp_gt x y t u, fun v hp tk pv kp => ?_⟩)
  · show c < ((s.heap.push _).push _).objs.size
    rw [Heap.size_push, sz]
    rcases List.mem_cons.mp hc with rfl | hc
    · rw [sz]; exact Nat.lt_succ_self _
    · rw [List.mem_singleton.mp hc]; exact Nat.lt_succ_of_lt (Nat.lt_succ_self _)
  · have old : ∀ c o, s.heap.get? c = some o → hp.get? c = some o := fun c o e => by
      have lt := Heap.lt_size e
      refine kp c o (fun m => ?_) (Heap.get?_push_of_some _ (Heap.get?_push_of_some _ e))
      rw [List.mem_singleton.mp m, sz] at lt
      exact Nat.lt_irrefl _ (Nat.lt_of_succ_lt lt)
    have val : ∃ r, v = .str (if x.cps.toList < y.cps.toList then y else x) r := by
      have pv' : (#[Value.str x t, .str y u] : Array Value)[argBest (fun i j => decide ((tAt x y j).cps.toList < (tAt x y i).cps.toList)) 1]? = some v := pv
      by_cases c : x.cps.toList < y.cps.toList
      · rw [if_pos c]
        have e : argBest (fun i j => decide ((tAt x y j).cps.toList < (tAt x y i).cps.toList)) 1 = 1 := by simp [argBest, tAt, c]
        rw [e] at pv'
        exact ⟨u, (Option.some.inj pv').symm⟩
      · rw [if_neg c]
        have e : argBest (fun i j => decide ((tAt x y j).cps.toList < (tAt x y i).cps.toList)) 1 = 0 := by simp [argBest, tAt, c]
        rw [e] at pv'
        exact ⟨t, (Option.some.inj pv').symm⟩
    obtain ⟨r, rfl⟩ := val
    exact h hp tk r old
end
section
variable {X : Cx}
def rMinS : List V → Hp → VK → Prop := fun xs H Q => ∃ i j : Str, xs = [.str i, .str j] ∧ Q (.str (if j.cps.toList < i.cps.toList then j else i)) H
def rMaxS : List V → Hp → VK → Prop := fun xs H Q => ∃ i j : Str, xs = [.str i, .str j] ∧ Q (.str (if i.cps.toList < j.cps.toList then j else i)) H
theorem call_min2S (hc : X.calm = true) : CallR X (.builtin "min") rMinS := by
  rintro pins s σ H xs us Q I r ⟨i, j, rfl, q⟩
  obtain ⟨u, v, rfl, ⟨t, rfl⟩, ⟨t', rfl⟩⟩ := vals2 r
  exact min_txt (I.ok.hd hc) fun hp tk r k => ⟨.str _, H, I.kept k, ⟨r, rfl⟩, q⟩
theorem call_max2S (hc : X.calm = true) : CallR X (.builtin "max") rMaxS := by
  rintro pins s σ H xs us Q I r ⟨i, j, rfl, q⟩
  obtain ⟨u, v, rfl, ⟨t, rfl⟩, ⟨t', rfl⟩⟩ := vals2 r
  exact max_txt (I.ok.hd hc) fun hp tk r k => ⟨.str _, H, I.kept k, ⟨r, rfl⟩, q⟩
end
end EV
end

section
set_option maxHeartbeats 2000000
namespace EV
open PySem PySem.Spec PyProof.Rows L2

def top (i : Nat) : Stmt := PySem.Challenge.pw_evenhands_k42_texts_of_groups.main.body.getD i (.Pass ⟨0, 0, 0, 0⟩)

theorem sz {n : Nat} (h : n ≤ 100000) : n ≤ sizeLine := Nat.le_trans h (by decide)
theorem szl {n : Nat} (h : n ≤ 100000) : n < sizeLine := Nat.lt_of_le_of_lt h (by decide)
/-! ### what is laid down and stays (F), what may change (M) -/
def Sub (F H : Hp) : Prop := ∀ a o, F a = some o → H a = some o
structure Nx (M : Addr → Prop) (F H F' H' : Hp) : Prop where
  sub : Sub F' H'
  mono : Sub F F'
  new : ∀ a, H a ≠ none → F a = none → F' a = none
  keep : ∀ a o, H a = some o → ¬ M a → H' a = some o
  alive : ∀ a, H a ≠ none → H' a ≠ none
def No : Addr → Prop := fun _ => False
section
variable {M : Addr → Prop} {F H F1 H1 F2 H2 : Hp} {p : Addr} {o : HO}
theorem Nx.refl (s : Sub F H) : Nx M F H F H := ⟨s, fun _ _ e => e, fun _ _ e => e, fun _ _ e _ => e, fun _ e => e⟩
theorem Nx.trans (a : Nx M F H F1 H1) (b : Nx M F1 H1 F2 H2) : Nx M F H F2 H2 :=
  ⟨b.sub, fun x o e => b.mono x o (a.mono x o e), fun x h e => b.new x (a.alive x h) (a.new x h e), fun x o h m => b.keep x o (a.keep x o h m) m, fun x h => b.alive x (a.alive x h)⟩
theorem some_ne {H : Hp} {a : Addr} {o : HO} (h : H a = some o) : H a ≠ none := fun z => by rw [h] at z; cases z
theorem Nx.weak {M' : Addr → Prop} (a : Nx M F H F1 H1) (w : ∀ x, M x → M' x) : Nx M' F H F1 H1 := ⟨a.sub, a.mono, a.new, fun x o h m => a.keep x o h fun z => m (w x z), a.alive⟩
theorem ne_new {H : Hp} {a p : Addr} (h : H a ≠ none) (hp : H p = none) : a ≠ p := fun e => h (e ▸ hp)
theorem upd_alive {H : Hp} {a p : Addr} {o : HO} (h : H a ≠ none) : upd H p o a ≠ none := by
  by_cases e : a = p
  · subst e; rw [upd_same]; exact fun z => nomatch z
  · rw [upd_ne e]; exact h
theorem Sub.none {F H : Hp} (s : Sub F H) {a : Addr} (h : H a = none) : F a = none := by
  cases e : F a with
  | none => rfl
  | some o => rw [s a o e] at h; cases h
/-- a new thing, laid down at once -/
theorem Nx.lay (s : Sub F H) (hp : H p = none) : Nx M F H (upd F p o) (upd H p o) := by
  refine ⟨fun a u e => ?_, fun a u e => ?_, fun a h e => ?_, fun a u e _ => ?_, fun a h => upd_alive h⟩
  · by_cases z : a = p
    · subst z; rw [upd_same] at e ⊢; exact e
    · rw [upd_ne z] at e ⊢; exact s a u e
  · rw [upd_ne (ne_new (some_ne (s a u e)) hp)]; exact e
  · rw [upd_ne (ne_new h hp)]; exact e
  · rw [upd_ne (ne_new (some_ne e) hp)]; exact e
/-- a new thing that may still change -/
theorem Nx.mak (s : Sub F H) (hp : H p = none) : Nx M F H F (upd H p o) := by
  refine ⟨fun a u e => ?_, fun _ _ e => e, fun _ _ e => e, fun a u e _ => ?_, fun a h => upd_alive h⟩
  · rw [upd_ne (ne_new (some_ne (s a u e)) hp)]; exact s a u e
  · rw [upd_ne (ne_new (some_ne e) hp)]; exact e
/-- a change of what was made since H -/
theorem Nx.wr (a : Nx M F H F1 H1) (hp : H p = none ∨ M p) (hf : F1 p = none) : Nx M F H F1 (upd H1 p o) := by
  refine ⟨fun x u e => ?_, a.mono, a.new, fun x u e m => ?_, fun x h => upd_alive (a.alive x h)⟩
  · have z : x ≠ p := fun z => by subst z; rw [hf] at e; cases e
    rw [upd_ne z]; exact a.sub x u e
  · have z : x ≠ p := fun z => by
      subst z
      rcases hp with hp | hp
      · rw [hp] at e; cases e
      · exact m hp
    rw [upd_ne z]; exact a.keep x u e m
/-- what was made since H is laid down -/
theorem Nx.frz (a : Nx M F H F1 H1) (hp : H p = none) (h : H1 p = some o) (hf : F1 p = none) : Nx M F H (upd F1 p o) H1 := by
  refine ⟨fun x u e => ?_, fun x u e => ?_, fun x hx e => ?_, a.keep, a.alive⟩
  · by_cases z : x = p
    · subst z; rw [upd_same] at e; cases e; exact h
    · rw [upd_ne z] at e; exact a.sub x u e
  · have z : x ≠ p := fun z => by subst z; have := a.mono x u e; rw [hf] at this; cases this
    rw [upd_ne z]; exact a.mono x u e
  · rw [upd_ne (ne_new hx hp)]; exact a.new x hx e
end

/-! ### the draws' state -/
abbrev key (x : Str) : Key := Sum.inr x
def stK (g c : Addr) (r t : Int) : List (Key × V) := [(key "great", .ref g), (key "cells", .ref c), (key "rest", .int r), (key "turn", .int t)]
theorem st_great {g c : Addr} {r t : Int} : valV (stK g c r t) (key "great") = some (.ref g) := by rfl
theorem st_cells {g c : Addr} {r t : Int} : valV (stK g c r t) (key "cells") = some (.ref c) := by rfl
theorem st_rest {g c : Addr} {r t : Int} : valV (stK g c r t) (key "rest") = some (.int r) := by rfl
theorem st_turn {g c : Addr} {r t : Int} : valV (stK g c r t) (key "turn") = some (.int t) := by rfl
theorem st_prest {g c : Addr} {r t r' : Int} : putK (stK g c r t) (key "rest") (.int r') = stK g c r' t := by rfl
theorem st_pturn {g c : Addr} {r t t' : Int} : putK (stK g c r t) (key "turn") (.int t') = stK g c r t' := by rfl
structure StA (F H : Hp) (a g c : Addr) (r t : Int) (gs cs : List Int) : Prop where
  hd : H a = some (.dK (stK g c r t))
  hg : H g = some (.lst (gs.map V.int))
  hc : F c = some (.lst (cs.map V.int))
  fa : F a = none
  fg : F g = none
def Sta (F H : Hp) (a g : Addr) (B : Int) : Prop := ∃ c r t gs cs, StA F H a g c r t gs cs ∧ 0 ≤ t ∧ t ≤ B
abbrev MS (a g : Addr) : Addr → Prop := fun x => x = a ∨ x = g
theorem Sta.mono {F H : Hp} {a g : Addr} {B B' : Int} (s : Sta F H a g B) (h : B ≤ B') : Sta F H a g B' := by
  obtain ⟨c, r, t, gs, cs, S, t0, tB⟩ := s
  exact ⟨c, r, t, gs, cs, S, t0, by omega⟩
theorem upd_keep {H : Hp} {p x : Addr} {o u : HO} (h : H x = some u) (hp : H p = none) : upd H p o x = some u := by
  rw [upd_ne (ne_of_none h hp)]; exact h
/-- the run so far: from F, H to F', H', the draws' state at a (its great cells at g) -/
structure Cz (a g : Addr) (F H F' H' : Hp) (B : Int) : Prop where
  N : Nx (MS a g) F H F' H'
  S : Sta F' H' a g B
  ha : H a ≠ none
  hg : H g ≠ none
section
variable {a g p : Addr} {F H F' H' F2 H2 : Hp} {B B2 : Int} {o u : HO}
theorem Cz.start (s : Sub F H) (S : Sta F H a g B) : Cz a g F H F H B := by
  obtain ⟨c, r, t, gs, cs, S0, t0, tB⟩ := id S
  exact ⟨Nx.refl s, S, some_ne S0.hd, some_ne S0.hg⟩
theorem Cz.na (z : Cz a g F H F' H' B) (hp : H p = none) : p ≠ a := fun e => z.ha (e ▸ hp)
theorem Cz.ng (z : Cz a g F H F' H' B) (hp : H p = none) : p ≠ g := fun e => z.hg (e ▸ hp)
theorem Cz.nm (z : Cz a g F H F' H' B) (hp : H p = none) : ¬ MS a g p := fun e => e.elim (z.na hp) (z.ng hp)
theorem Cz.old (z : Cz a g F H F' H' B) (hp : H' p = none) : H p = none := by
  cases e : H p with
  | none => rfl
  | some o => exact absurd hp (z.N.alive p (some_ne e))
theorem Cz.sub (z : Cz a g F H F' H' B) : Sub F' H' := z.N.sub
theorem Cz.mono (z : Cz a g F H F' H' B) (h : B ≤ B2) : Cz a g F H F' H' B2 := ⟨z.N, z.S.mono h, z.ha, z.hg⟩
theorem Sta.upd {F H : Hp} {B : Int} (S : Sta F H a g B) (na : p ≠ a) (ng : p ≠ g) : Sta F (upd H p o) a g B := by
  obtain ⟨c, r, t, gs, cs, S, t0, tB⟩ := S
  exact ⟨c, r, t, gs, cs, ⟨by rw [upd_ne na.symm]; exact S.hd, by rw [upd_ne ng.symm]; exact S.hg, S.hc, S.fa, S.fg⟩, t0, tB⟩
theorem Sta.lay {F H : Hp} {B : Int} (S : Sta F H a g B) (na : p ≠ a) (ng : p ≠ g) (h : F p = none) : Sta (L2.upd F p o) H a g B := by
  obtain ⟨c, r, t, gs, cs, S, t0, tB⟩ := S
  exact ⟨c, r, t, gs, cs, ⟨S.hd, S.hg, upd_keep S.hc h, by rw [upd_ne na.symm]; exact S.fa, by rw [upd_ne ng.symm]; exact S.fg⟩, t0, tB⟩
theorem Cz.lay (z : Cz a g F H F' H' B) (hp : H' p = none) (o : HO) : Cz a g F H (L2.upd F' p o) (L2.upd H' p o) B :=
  have h0 := z.old hp
  ⟨z.N.trans (Nx.lay z.sub hp), ((z.S.upd (z.na h0) (z.ng h0)).lay (z.na h0) (z.ng h0) (z.sub.none hp)), z.ha, z.hg⟩
theorem Cz.mak (z : Cz a g F H F' H' B) (hp : H' p = none) (o : HO) : Cz a g F H F' (L2.upd H' p o) B :=
  have h0 := z.old hp
  ⟨z.N.trans (Nx.mak z.sub hp), z.S.upd (z.na h0) (z.ng h0), z.ha, z.hg⟩
theorem Cz.wr (z : Cz a g F H F' H' B) (hp : H p = none) (hf : F' p = none) (o : HO) : Cz a g F H F' (L2.upd H' p o) B :=
  ⟨z.N.wr (.inl hp) hf, z.S.upd (z.na hp) (z.ng hp), z.ha, z.hg⟩
theorem Cz.frz (z : Cz a g F H F' H' B) (hp : H p = none) (h : H' p = some o) (hf : F' p = none) : Cz a g F H (L2.upd F' p o) H' B :=
  ⟨z.N.frz hp h hf, z.S.lay (z.na hp) (z.ng hp) hf, z.ha, z.hg⟩
theorem Cz.step (z : Cz a g F H F' H' B) (N2 : Nx (MS a g) F' H' F2 H2) (S2 : Sta F2 H2 a g B2) : Cz a g F H F2 H2 B2 := ⟨z.N.trans N2, S2, z.ha, z.hg⟩
theorem Cz.pure (z : Cz a g F H F' H' B) (N2 : Nx No F' H' F2 H2) : Cz a g F H F2 H2 B := by
  refine ⟨z.N.trans (N2.weak fun _ h => h.elim), ?_, z.ha, z.hg⟩
  obtain ⟨c, r, t, gs, cs, S, t0, tB⟩ := z.S
  exact ⟨c, r, t, gs, cs, ⟨N2.keep _ _ S.hd (fun h => h), N2.keep _ _ S.hg (fun h => h), N2.mono _ _ S.hc, N2.new _ (some_ne S.hd) S.fa, N2.new _ (some_ne S.hg) S.fg⟩, t0, tB⟩
end
end EV
end

section
set_option maxHeartbeats 2000000
/-! ### the rules with the written part named -/
namespace EV
open PySem PySem.Spec PyProof.Rows L2
section
variable {X : Cx} (K : PySem.W.Frag)
theorem k_in (hK : X.K = K := by rfl) : OpR X (compareOp .In) (rIn K false) := by subst hK; exact op_in_seq
theorem k_notIn (hK : X.K = K := by rfl) : OpR X (compareOp .NotIn) (rIn K true) := by subst hK; exact op_notIn_seq
theorem k_eqD (hu : X.A.units + 64 < cLine) (hK : X.K = K := by rfl) : OpR X (compareOp .Eq) (rEqD K) := by subst hK; exact op_eqD hu
theorem k_neD (hu : X.A.units + 64 < cLine) (hK : X.K = K := by rfl) : OpR X (compareOp .NotEq) (rNeD K) := by subst hK; exact op_neD hu
theorem k_inD (hu : X.A.units + 65 < cLine) (hK : X.K = K := by rfl) : OpR X (compareOp .In) (rInD K) := by subst hK; exact op_inD hu
theorem k_notInD (hu : X.A.units + 65 < cLine) (hK : X.K = K := by rfl) : OpR X (compareOp .NotIn) (rNotInD K) := by subst hK; exact op_notInD hu
theorem k_catA (hK : X.K = K := by rfl) : OpR X (binaryOp .Add) (rCatA K) := by subst hK; exact op_catA
theorem k_ixL (hK : X.K = K := by rfl) : IxR X (rIxL K) := by subst hK; exact ix_list
theorem k_ixT (hK : X.K = K := by rfl) : IxR X (rIxT K) := by subst hK; exact ix_tup
theorem k_ixS (hK : X.K = K := by rfl) : IxR X (rIx K) := by subst hK; exact ix_seq
theorem k_slL (hK : X.K = K := by rfl) : SlR X (rSlL K) := by subst hK; exact sl_list
theorem k_slT (hK : X.K = K := by rfl) : SlR X (rSlA K) := by subst hK; exact sl_tupA
def rLenK : List V → Hp → VK → Prop := fun xs H Q => ∃ x n, xs = [x] ∧ LenV K x H n ∧ Q (.int n) H
theorem k_len (hK : X.K = K := by rfl) : CallR X (.builtin "len") (rLenK K) := by subst hK; exact call_len
def rListK : List V → Hp → VK → Prop := fun xs H Q => ∃ p ys, xs = [.ref p] ∧ (SqL K H p ys ∨ SqT K H p ys) ∧ ∀ l, H l = none → Q (.ref l) (upd H l (.lst ys))
theorem k_listOf (hK : X.K = K := by rfl) : CallR X (.type "list") (rListK K) := by subst hK; exact call_list_of
def rTupK : List V → Hp → VK → Prop := fun xs H Q => ∃ p ys, xs = [.ref p] ∧ ((SqL K H p ys ∧ ∀ l, H l = none → Q (.ref l) (upd H l (.tup ys))) ∨ (SqT K H p ys ∧ Q (.ref p) H))
theorem k_sum (hc : X.calm = true) (hK : X.K = K := by rfl) : CallR X (.builtin "sum") (rSum K) := by subst hK; exact cr_sum hc
theorem k_max (hc : X.calm = true) (hK : X.K = K := by rfl) : CallR X (.builtin "max") (rMax K) := by subst hK; exact cr_max hc
theorem k_min (hc : X.calm = true) (hK : X.K = K := by rfl) : CallR X (.builtin "min") (rMin K) := by subst hK; exact cr_min hc
theorem k_all (hc : X.calm = true) (hK : X.K = K := by rfl) : CallR X (.builtin "all") (rAll K) := by subst hK; exact cr_all hc
theorem k_sortedS (hK : X.K = K := by rfl) : CallR X (.builtin "sorted") (rSortedS K) := by subst hK; exact cr_sortedS
theorem k_isi (hK : X.K = K := by rfl) : CallR X (.builtin "isinstance") (rIsi K) := by subst hK; exact call_isi
theorem k_isiT (hK : X.K = K := by rfl) : CallR X (.builtin "isinstance") (rIsiT K) := by subst hK; exact call_isiT
def rLtS : R2 := fun x y H Q => ∃ i j, x = .str i ∧ y = .str j ∧ Q (.bl (decide (i.cps.toList < j.cps.toList))) H
theorem k_ltS : OpR X (compareOp .Lt) rLtS := op_lt_str
def rAddStr : R2 := fun x y H Q => ∃ i j, x = .str i ∧ y = .str j ∧ i.length + j.length ≤ sizeLine ∧ Q (.str (i ++ j)) H
theorem k_addS : OpR X (binaryOp .Add) rAddStr := op_add_str
def rInSign : R2 := fun x y H Q => ∃ (c : Nat) (z : Str), x = .str ⟨#[c]⟩ ∧ y = .str z ∧ Q (.bl (decide (c ∈ z.cps.toList))) H
theorem k_inSign : OpR X (compareOp .In) rInSign := op_in_sign
theorem k_gI {x : Str} {n : Int} {pos : Pos} (hg : Gl X x) (h : ∃ t, X.mg x = some (.int n t)) (hd : (x == ("__debug__" : Str)) = false := by decide) : PE X (.Name x pos) (tC (.int n)) := by obtain ⟨t, h⟩ := h; exact pe_glob hg h ⟨t, rfl⟩ hd
theorem k_gS {x z : Str} {pos : Pos} (hg : Gl X x) (h : ∃ t, X.mg x = some (.str z t)) (hd : (x == ("__debug__" : Str)) = false := by decide) : PE X (.Name x pos) (tC (.str z)) := by obtain ⟨t, h⟩ := h; exact pe_glob hg h ⟨t, rfl⟩ hd
theorem k_pgt {es : List Expr} {k : Nat} {t : TGs} {pos : Pos} (n : Nat) (hc : X.calm = true) (h : PGs X es t) (hn : (assignEach es X.env).length = n := by rfl) (hst : (assignEach es X.env).findIdx? (·.1) = none := by rfl) (hK : X.K = K := by rfl) : PG X (.Tuple es k pos) (gTup K n t) := by subst hK; exact pg_tup hc h hn hst
variable {tg l e a o : Expr} {tl te ta to : TE} {t : TA} {p pos apos cpos : Pos} {f : Str} {es : List Expr} {n : Nat} {u : TGs}
theorem k_pil (hl : PE X l tl) (hK : X.K = K := by rfl) : PI X tg l (iList K tl) := by subst hK; exact pi_list hl
theorem k_pit (hl : PE X l tl) (hK : X.K = K := by rfl) : PI X tg l (iTup K tl) := by subst hK; exact pi_tup hl
theorem k_fld (he : PE X e ta) (hb : attributeBase e f X.env (eval e X.env) = eval e X.env := by rfl) (hK : X.K = K := by rfl) : PE X (.Attribute e f pos) (tFld K ta f) := by subst hK; exact pe_fld he hb
theorem k_tupleOf (hg : Gl X "tuple") (hm : X.mg "tuple" = none) (ha : PE X a ta) (na : starEach [a] X.env = (false, eval a X.env) :: starEach [] X.env := by rfl) (hK : X.K = K := by rfl) : PE X (.Call (.Name "tuple" p) [a] [] pos) (tThen ta (kTup K)) := by subst hK; exact pe_tupleOf hg hm ha na
theorem k_append (ho : PE X o to) (ha : PA X (e :: es) t) (hK : X.K = K := by rfl)
    (hbase : attributeBase o "append" X.env (eval o X.env) = eval o X.env := by rfl)
    (hfew : ((backTo cpos (starEach (e :: es) X.env)).all (fun x => !x.1) && (backToKw cpos (keywordEach [] X.env)).all (fun x => x.1.isSome)
      && decide ((e :: es).length + ([] : List Keyword).length + (if ([] : List Keyword).isEmpty then 0 else 1) < 30)) = true := by rfl)
    (hline : (apos.endLine == cpos.line) = true := by rfl) (hs : starEach (e :: es) X.env = (false, eval e X.env) :: starEach es X.env := by rfl) (hplain : (backTo cpos (starEach es X.env)).any (·.1) = false := by rfl) :
    PE X (.Call (.Attribute o "append" apos) (e :: es) [] cpos) (tBM K "list" rAppend to t) := by
  subst hK; exact pe_bm PySem.F.plainAttrs_list PySem.F.slot_list_append PySem.F.type_list_append mt_append ho ha hbase hfew hline hs hplain
theorem k_popAt (ho : PE X o to) (ha : PA X (e :: es) t) (hK : X.K = K := by rfl)
    (hbase : attributeBase o "pop" X.env (eval o X.env) = eval o X.env := by rfl)
    (hfew : ((backTo cpos (starEach (e :: es) X.env)).all (fun x => !x.1) && (backToKw cpos (keywordEach [] X.env)).all (fun x => x.1.isSome)
      && decide ((e :: es).length + ([] : List Keyword).length + (if ([] : List Keyword).isEmpty then 0 else 1) < 30)) = true := by rfl)
    (hline : (apos.endLine == cpos.line) = true := by rfl) (hs : starEach (e :: es) X.env = (false, eval e X.env) :: starEach es X.env := by rfl) (hplain : (backTo cpos (starEach es X.env)).any (·.1) = false := by rfl) :
    PE X (.Call (.Attribute o "pop" apos) (e :: es) [] cpos) (tBM K "list" rPopAt to t) := by
  subst hK; exact pe_bm PySem.F.plainAttrs_list PySem.F.slot_list_pop PySem.F.type_list_pop mt_popAt ho ha hbase hfew hline hs hplain
end
end EV
namespace EV
open PySem PySem.Spec PyProof.Rows L2
/-! ### one step of a reading -/
section
variable {K : PySem.W.Frag} {σ : L2.St} {H : Hp} {Q : VK} {D : Ends} {ta tb te td ty tv tc : TE} {t u : TS} {tt uu : TT} {tr : TA} {i : Nat} {v x y : V} {r r' : R2} {a p : Addr} {xs ys : List V} {n m : Int} {R : Bool → Hp → Prop} {RA : List V → Hp → Prop}
theorem z_seq (q : t ⟨u D, D.rt, D.bk, D.ct⟩ σ H) : tSeq t u D σ H := q
theorem z_cut (Mid : L2.St → Hp → Prop) (h : t ⟨Mid, D.rt, D.bk, D.ct⟩ σ H) (q : ∀ σ' H', Mid σ' H' → u D σ' H') : C8.tCut t u D σ H := ⟨Mid, h, q⟩
theorem z_next (q : D.nx σ H) : tNext D σ H := q
theorem z_nx {a1 a3 a4 : L2.St → Hp → Prop} {a2 : V → Hp → Prop} (q : a1 σ H) : (Ends.mk a1 a2 a3 a4).nx σ H := q
theorem z_rt {a1 a3 a4 : L2.St → Hp → Prop} {a2 : V → Hp → Prop} (q : a2 v H) : (Ends.mk a1 a2 a3 a4).rt v H := q
theorem z_asg {g : TG} (q : te σ H fun x H1 => g x σ H1 D.nx) : tAsg te g D σ H := q
theorem z_name {S : L2.St → Hp → Prop} (q : S (σ.set i (some v)) H) : gName i v σ H S := q
theorem z_drop (q : te σ H fun _ H1 => D.nx σ H1) : tDrop te D σ H := q
theorem z_ret (q : te σ H D.rt) : tRet te D σ H := q
theorem z_if {c : TT} (q : c σ H fun b H1 => if b = true then t D σ H1 else u D σ H1) : tIfS c t u D σ H := q
theorem z_var (h : σ[i]? = some (some v)) (q : Q v H) : tVar i σ H Q := ⟨v, h, q⟩
theorem z_c (q : Q v H) : tC v σ H Q := q
theorem z_op (q : ta σ H fun x H1 => tb σ H1 fun y H2 => r x y H2 Q) : tOp r ta tb σ H Q := q
theorem z_un {r : V → Hp → VK → Prop} (q : ta σ H fun x H1 => r x H1 Q) : tUn r ta σ H Q := q
theorem z_I0 {g : Int → Int → V} (q : Q (g n m) H) : rI0 g (.int n) (.int m) H Q := ⟨n, m, rfl, rfl, q⟩
theorem z_I {C : Int → Int → Prop} {g : Int → Int → V} (c : C n m) (q : Q (g n m) H) : rI C g (.int n) (.int m) H Q := ⟨n, m, rfl, rfl, c, q⟩
theorem z_U {g : Int → V} (q : Q (g n) H) : rU g (.int n) H Q := ⟨n, rfl, q⟩
theorem z_eq (h : scal x y = true) (q : Q (.bl (decide (x = y))) H) : rEq x y H Q := ⟨h, q⟩
theorem z_ne (h : scal x y = true) (q : Q (.bl (!decide (x = y))) H) : rNe x y H Q := ⟨h, q⟩
theorem z_test (q : te σ H fun x H' => ∃ k, x = .bl k ∧ R k H') : tTest te σ H R := q
theorem z_bl {b : Bool} {R : Bool → Prop} (q : R b) : ∃ k, V.bl b = .bl k ∧ R k := ⟨b, rfl, q⟩
theorem z_B (q : te σ H fun x H1 => ∃ c, x = .bl c ∧ R c H1) : tB te σ H R := q
theorem z_and (q : tt σ H fun c H1 => if c = true then uu σ H1 R else R false H1) : tAnd tt uu σ H R := q
theorem z_or (q : tt σ H fun c H1 => if c = true then R true H1 else uu σ H1 R) : tOr tt uu σ H R := q
theorem z_not (q : tt σ H fun c H1 => R (!c) H1) : tNot tt σ H R := q
theorem z_andV (q : ta σ H fun x H1 => ∃ c, x = .bl c ∧ if c = true then tb σ H1 Q else Q (.bl false) H1) : tAndV ta tb σ H Q := q
theorem z_orV (q : ta σ H fun x H1 => ∃ c, x = .bl c ∧ if c = true then Q (.bl true) H1 else tb σ H1 Q) : tOrV ta tb σ H Q := q
theorem z_notV (q : ta σ H fun x H1 => ∃ c, x = .bl c ∧ Q (.bl (!c)) H1) : tNotV ta σ H Q := q
theorem z_ifE (q : tt σ H fun c H1 => if c = true then ta σ H1 Q else tb σ H1 Q) : tIf tt ta tb σ H Q := q
theorem z_nil (q : RA [] H) : tNil σ H RA := q
theorem z_cons (q : ta σ H fun x H1 => tr σ H1 fun xs H2 => RA (x :: xs) H2) : tCons ta tr σ H RA := q
theorem z_tup (q : tr σ H fun xs H1 => xs.length ≤ sizeLine ∧ ∀ p, H1 p = none → Q (.ref p) (upd H1 p (.tup xs))) : tTup tr σ H Q := q
theorem z_lst (q : tr σ H fun xs H1 => xs.length ≤ sizeLine ∧ ∀ p, H1 p = none → Q (.ref p) (upd H1 p (.lst xs))) : tLst tr σ H Q := q
theorem z_cb {r : List V → Hp → VK → Prop} (q : tr σ H fun vs H1 => r vs H1 Q) : tCB r tr σ H Q := q
theorem z_call {sp : Sp} {dvs : List V} {E : XK} (q : tr σ H fun vs H1 => sp (vs ++ dvs) H1 Q E) : tCall sp dvs E tr σ H Q := q
theorem z_dget (q : td σ H fun x H1 => ty σ H1 fun y H2 => ∃ a v, x = .ref a ∧ DGet H2 a y (some v) ∧ Q v H2) : tDGet td ty σ H Q := q
/-- an item of a dict that is known -/
theorem z_dgetK {kvs : List (Key × V)} {k : Key} {Q : V → Prop} (h : Rd H a (.dK kvs)) (e : valV kvs k = some v) (q : Q v) : ∃ a' v', V.ref a = .ref a' ∧ DGet H a' (kV k) (some v') ∧ Q v' := ⟨a, v, rfl, .inl ⟨kvs, k, h, rfl, e.symm⟩, q⟩
theorem z_dgetS {kvs : List (Key × V)} {k : Str} {Q : V → Prop} (h : H a = some (.dK kvs)) (e : valV kvs (key k) = some v) (q : Q v) : ∃ a' v', V.ref a = .ref a' ∧ DGet H a' (.str k) (some v') ∧ Q v' := z_dgetK (k := key k) (.inl h) e q
theorem z_dput (q : tv σ H fun v H1 => td σ H1 fun x H2 => ty σ H2 fun y H3 => ∃ a H4, x = .ref a ∧ DPut H3 a y v H4 ∧ D.nx σ H4) : sDPut td ty tv D σ H := q
theorem z_dputS {kvs kvs' : List (Key × V)} {k : Str} {N : Hp → Prop} (h : H a = some (.dK kvs)) (hl : kvs.length < sizeLine) (e : putK kvs (key k) v = kvs') (q : N (upd H a (.dK kvs'))) : ∃ a' H4, V.ref a = .ref a' ∧ DPut H a' (.str k) v H4 ∧ N H4 :=
  ⟨a, _, rfl, .inl ⟨kvs, key k, h, rfl, hl, rfl⟩, by rw [e]; exact q⟩
theorem z_chain (q : ta σ H fun x H1 => tb σ H1 fun y H2 => r x y H2 fun z H3 => ∃ k, z = .bl k ∧ (if k = true then tc σ H3 fun w' H4 => r' y w' H4 Q else Q (.bl false) H3)) : tChain r r' ta tb tc σ H Q := q
theorem z_then {k : V → Hp → VK → Prop} (q : ta σ H fun x H1 => k x H1 Q) : tThen ta k σ H Q := q
theorem z_fld {f : Str} (q : ta σ H fun x H1 => ∃ a C dx fs v, x = .ref a ∧ H1 a = some (.ins C dx fs) ∧ Cls K C ∧ NoAttr K C f ∧ fs.lookup f = some v ∧ Q v H1) : tFld K ta f σ H Q := q
theorem z_bm {T : String} {r : V → List V → Hp → VK → Prop} (q : ta σ H fun x H1 => tyV K T x H1 ∧ tr σ H1 fun xs H2 => r x xs H2 Q) : tBM K T r ta tr σ H Q := q
theorem z_ite {c A B : Prop} [Decidable c] (h1 : c → A) (h2 : ¬ c → B) : if decide c = true then A else B := by
  by_cases h : c
  · rw [decide_eq_true h, if_pos rfl]; exact h1 h
  · rw [decide_eq_false h, if_neg Bool.false_ne_true]; exact h2 h
theorem z_iteN {c A B : Prop} [Decidable c] (h1 : ¬ c → A) (h2 : c → B) : if (!decide c) = true then A else B := by
  by_cases h : c
  · rw [decide_eq_true h, if_neg (by decide)]; exact h2 h
  · rw [decide_eq_false h, if_pos (by decide)]; exact h1 h
theorem z_iteB {b : Bool} {A B : Prop} (h1 : b = true → A) (h2 : b = false → B) : if b = true then A else B := by
  cases b with
  | true => rw [if_pos rfl]; exact h1 rfl
  | false => rw [if_neg Bool.false_ne_true]; exact h2 rfl
theorem z_pop {tl : List Int} (h : H a = some (.lst (.int n :: tl.map V.int))) (q : Q (.int n) (upd H a (.lst (tl.map V.int)))) : rPopAt (.ref a) [.int 0] H Q :=
  ⟨a, _, 0, 0, .int n, rfl, rfl, h, by decide, by decide, by simp [seqIndex?], rfl, q⟩
/-! ### loops -/
variable {g : TG} {tb : TS} {xs : List V}
theorem z_for {wi : TI} (q : wi σ H fun J H1 => ∃ W : Nat → Nat → L2.St → Hp → Prop, (∃ m, W 0 m σ H1) ∧ ∀ i m σ H, W i m σ H →
    (J.stop i H ∧ D.nx σ H) ∨ (J.go i H ∧ ∃ N : L2.St → Hp → Prop, (∀ σ' H', N σ' H' → ∃ m', m' < m ∧ W (i + 1) m' σ' H') ∧ ∀ x H', J.yld i H x H' → g x σ H' fun σ2 H2 => tb { D with nx := N, ct := N, bk := D.nx } σ2 H2)) : tFor wi g tb D σ H := q
theorem z_il {R : It → Hp → Prop} (q : te σ H fun x H1 => ∃ a, x = .ref a ∧ (∃ xs, SqL K H1 a xs) ∧ R (Itl K a) H1) : iList K te σ H R := q
theorem z_it {R : It → Hp → Prop} (q : te σ H fun x H1 => ∃ a, x = .ref a ∧ (∃ xs, SqT K H1 a xs) ∧ R (Itt K a) H1) : iTup K te σ H R := q
theorem z_r1 {R : It → Hp → Prop} (q : tr σ H fun vs H1 => ∃ j : Int, vs = [.int j] ∧ -(2 ^ 62) ≤ j ∧ j < 2 ^ 62 ∧ R (Itr 0 j.toNat) H1) : iRng1 tr σ H R := q
/-- over a list: the word Pv, the list stays, a turn, the end -/
theorem z_loopL {nx : L2.St → Hp → Prop} {rt : V → Hp → Prop} {bk ct : L2.St → Hp → Prop} (h : SqL K H a xs) (Pv : Nat → L2.St → Hp → Prop) (h0 : Pv 0 σ H) (hl : ∀ i σ H, i ≤ xs.length → Pv i σ H → SqL K H a xs)
    (hs : ∀ i x σ H, xs[i]? = some x → Pv i σ H → g x σ H fun σ2 H2 => tb ⟨Pv (i + 1), rt, nx, Pv (i + 1)⟩ σ2 H2) (hd : ∀ σ H, Pv xs.length σ H → nx σ H) :
    ∃ a', V.ref a = .ref a' ∧ (∃ xs, SqL K H a' xs) ∧ ∃ W : Nat → Nat → L2.St → Hp → Prop, (∃ m, W 0 m σ H) ∧ ∀ i m σ H, W i m σ H →
      ((Itl K a').stop i H ∧ (Ends.mk nx rt bk ct).nx σ H) ∨ ((Itl K a').go i H ∧ ∃ N : L2.St → Hp → Prop, (∀ σ' H', N σ' H' → ∃ m', m' < m ∧ W (i + 1) m' σ' H') ∧ ∀ x H', (Itl K a').yld i H x H' → g x σ H' fun σ2 H2 => tb { (Ends.mk nx rt bk ct) with nx := N, ct := N, bk := (Ends.mk nx rt bk ct).nx } σ2 H2) :=
  ⟨a, rfl, ⟨xs, h⟩, for_list (D := Ends.mk nx rt bk ct) Pv h0 hl hs hd⟩
theorem z_loopT {nx : L2.St → Hp → Prop} {rt : V → Hp → Prop} {bk ct : L2.St → Hp → Prop} (h : SqT K H a xs) (Pv : Nat → L2.St → Hp → Prop) (h0 : Pv 0 σ H) (hl : ∀ i σ H, i ≤ xs.length → Pv i σ H → SqT K H a xs)
    (hs : ∀ i x σ H, xs[i]? = some x → Pv i σ H → g x σ H fun σ2 H2 => tb ⟨Pv (i + 1), rt, nx, Pv (i + 1)⟩ σ2 H2) (hd : ∀ σ H, Pv xs.length σ H → nx σ H) :
    ∃ a', V.ref a = .ref a' ∧ (∃ xs, SqT K H a' xs) ∧ ∃ W : Nat → Nat → L2.St → Hp → Prop, (∃ m, W 0 m σ H) ∧ ∀ i m σ H, W i m σ H →
      ((Itt K a').stop i H ∧ (Ends.mk nx rt bk ct).nx σ H) ∨ ((Itt K a').go i H ∧ ∃ N : L2.St → Hp → Prop, (∀ σ' H', N σ' H' → ∃ m', m' < m ∧ W (i + 1) m' σ' H') ∧ ∀ x H', (Itt K a').yld i H x H' → g x σ H' fun σ2 H2 => tb { (Ends.mk nx rt bk ct) with nx := N, ct := N, bk := (Ends.mk nx rt bk ct).nx } σ2 H2) :=
  ⟨a, rfl, ⟨xs, h⟩, for_tup (D := Ends.mk nx rt bk ct) Pv h0 hl hs hd⟩
/-- while: the word, the measure -/
theorem z_while {nx : L2.St → Hp → Prop} {rt : V → Hp → Prop} {bk ct : L2.St → Hp → Prop} {c : TT} (Pv : Nat → L2.St → Hp → Prop) (m0 : Nat) (h0 : Pv m0 σ H)
    (hs : ∀ m σ H, Pv m σ H → c σ H fun b H1 => if b = true then tb ⟨fun σ' H' => ∃ m', m' < m ∧ Pv m' σ' H', rt, nx, fun σ' H' => ∃ m', m' < m ∧ Pv m' σ' H'⟩ σ H1 else nx σ H1)
    (mono : ∀ σ H Q Q', (∀ b H1, Q b H1 → Q' b H1) → c σ H Q → c σ H Q') : tWhile c tb (Ends.mk nx rt bk ct) σ H := by
  refine ⟨Pv, ⟨m0, h0⟩, fun m σ H p => mono σ H _ _ (fun b H1 q => ?_) (hs m σ H p)⟩
  cases b with
  | true => exact ⟨_, fun σ' H' z => z, q⟩
  | false => exact q
theorem at_int {ns : List Int} {i : Nat} {x : V} (h : (ns.map V.int)[i]? = some x) : ∃ n, ns[i]? = some n ∧ x = .int n := by
  rw [List.getElem?_map] at h
  cases e : ns[i]? with
  | none => rw [e] at h; cases h
  | some n => rw [e] at h; exact ⟨n, rfl, (Option.some.inj h).symm⟩
theorem at_str {ns : List Str} {i : Nat} {x : V} (h : (ns.map V.str)[i]? = some x) : ∃ n, ns[i]? = some n ∧ x = .str n := by
  rw [List.getElem?_map] at h
  cases e : ns[i]? with
  | none => rw [e] at h; cases h
  | some n => rw [e] at h; exact ⟨n, rfl, (Option.some.inj h).symm⟩
/-! ### data: lists of ints, of texts -/
theorem eqvS : ∀ xs ys : List Str, PyData.eqvAll (xs.map .str) (ys.map .str) = decide (xs = ys)
  | [], [] => rfl
  | [], _ :: _ => rfl
  | _ :: _, [] => rfl
  | x :: xs, y :: ys => by
    show ((x == y) && PyData.eqvAll (xs.map .str) (ys.map .str)) = _
    rw [eqvS xs ys]
    by_cases h : x = y <;> by_cases h2 : xs = ys <;> simp [h, h2]
theorem eqvI : ∀ xs ys : List Int, PyData.eqvAll (xs.map .int) (ys.map .int) = decide (xs = ys)
  | [], [] => rfl
  | [], _ :: _ => rfl
  | _ :: _, [] => rfl
  | x :: xs, y :: ys => by
    show ((x == y) && PyData.eqvAll (xs.map .int) (ys.map .int)) = _
    rw [eqvI xs ys, Bool.beq_eq_decide_eq]
    by_cases h : x = y <;> by_cases h2 : xs = ys <;> simp [h, h2]
theorem layI : ∀ xs : List Int, PyData.canLayAll0 (xs.map .int) = true
  | [] => rfl
  | x :: xs => by
    show (true && PyData.canLayAll0 (xs.map .int)) = true
    rw [layI xs]; rfl
theorem layS : ∀ xs : List Str, (∀ x ∈ xs, PyData.strOk x = true) → PyData.canLayAll0 (xs.map .str) = true
  | [], _ => rfl
  | x :: xs, h => by
    show (PyData.strOk x && PyData.canLayAll0 (xs.map .str)) = true
    rw [h x List.mem_cons_self, layS xs fun y hy => h y (List.mem_cons_of_mem _ hy)]; rfl
theorem depI : ∀ xs : List Int, PyData.depthAll (xs.map .int) ≤ 1
  | [] => by simp [PyData.depthAll]
  | x :: xs => by
    have := depI xs
    simp only [List.map_cons, PyData.depthAll, PyData.depth]
    omega
theorem depS : ∀ xs : List Str, PyData.depthAll (xs.map .str) ≤ 1
  | [] => by simp [PyData.depthAll]
  | x :: xs => by
    have := depS xs
    simp only [List.map_cons, PyData.depthAll, PyData.depth]
    omega
theorem dpI {K : PySem.W.Frag} {H : Hp} : ∀ xs : List Int, DpAll K H (xs.map V.int) (xs.map .int)
  | [] => .nil
  | x :: xs => .cons (.int x) (dpI xs)
theorem dpS {K : PySem.W.Frag} {H : Hp} : ∀ xs : List Str, DpAll K H (xs.map V.str) (xs.map .str)
  | [] => .nil
  | x :: xs => .cons (.str x) (dpS xs)
theorem shI (xs : List Int) : SeqAt.shaped (.list (xs.map .int)) = true := by
  have := depI xs
  rw [SeqAt.shaped, PyData.canLay0, layI, Bool.true_and, decide_eq_true_eq, PyData.depth]
  omega
theorem shS {xs : List Str} (h : ∀ x ∈ xs, PyData.strOk x = true) : SeqAt.shaped (.list (xs.map .str)) = true := by
  have := depS xs
  rw [SeqAt.shaped, PyData.canLay0, layS xs h, Bool.true_and, decide_eq_true_eq, PyData.depth]
  omega
theorem shT {xs : List Str} (h : ∀ x ∈ xs, PyData.strOk x = true) : SeqAt.shaped (.tuple (xs.map .str)) = true := by
  have := depS xs
  rw [SeqAt.shaped, PyData.canLay0, layS xs h, Bool.true_and, decide_eq_true_eq, PyData.depth]
  omega
theorem z_neI {p q : Addr} {xs ys : List Int} {Q : VK} (h1 : SqL K H p (xs.map V.int)) (h2 : SqL K H q (ys.map V.int)) (k : Q (.bl (!decide (xs = ys))) H) : rNeD K (.ref p) (.ref q) H Q :=
  ⟨.list (xs.map .int), .list (ys.map .int), .lst h1 (dpI xs), .lst h2 (dpI ys), shI xs, shI ys, by show Q (.bl (!PyData.eqvAll _ _)) H; rw [eqvI]; exact k⟩
theorem z_neS {p q : Addr} {xs ys : List Str} {Q : VK} (o1 : ∀ x ∈ xs, PyData.strOk x = true) (o2 : ∀ x ∈ ys, PyData.strOk x = true) (h1 : SqL K H p (xs.map V.str)) (h2 : SqL K H q (ys.map V.str)) (k : Q (.bl (!decide (xs = ys))) H) : rNeD K (.ref p) (.ref q) H Q :=
  ⟨.list (xs.map .str), .list (ys.map .str), .lst h1 (dpS xs), .lst h2 (dpS ys), shS o1, shS o2, by show Q (.bl (!PyData.eqvAll _ _)) H; rw [eqvS]; exact k⟩
/-- a place of a list that is there -/
theorem atI_of {xs : List V} {r : Int} (h0 : 0 ≤ r) (h1 : r < xs.length) : ∃ v, atI xs r = some v ∧ v ∈ xs := by
  have hj : r.toNat < xs.length := by omega
  refine ⟨xs[r.toNat], ?_, List.getElem_mem hj⟩
  have e : ((r.toNat : Nat) : Int) = r := Int.toNat_of_nonneg h0
  have q := atI_nat (List.getElem?_eq_getElem hj)
  rw [e] at q
  exact q
theorem z_par {i j : Nat} {ta : TA} (q : ta σ H fun vs H1 => ∃ v w, vs = [v, w] ∧ D.nx ((σ.set i (some v)).set j (some w)) H1) : tPar i j ta D σ H := q
theorem z_par3 {i j l : Nat} {ta : TA} (q : ta σ H fun vs H1 => ∃ u v w, vs = [u, v, w] ∧ D.nx (((σ.set i (some u)).set j (some v)).set l (some w)) H1) : tPar3 i j l ta D σ H := q
theorem z_ex2 {x y : V} {R : V → V → Prop} (q : R x y) : ∃ v w, [x, y] = [v, w] ∧ R v w := ⟨x, y, rfl, q⟩
theorem z_ex3 {x y z : V} {R : V → V → V → Prop} (q : R x y z) : ∃ u v w, [x, y, z] = [u, v, w] ∧ R u v w := ⟨x, y, z, rfl, q⟩
theorem z_tyes {R : Bool → Hp → Prop} (q : R true H) : tYes σ H R := q
theorem z_wipe {vs : List Nat} {σ σ2 : L2.St} {R : Prop} (h : wipe σ2 vs = wipe σ vs) (q : R) : wipe σ2 vs = wipe σ vs ∧ R := ⟨h, q⟩
theorem z_m1 {r : V → List V → Hp → VK → Prop} {to te : TE} (q : to σ H fun x H1 => (∃ a, x = .str a) ∧ te σ H1 fun y H2 => r x [y] H2 Q) : tM1 r to te σ H Q := q
theorem z_isS {x : Str} {R : Prop} (q : R) : (∃ a, V.str x = .str a) ∧ R := ⟨⟨x, rfl⟩, q⟩
theorem z_sl {r : V → Option Int → Option Int → Hp → VK → Prop} {te : TE} {tl th : TO} (q : te σ H fun x H1 => tl σ H1 fun l H2 => th σ H2 fun u H3 => r x l u H3 Q) : tSl r te tl th σ H Q := q
theorem z_np {R : Option Int → Hp → Prop} (q : R none H) : tNoPart σ H R := q
theorem z_pt {R : Option Int → Hp → Prop} (q : te σ H fun x H1 => ∃ i, x = .int i ∧ R (some i) H1) : tPart te σ H R := q
theorem z_exI {n : Int} {R : Int → Prop} (q : R n) : ∃ i, V.int n = .int i ∧ R i := ⟨n, rfl, q⟩
theorem z_is {x : Str} {R : Str → Prop} (q : R x) : ∃ y, V.str x = .str y ∧ R y := ⟨x, rfl, q⟩
theorem z_istr {te : TE} {R : It → Hp → Prop} (q : te σ H fun v H1 => ∃ x, v = .str x ∧ R (Its x) H1) : iStr te σ H R := q
theorem z_lc {wi : TI} {g : TG} {tt : TT} {te : TE} {vs : List Nat} (q : wi σ H fun J H1 => ∀ D, H1 D = none → ∃ W : Nat → Nat → Hp → Prop, (∃ m, W 0 m (upd H1 D (.lst []))) ∧ ∀ i m H, W i m H →
  (J.stop i H ∧ Q (.ref D) H) ∨ (J.go i H ∧ ∃ Nx : Hp → Prop, (∀ H', Nx H' → ∃ m', m' < m ∧ W (i + 1) m' H') ∧ ∀ x H', J.yld i H x H' → g x (wipe σ vs) H' fun σ2 H2 => wipe σ2 vs = wipe σ vs ∧ tt σ2 H2 fun b H3 =>
    if b = true then te σ2 H3 fun y H4 => ∃ acc, H4 D = some (.lst acc) ∧ acc.length < sizeLine ∧ Nx (upd H4 D (.lst (acc ++ [y]))) else Nx H3)) : tLc wi g tt te vs σ H Q := q
theorem inV_str (x : Str) : ∀ ns : List Str, inV (.str x) (ns.map V.str) = decide (x ∈ ns)
  | [] => rfl
  | y :: ns => by
    show (eqV (.str y) (.str x) || inV (.str x) (ns.map V.str)) = _
    rw [inV_str x ns]
    show ((y == x) || decide (x ∈ ns)) = _
    by_cases h : y = x
    · subst h; simp
    · have h' : ¬ x = y := fun e => h e.symm
      by_cases h2 : x ∈ ns <;> simp [h, h', h2]
theorem flatS (ns : List Str) : (ns.map V.str).all flatV = true := by
  rw [List.all_map]
  exact List.all_eq_true.mpr fun _ _ => rfl
theorem z_inS {p : Addr} {x : Str} {ns : List Str} (h : SqL K H p (ns.map V.str)) (q : Q (.bl (decide (x ∈ ns))) H) : rIn K false (.str x) (.ref p) H Q :=
  ⟨p, _, rfl, .inl h, rfl, flatS ns, by rw [inV_str]; exact q⟩
theorem z_ninS {p : Addr} {x : Str} {ns : List Str} (h : SqL K H p (ns.map V.str)) (q : Q (.bl (!decide (x ∈ ns))) H) : rIn K true (.str x) (.ref p) H Q :=
  ⟨p, _, rfl, .inl h, rfl, flatS ns, by rw [inV_str]; exact q⟩
theorem z_inT {p : Addr} {x : Str} {ns : List Str} (h : SqT K H p (ns.map V.str)) (q : Q (.bl (decide (x ∈ ns))) H) : rIn K false (.str x) (.ref p) H Q :=
  ⟨p, _, rfl, .inr h, rfl, flatS ns, by rw [inV_str]; exact q⟩
theorem z_ninT {p : Addr} {x : Str} {ns : List Str} (h : SqT K H p (ns.map V.str)) (q : Q (.bl (!decide (x ∈ ns))) H) : rIn K true (.str x) (.ref p) H Q :=
  ⟨p, _, rfl, .inr h, rfl, flatS ns, by rw [inV_str]; exact q⟩
theorem z_app {l : Addr} {xs : List V} (h : H l = some (.lst xs)) (hz : xs.length ≤ 100000) (q : Q .non (upd H l (.lst (xs ++ [y])))) : rAppend (.ref l) [y] H Q := ⟨l, xs, y, rfl, rfl, h, Nat.lt_of_le_of_lt hz (by decide), q⟩
/-- fewer names than letters: one of these is none of those -/
theorem nodup_sub {α : Type} [DecidableEq α] : ∀ (l D : List α), l.Nodup → (∀ x ∈ l, x ∈ D) → l.length ≤ D.length
  | [], _, _, _ => Nat.zero_le _
  | x :: l, D, h, s => by
    have hx := s x List.mem_cons_self
    have q := nodup_sub l (D.erase x) (List.nodup_cons.mp h).2 fun y hy => by
      have ne : y ≠ x := fun e => (List.nodup_cons.mp h).1 (e ▸ hy)
      exact (List.mem_erase_of_ne ne).mpr (s y (List.mem_cons_of_mem _ hy))
    rw [List.length_erase_of_mem hx] at q
    have : 0 < D.length := List.length_pos_of_mem hx
    simp only [List.length_cons]
    omega
theorem z_disp {trs : List (TE × TE)} (q : ∀ p, H p = none → tPairs trs σ (upd H p (.dK [])) fun ps H2 => H2 p = some (.dK []) ∧ ∃ kvs : List (Key × V), ps = kvs.map (fun kv => (kV kv.1, kv.2)) ∧ kvs.length ≤ 15 ∧ Q (.ref p) (upd H2 p (.dK (mergeK [] kvs)))) : tDisp trs σ H Q := q
theorem z_pc {tk tv : TE} {r : List (TE × TE)} {R : List (V × V) → Hp → Prop} (q : tk σ H fun x H1 => tv σ H1 fun y H2 => tPairs r σ H2 fun ps H3 => R ((x, y) :: ps) H3) : tPairs ((tk, tv) :: r) σ H R := q
theorem z_pn {R : List (V × V) → Hp → Prop} (q : R [] H) : tPairs [] σ H R := q
theorem z_list {p : Addr} {ys : List V} (h : SqL K H p ys ∨ SqT K H p ys) (q : ∀ l, H l = none → Q (.ref l) (upd H l (.lst ys))) : rListK K [.ref p] H Q := ⟨p, ys, rfl, h, q⟩
theorem z_lenL {p : Addr} {ys : List V} (h : SqL K H p ys) (q : Q (.int ys.length) H) : rLenK K [.ref p] H Q := ⟨_, ys.length, rfl, .inl ⟨ys, h, rfl⟩, q⟩
theorem z_lenT {p : Addr} {ys : List V} (h : SqT K H p ys) (q : Q (.int ys.length) H) : rLenK K [.ref p] H Q := ⟨_, ys.length, rfl, .inr ⟨ys, h, rfl⟩, q⟩
theorem z_ixL {p : Addr} {ys : List V} {i : Int} {v : V} (h : SqL K H p ys) (e : atI ys i = some v) (q : Q v H) : rIxL K (.ref p) (.int i) H Q := ⟨p, ys, i, v, rfl, rfl, h, e, q⟩
theorem z_ixT {p : Addr} {ys : List V} {i : Int} {v : V} (h : SqT K H p ys) (e : atI ys i = some v) (q : Q v H) : rIxT K (.ref p) (.int i) H Q := ⟨p, ys, i, v, rfl, rfl, h, e, q⟩
theorem z_slL {p : Addr} {ys : List V} {lo hi : Option Int} (h : SqL K H p ys) (q : ∀ l, H l = none → Q (.ref l) (upd H l (.lst (cutV ys lo hi)))) : rSlL K (.ref p) lo hi H Q := ⟨p, ys, rfl, h, q⟩
theorem z_cat {l b : Addr} {xs zs : List V} (h1 : H l = some (.lst xs)) (h2 : H b = some (.lst zs)) (hz : xs.length + zs.length ≤ 100000) (q : ∀ p, H p = none → Q (.ref p) (upd H p (.lst (xs ++ zs)))) : rCat (.ref l) (.ref b) H Q := ⟨l, b, xs, zs, rfl, rfl, h1, h2, sz hz, q⟩
theorem z_sum {p : Addr} {ns : List Int} (h : SqL K H p (ns.map V.int)) (q : Q (.int ns.sum) H) : rSum K [.ref p] H Q := ⟨p, ns, rfl, h, q⟩
theorem z_max {p : Addr} {ns : List Int} (h : SqL K H p (ns.map V.int)) (h0 : 0 < ns.length) (q : ∀ m, m ∈ ns → (∀ y, y ∈ ns → y ≤ m) → Q (.int m) H) : rMax K [.ref p] H Q := ⟨p, ns, rfl, h, h0, q⟩
theorem z_sorted {p : Addr} {xs : List Str} (h : SqL K H p (xs.map V.str)) (h64 : xs.length < 64) (q : ∀ (ys : List Str) (l : Addr), ys.Perm xs → sortedS ys = true → H l = none → Q (.ref l) (upd H l (.lst (ys.map V.str)))) : rSortedS K [.ref p] H Q := ⟨p, xs, rfl, h, h64, q⟩
theorem z_tupL {p : Addr} {xs : List V} (h : SqL K H p xs) (q : ∀ l, H l = none → Q (.ref l) (upd H l (.tup xs))) : kTup K (.ref p) H Q := .inl ⟨p, xs, rfl, h, q⟩
theorem z_dgetR {kvs : List (Key × V)} {k : Str} {Q : V → Prop} (h : Rd H a (.dK kvs)) (e : valV kvs (key k) = some v) (q : Q v) : ∃ a' v', V.ref a = .ref a' ∧ DGet H a' (.str k) (some v') ∧ Q v' := z_dgetK (k := key k) h e q
theorem rd_same {H H' : Hp} {a : Addr} {u : HO} (s : Same H H') (h : Rd H a u) : Rd H' a u := by
  rcases h with h | ⟨o, h⟩
  · exact .inl (s _ _ h)
  · exact .inr ⟨o, s _ _ h⟩
theorem sqt_same {K : PySem.W.Frag} {H H' : Hp} {a : Addr} {xs : List V} (s : Same H H') (h : SqT K H a xs) : SqT K H' a xs := by
  rcases h with h | h
  · exact .inl (rd_same s h)
  · exact .inr h
theorem same_new {H : Hp} {p : Addr} {o : HO} (h : H p = none) : Same H (upd H p o) := fun _ _ e => upd_keep e h
theorem same_wr {H H' : Hp} {p : Addr} {o : HO} (s : Same H H') (h : H p = none) : Same H (upd H' p o) := fun b u e => by rw [upd_ne (ne_of_none e h)]; exact s b u e
theorem same_old {H H' : Hp} {p : Addr} (s : Same H H') (h : H' p = none) : H p = none := s.free h
theorem z_ltS {x y : Str} (q : Q (.bl (decide (x.cps.toList < y.cps.toList))) H) : rLtS (.str x) (.str y) H Q := ⟨x, y, rfl, rfl, q⟩
theorem z_addS {x y : Str} (h : x.length + y.length ≤ sizeLine) (q : Q (.str (x ++ y)) H) : rAddStr (.str x) (.str y) H Q := ⟨x, y, rfl, rfl, h, q⟩
theorem slen (z : Str) : z.length = z.cps.toList.length := by show z.cps.size = _; simp
theorem z_no {A B : Prop} (h : B) : if false = true then A else B := by rw [if_neg Bool.false_ne_true]; exact h
theorem z_yes {A B : Prop} (h : A) : if true = true then A else B := by rw [if_pos rfl]; exact h
theorem Sub.sql {K : PySem.W.Frag} {F H : Hp} (s : Sub F H) {a : Addr} {xs : List V} (h : F a = some (.lst xs)) : SqL K H a xs := SqL.of (s _ _ h)
theorem Sub.sqt {K : PySem.W.Frag} {F H : Hp} (s : Sub F H) {a : Addr} {xs : List V} (h : F a = some (.tup xs)) : SqT K H a xs := SqT.of (s _ _ h)
end
theorem z_lockE {te : TE} {σ : L2.St} {H : Hp} {Q : VK} {d : Addr} {u : HO} (h : H d = some u) (m : Mut (some u)) (q : ∀ od, te σ (upd H d (.frz od u)) fun v H' => H' d = some (.frz od u) ∧ Q v (upd H' d u)) : tLockE te σ H Q := ⟨d, u, h, m, q⟩
theorem z_lockS {t : TS} {σ : L2.St} {H : Hp} {D : Ends} {d : Addr} {u : HO} (h : H d = some u) (m : Mut (some u)) (q : ∀ od, t ⟨fun σ' H' => H' d = some (.frz od u) ∧ D.nx σ' (upd H' d u), fun v H' => H' d = some (.frz od u) ∧ D.rt v (upd H' d u), fun σ' H' => H' d = some (.frz od u) ∧ D.bk σ' (upd H' d u), fun σ' H' => H' d = some (.frz od u) ∧ D.ct σ' (upd H' d u)⟩ σ (upd H d (.frz od u))) : tLock t D σ H := ⟨d, u, h, m, q⟩
theorem z_ik {td : TE} {σ : L2.St} {H : Hp} {R : It → Hp → Prop} (q : td σ H fun x H1 => ∃ d o, x = .ref d ∧ ((∃ kvs, H1 d = some (.frz o (.dK kvs)) ∧ R (Itk d o kvs) H1) ∨ ∃ kvs, H1 d = some (.frz o (.dT kvs)) ∧ R (Itkt d o kvs) H1)) : iKeys td σ H R := q
theorem z_din {ty td : TE} {σ : L2.St} {H : Hp} {Q : VK} (q : ty σ H fun y H1 => td σ H1 fun x H2 => ∃ a o, x = .ref a ∧ DGet H2 a y o ∧ Q (.bl o.isSome) H2) : tDIn ty td σ H Q := q
theorem z_dnin {ty td : TE} {σ : L2.St} {H : Hp} {Q : VK} (q : ty σ H fun y H1 => td σ H1 fun x H2 => ∃ a o, x = .ref a ∧ DGet H2 a y o ∧ Q (.bl (!o.isSome)) H2) : tDNotIn ty td σ H Q := q
theorem z_dgo {H : Hp} {a : Addr} {k : Str} {kvs : List (Key × V)} {Q : Option V → Prop} (h : Rd H a (.dK kvs)) (q : Q (valV kvs (key k))) : ∃ a' o, V.ref a = .ref a' ∧ DGet H a' (.str k) o ∧ Q o := ⟨a, _, rfl, .inl ⟨kvs, key k, h, rfl, rfl⟩, q⟩
theorem z_dsd {td ty tx : TE} {σ : L2.St} {H : Hp} {Q : VK} (q : td σ H fun x H1 => ∃ a, x = .ref a ∧ IsD H1 a ∧ ty σ H1 fun y H2 => tx σ H2 fun z H3 => ∃ (kvs : List (Key × V)) (k : Key), H3 a = some (.dK kvs) ∧ y = kV k ∧ kvs.length < sizeLine ∧
  (∀ v, valV kvs k = some v → Q v H3) ∧ (valV kvs k = none → Q z (upd H3 a (.dK (putK kvs k z))))) : tDSetd td ty tx σ H Q := q
theorem z_gs {to ti : TE} {t : TSet} {σ : L2.St} {H : Hp} {v : V} {Q : L2.St → Hp → Prop} (q : to σ H fun o H1 => ti σ H1 fun i H2 => t o i v H2 fun H3 => Q σ H3) : gSub to ti t v σ H Q := q
theorem z_rsd {kvs kvs' : List (Key × V)} {k : Str} {a : Addr} {H : Hp} {v : V} {N : Hp → Prop} (h : H a = some (.dK kvs)) (hl : kvs.length < sizeLine) (e : putK kvs (key k) v = kvs') (q : N (upd H a (.dK kvs'))) : rSetD (.ref a) (.str k) v H N :=
  ⟨a, _, rfl, .inl ⟨kvs, key k, h, rfl, hl, rfl⟩, by rw [e]; exact q⟩
theorem z_gt {K : PySem.W.Frag} {n : Nat} {t : TGs} {a : Addr} {xs : List V} {σ : L2.St} {H : Hp} {Q : L2.St → Hp → Prop} (h : SqT K H a xs) (hn : xs.length = n) (q : t xs σ H Q) : gTup K n t (.ref a) σ H Q := ⟨a, xs, rfl, h, hn, q⟩
theorem z_gc {g : TG} {r : TGs} {v : V} {xs : List V} {σ : L2.St} {H : Hp} {Q : L2.St → Hp → Prop} (q : g v σ H fun σ' H' => r xs σ' H' Q) : gCons g r (v :: xs) σ H Q := ⟨v, xs, rfl, q⟩
theorem z_gn {σ : L2.St} {H : Hp} {Q : L2.St → Hp → Prop} (q : Q σ H) : gNil [] σ H Q := ⟨rfl, q⟩
theorem z_turn {K : PySem.W.Frag} {te : TE} {σ : L2.St} {H : Hp} {Q : VK} (q : te σ H fun x H1 => ∃ a u v, x = .ref a ∧ SqT K H1 a [u, v] ∧ ∀ p, H1 p = none → Q (.ref p) (upd H1 p (.tup [v, u]))) : tTurn K te σ H Q := q
theorem frz_rd {H : Hp} {d : Addr} {o : Obj} {u : HO} (h : H d = some (.frz o u)) : Rd H d u := .inr ⟨o, h⟩
end EV
end

section
set_option maxHeartbeats 2000000
local macro_rules | `(tactic| walk_at "za") => `(tactic| (first | exact Or.inl ⟨by omega, by omega⟩ | exact Or.inr ⟨by omega, by omega⟩ | exact ⟨by omega, by omega⟩ | exact ⟨by omega, by omega, by omega⟩ | omega))
local macro_rules | `(tactic| walk_at "z") => `(tactic| (first
  | with_reducible refine EV.z_seq ?_ | with_reducible refine EV.z_next ?_ | with_reducible refine EV.z_nx ?_ | with_reducible refine EV.z_rt ?_ | with_reducible refine EV.z_asg ?_ | with_reducible refine EV.z_name ?_
  | with_reducible refine EV.z_drop ?_ | with_reducible refine EV.z_ret ?_ | with_reducible refine EV.z_if ?_
  | ((with_reducible refine EV.z_var (v := ?vv) ?hv ?_); (case hv => exact rfl)) | with_reducible refine EV.z_c ?_ | with_reducible refine EV.z_op ?_ | with_reducible refine EV.z_un ?_ | with_reducible refine EV.z_I0 ?_ | with_reducible refine EV.z_U ?_ | ((with_reducible refine EV.z_I ?hc ?_); (case hc => walk_at "za"))
  | ((with_reducible refine EV.z_eq ?hv ?_); (case hv => exact rfl)) | ((with_reducible refine EV.z_ne ?hv ?_); (case hv => exact rfl))
  | with_reducible refine EV.z_test ?_ | with_reducible refine EV.z_bl ?_ | with_reducible refine EV.z_B ?_ | with_reducible refine EV.z_and ?_ | with_reducible refine EV.z_or ?_ | with_reducible refine EV.z_not ?_ | with_reducible refine EV.z_andV ?_
  | with_reducible refine EV.z_orV ?_ | with_reducible refine EV.z_notV ?_ | with_reducible refine EV.z_ifE ?_ | with_reducible refine EV.z_nil ?_ | with_reducible refine EV.z_cons ?_ | with_reducible refine EV.z_tup ?_ | with_reducible refine EV.z_lst ?_
  | with_reducible refine EV.z_cb ?_ | with_reducible refine EV.z_call ?_ | with_reducible refine EV.z_dget ?_ | with_reducible refine EV.z_dput ?_ | with_reducible refine EV.z_chain ?_ | with_reducible refine EV.z_then ?_ | with_reducible refine EV.z_fld ?_ | with_reducible refine EV.z_bm ?_
  | with_reducible refine EV.z_par ?_ | with_reducible refine EV.z_par3 ?_ | with_reducible refine EV.z_ex2 ?_ | with_reducible refine EV.z_ex3 ?_ | with_reducible refine EV.z_tyes ?_ | ((with_reducible refine EV.z_wipe ?hv ?_); (case hv => exact rfl))
  | with_reducible refine EV.z_lc ?_ | with_reducible refine EV.z_ltS ?_ | with_reducible refine EV.z_disp ?_ | with_reducible refine EV.z_pc ?_ | with_reducible refine EV.z_pn ?_ | with_reducible refine EV.z_m1 ?_ | with_reducible refine EV.z_isS ?_ | with_reducible refine EV.z_sl ?_ | with_reducible refine EV.z_np ?_ | with_reducible refine EV.z_pt ?_ | with_reducible refine EV.z_exI ?_ | with_reducible refine EV.z_is ?_ | with_reducible refine EV.z_istr ?_ | with_reducible refine EV.z_no ?_ | with_reducible refine EV.z_yes ?_ | with_reducible refine EV.z_for ?_ | with_reducible refine EV.z_il ?_ | with_reducible refine EV.z_it ?_ | with_reducible refine EV.z_r1 ?_ | with_reducible refine EV.z_ik ?_ | with_reducible refine EV.z_din ?_ | with_reducible refine EV.z_dnin ?_ | with_reducible refine EV.z_dsd ?_ | with_reducible refine EV.z_gs ?_ | with_reducible refine EV.z_gc ?_ | with_reducible refine EV.z_gn ?_ | with_reducible refine EV.z_turn ?_))
local macro_rules | `(tactic| walk_at "zz") => `(tactic| repeat walk_at "z")
namespace EV
open PySem PySem.Spec PyProof.Rows L2
/-- what is known of the built-in names -/
structure Txt (mg : Str → Option Value) : Prop where
  b_len : mg "len" = none
  b_list : mg "list" = none
  b_range : mg "range" = none
  b_sum : mg "sum" = none
  b_sorted : mg "sorted" = none
  b_int : mg "int" = none
  b_max : mg "max" = none
  b_min : mg "min" = none
  g_LETTERS : ∃ t, mg "LETTERS" = some (.str "abcdefghijklmnopqrstuvwxyz" t)
  g_MOST_LETTERS : ∃ t, mg "MOST_LETTERS" = some (.int 6 t)
  g_MOST_PEOPLE : ∃ t, mg "MOST_PEOPLE" = some (.int 6 t)
  g_MOST_PAGES : ∃ t, mg "MOST_PAGES" = some (.int 12 t)
  g_MOST_LEAVES : ∃ t, mg "MOST_LEAVES" = some (.int 9 t)
  b_tuple : mg "tuple" = none
  b_set : mg "set" = none
  b_dict : mg "dict" = none
  b_all : mg "all" = none
  b_repr : mg "repr" = none
  b_str : mg "str" = none
  b_bool : mg "bool" = none
  b_isinstance : mg "isinstance" = none
  b_enumerate : mg "enumerate" = none
abbrev s_begun : Stmt := top 27
abbrev N_begun : List Str := ["script", "cell", "wide"]
abbrev P_begun : List Str := ["script"]
theorem sc_begun : FnScope N_begun P_begun (defScope s_begun) := ⟨rfl, rfl, rfl, by decide +kernel, rfl, by decide +kernel, by decide +kernel⟩
abbrev s_mixed : Stmt := top 28
abbrev N_mixed : List Str := ["state", "turn", "found", "prime", "blend", "cell"]
abbrev P_mixed : List Str := ["state"]
theorem sc_mixed : FnScope N_mixed P_mixed (defScope s_mixed) := ⟨rfl, rfl, rfl, by decide +kernel, rfl, by decide +kernel, by decide +kernel⟩
abbrev s_take : Stmt := top 29
abbrev N_take : List Str := ["state", "size", "found"]
abbrev P_take : List Str := ["state", "size"]
theorem sc_take : FnScope N_take P_take (defScope s_take) := ⟨rfl, rfl, rfl, by decide +kernel, rfl, by decide +kernel, by decide +kernel⟩
abbrev s_pick : Stmt := top 30
abbrev N_pick : List Str := ["state", "some"]
abbrev P_pick : List Str := ["state", "some"]
theorem sc_pick : FnScope N_pick P_pick (defScope s_pick) := ⟨rfl, rfl, rfl, by decide +kernel, rfl, by decide +kernel, by decide +kernel⟩
def spMixed : Sp := fun vs H Q _ => ∃ (F : Hp) (a g : Addr) (B : Int), vs = [.ref a] ∧ Sub F H ∧ Sta F H a g B ∧ B < 1000000000 ∧ ∀ (r : Int) H', Nx (MS a g) F H F H' → Sta F H' a g (B + 1) → Q (.int r) H'
def spTake : Sp := fun vs H Q _ => ∃ (F : Hp) (a g : Addr) (n B : Int), vs = [.ref a, .int n] ∧ 0 < n ∧ n < 1000000 ∧ Sub F H ∧ Sta F H a g B ∧ B < 1000000000 ∧ ∀ (r : Int) H', 0 ≤ r → r < n → Nx (MS a g) F H F H' → Sta F H' a g (B + 1) → Q (.int r) H'
abbrev primeV : List V := [.int 2147483629, .int 2147483587, .int 2147483579, .int 2147483563, .int 2147483549, .int 2147483543]
theorem prime_ok {i : Nat} {x : V} (h : primeV[i]? = some x) : ∃ p : Int, x = .int p ∧ 0 < p ∧ p < 2147483648 := by
  have m : x ∈ primeV := List.mem_of_getElem? h
  have : ∀ q ∈ primeV, ∃ p : Int, q = .int p ∧ 0 < p ∧ p < 2147483648 := by
    intro q hq
    simp only [List.mem_cons, List.not_mem_nil, or_false] at hq
    rcases hq with rfl | rfl | rfl | rfl | rfl | rfl <;> exact ⟨_, rfl, by decide, by decide⟩
  exact this x m
section
variable {P : Program} {w : World} {K : PySem.W.Frag} {mg : Str → Option Value} {base : Heap}
theorem ok_mixed (T : Txt mg) {f fd} (D : C8.Def K mg "_law_mixed" s_mixed f fd) (b : Binds K fd ["state"] []) : C8.Cal P w K mg base 1 "_law_mixed" spMixed [] := by
  refine C8.cal0 D b .nil sc_mixed (fun vs H Q E h => ?_) (fun cdv A outer s H vs Q E hr h => ?_)
  · obtain ⟨F, a, g, B, rfl, _⟩ := h
    rfl
  · obtain ⟨F, a, g, B, rfl, sF, ⟨c, r, t, gs, cs, S, ht, htB⟩, hB, k⟩ := h
    have hu := hu_of hr
    refine ⟨_, (pss_cons (ps_set (i := 1) sc_mixed.nd rfl (Or.inl rfl) (pe_op op_add (pe_dget hu (pv 0) pe_str (fun _ _ => rfl)) pe_int))
  (pss_cons (ps_dput hu (pv 0) pe_str (pv 1) rfl)
  (pss_cons (ps_set (i := 2) sc_mixed.nd rfl (Or.inl rfl) pe_int)
  (pss_cons (ps_for PassesOwn.never rfl (k_pil K (pe_lst (pa_cons pe_int (pa_cons pe_int (pa_cons pe_int (pa_cons pe_int (pa_cons pe_int (pa_cons pe_int pa_nil)))))))) (pg_name (i := 3) sc_mixed.nd rfl (Or.inl rfl))
    (pss_cons (ps_set (i := 4) sc_mixed.nd rfl (Or.inl rfl) (pe_op op_add (pe_op op_mul pe_int (pv 1)) (pe_op op_fdiv (pv 3) pe_int)))
  (pss_cons (ps_for PassesOwn.never rfl (k_pil K (pe_dget hu (pv 0) pe_str (fun _ _ => rfl))) (pg_name (i := 5) sc_mixed.nd rfl (Or.inl rfl))
    (pss_one (ps_set (i := 4) sc_mixed.nd rfl (Or.inl rfl) (pe_op op_mod (pe_op op_add (pe_op op_mul (pv 4) pe_int) (pv 5)) (pv 3)))))
  (pss_one (ps_set (i := 2) sc_mixed.nd rfl (Or.inl rfl) (pe_op op_add (pe_op op_mul (pv 2) pe_int) (pe_op op_mod (pe_op op_pow (pv 4) pe_int) (pv 3))))))))
  (pss_one (ps_ret (pv 2))))))), ?_⟩
    walk_at "zz"
    refine z_dgetS S.hd st_turn ?_
    walk_at "zz"
    refine z_dputS S.hd (szl (by show 4 ≤ 100000; decide)) st_pturn ?_
    walk_at "zz"
    refine ⟨sz (by decide), fun l hl => ?_⟩
    have N1 : Nx (MS a g) F H F (upd H a (.dK (stK g c r (t + 1)))) := (Nx.refl sF).wr (.inr (.inl rfl)) S.fa
    have ag : g ≠ a := ne_of S.hg S.hd (fun z => nomatch z)
    have ca : c ≠ a := fun z => by have e := S.hc; rw [z, S.fa] at e; cases e
    have S1 : StA F (upd H a (.dK (stK g c r (t + 1)))) a g c r (t + 1) gs cs := ⟨upd_same, by rw [upd_ne ag]; exact S.hg, S.hc, S.fa, S.fg⟩
    generalize upd H a (.dK (stK g c r (t + 1))) = H1 at hl N1 S1 ⊢
    have nl : ∀ {x o}, H1 x = some o → x ≠ l := fun h => ne_of_none h hl
    have N2 : Nx (MS a g) F H F (upd H1 l (.lst primeV)) := N1.trans (Nx.mak N1.sub hl)
    have S2 : StA F (upd H1 l (.lst primeV)) a g c r (t + 1) gs cs := ⟨by rw [upd_ne (nl S1.hd)]; exact S1.hd, by rw [upd_ne (nl S1.hg)]; exact S1.hg, S1.hc, S1.fa, S1.fg⟩
    have hL : (upd H1 l (.lst primeV)) l = some (.lst primeV) := upd_same
    generalize upd H1 l (.lst primeV) = H2 at N2 S2 hL
    refine z_loopL (xs := primeV) (SqL.of hL) (fun i σ' H' => H' = H2 ∧ ∃ (fo : Int) (v3 v4 v5 : Option V), σ' = [some (.ref a), some (.int (t + 1)), some (.int fo), v3, v4, v5]) ⟨rfl, 0, none, none, none, rfl⟩ (fun i σ' H' _ h => by rw [h.1]; exact SqL.of hL) ?_ ?_
    · rintro i x σ' H' hi ⟨rfl, fo, v3, v4, v5, rfl⟩
      obtain ⟨p, rfl, p0, p1⟩ := prime_ok hi
      walk_at "zz"
      refine z_dgetS S2.hd st_cells ?_
      refine z_loopL (xs := cs.map V.int) (N2.sub.sql S2.hc) (fun j σ' H'' => H'' = H' ∧ ∃ (bl : Int) (v5 : Option V), -(2 ^ 63) < bl ∧ bl < 2 ^ 63 ∧ σ' = [some (.ref a), some (.int (t + 1)), some (.int fo), some (.int p), some (.int bl), v5]) ⟨rfl, _, v5, ?_, ?_, rfl⟩ (fun i σ' H' _ h => by rw [h.1]; exact N2.sub.sql S2.hc) ?_ ?_
      · omega
      · omega
      · rintro j x σ' H'' hj ⟨rfl, bl, v5, b1, b2, rfl⟩
        obtain ⟨q, hq, rfl⟩ := at_int hj
        walk_at "zz"
        have e0 := Int.emod_nonneg (bl * 48271 + q) (show p ≠ 0 by omega)
        have e1 := Int.emod_lt_of_pos (bl * 48271 + q) p0
        exact ⟨rfl, _, _, by omega, by omega, rfl⟩
      · rintro σ' H'' ⟨rfl, bl, v5, b1, b2, rfl⟩
        walk_at "zz"
        exact ⟨rfl, _, _, _, _, rfl⟩
    · rintro σ' H' ⟨rfl, fo, v3, v4, v5, rfl⟩
      walk_at "zz"
      exact k _ _ N2 ⟨c, r, t + 1, gs, cs, S2, by omega, by omega⟩
theorem ok_take (T : Txt mg) (c_mixed : C8.Cal P w K mg base 1 "_law_mixed" spMixed []) {f fd} (D : C8.Def K mg "_law_take" s_take f fd) (b : Binds K fd ["state", "size"] []) : C8.Cal P w K mg base 2 "_law_take" spTake [] := by
  refine C8.cal0 D b .nil sc_take (fun vs H Q E h => ?_) (fun cdv A outer s H vs Q E hr h => ?_)
  · obtain ⟨F, a, g, n, B, rfl, _⟩ := h
    rfl
  · obtain ⟨F, a, g, n, B, rfl, n0, n1, sF, S, hB, k⟩ := h
    have hu := hu_of hr
    refine ⟨_, (C8.pss_cut (ps_if (PW.pt (pw_and (pt_cmpR op_eq (pe_dget hu (pv 0) pe_str (fun _ _ => rfl)) pe_int (nomark _)) (pw_and1 (pt_cmpR (k_neD K hr.units) (pe_dget hu (pv 0) pe_str (fun _ _ => rfl)) (pe_lst pa_nil) (nomark _)))))
    (pss_one (ps_dput hu (pv 0) pe_str (k_popAt K (pe_dget hu (pv 0) pe_str (fun _ _ => rfl)) (pa_cons pe_int pa_nil)) rfl))
    (pss_one (ps_if (pt_cmpR op_eq (pe_dget hu (pv 0) pe_str (fun _ _ => rfl)) pe_int (nomark _))
    (pss_one (ps_dput hu (pv 0) pe_str (C8.pe_c c_mixed hr (by decide) rfl (pa_cons (pv 0) pa_nil)) rfl))
    pss_nil)))
  (pss_cons (ps_set (i := 2) sc_take.nd rfl (Or.inl rfl) (pe_op op_mod (pe_dget hu (pv 0) pe_str (fun _ _ => rfl)) (pv 1)))
  (pss_cons (ps_dput hu (pv 0) pe_str (pe_op op_fdiv (pe_dget hu (pv 0) pe_str (fun _ _ => rfl)) (pv 1)) rfl)
  (pss_one (ps_ret (pv 2)))))), ?_⟩
    refine z_cut (fun σ' H1 => σ' = [some (.ref a), some (.int n), none] ∧ Nx (MS a g) F H F H1 ∧ Sta F H1 a g (B + 1)) ?_ ?_
    · obtain ⟨c, r, t, gs, cs, S0, t0, tB⟩ := id S
      have ag : g ≠ a := ne_of S0.hg S0.hd (fun z => nomatch z)
      -- the rest is laid anew
      have put : ∀ (H1 : Hp) (r' : Int) (c : Addr) (r t : Int) (gs cs : List Int), Nx (MS a g) F H F H1 → StA F H1 a g c r t gs cs → 0 ≤ t → t ≤ B + 1 →
          Nx (MS a g) F H F (upd H1 a (.dK (stK g c r' t))) ∧ Sta F (upd H1 a (.dK (stK g c r' t))) a g (B + 1) := fun H1 r' c r t gs cs N1 S1 t0 tB =>
        ⟨N1.wr (.inr (.inl rfl)) S1.fa, c, r', t, gs, cs, ⟨upd_same, by rw [upd_ne ag]; exact S1.hg, S1.hc, S1.fa, S1.fg⟩, t0, tB⟩
      have sz4 : ∀ {g c : Addr} {r t : Int}, (stK g c r t).length < sizeLine := szl (by show 4 ≤ 100000; decide)
      have tail : ∀ (H1 : Hp), Nx (MS a g) F H F H1 → Sta F H1 a g B → Nx (MS a g) F H F H1 ∧ Sta F H1 a g (B + 1) := fun H1 N1 ⟨c, r, t, gs, cs, S1, t0, tB⟩ => ⟨N1, c, r, t, gs, cs, S1, t0, by omega⟩
      walk_at "zz"
      refine z_dgetS S0.hd st_rest ?_
      walk_at "zz"
      refine z_ite (fun e => ?_) (fun e => ?_)
      · walk_at "zz"
        refine z_dgetS S0.hd st_great ?_
        walk_at "zz"
        refine ⟨sz (by decide), fun p hp => ?_⟩
        have N1 : Nx (MS a g) F H F (upd H p (.lst [])) := Nx.mak sF hp
        have np : ∀ {x o}, H x = some o → x ≠ p := fun h => ne_of_none h hp
        have S1 : StA F (upd H p (.lst [])) a g c r t gs cs := ⟨by rw [upd_ne (np S0.hd)]; exact S0.hd, by rw [upd_ne (np S0.hg)]; exact S0.hg, S0.hc, S0.fa, S0.fg⟩
        have hp1 : (upd H p (.lst [])) p = some (.lst []) := upd_same
        generalize upd H p (.lst []) = H1 at N1 S1 hp1 ⊢
        refine z_neI (xs := gs) (ys := []) (SqL.of S1.hg) (SqL.of hp1) ?_
        walk_at "zz"
        refine z_iteN (fun e2 => ?_) (fun e2 => ?_)
        · -- one of the great ones
          obtain ⟨x, tl, rfl⟩ : ∃ x tl, gs = x :: tl := by
            cases gs with
            | nil => exact absurd rfl e2
            | cons x tl => exact ⟨x, tl, rfl⟩
          walk_at "zz"
          refine z_dgetS S1.hd st_great ?_
          walk_at "zz"
          refine ⟨.inl ⟨rfl, _, SqL.of S1.hg⟩, ?_⟩
          walk_at "zz"
          refine z_pop S1.hg ?_
          walk_at "zz"
          refine z_dputS (by rw [upd_ne (Ne.symm ag)]; exact S1.hd) sz4 st_prest ?_
          walk_at "zz"
          exact ⟨rfl, put _ x c r t tl cs (N1.wr (.inr (.inr rfl)) S1.fg) ⟨by rw [upd_ne (Ne.symm ag)]; exact S1.hd, upd_same, S1.hc, S1.fa, S1.fg⟩ t0 (by omega)⟩
        · walk_at "zz"
          refine z_dgetS S1.hd st_rest ?_
          walk_at "zz"
          refine z_ite (fun _ => ?_) (fun e3 => absurd e e3)
          walk_at "zz"
          refine ⟨F, a, g, B, rfl, N1.sub, ⟨c, r, t, gs, cs, S1, t0, tB⟩, hB, fun r' H2 N2 ⟨c2, r2, t2, gs2, cs2, S2, t02, tB2⟩ => ?_⟩
          walk_at "zz"
          refine z_dputS S2.hd sz4 st_prest ?_
          walk_at "zz"
          exact ⟨rfl, put _ _ _ _ _ _ _ (N1.trans N2) S2 t02 tB2⟩
      · walk_at "zz"
        refine z_dgetS S0.hd st_rest ?_
        walk_at "zz"
        refine z_ite (fun e3 => absurd e3 e) (fun _ => ?_)
        walk_at "zz"
        exact ⟨rfl, tail _ (Nx.refl sF) S⟩
    · rintro σ' H1 ⟨rfl, N1, c, r, t, gs, cs, S1, t0, tB⟩
      walk_at "zz"
      refine z_dgetS S1.hd st_rest ?_
      walk_at "zz"
      refine z_dgetS S1.hd st_rest ?_
      walk_at "zz"
      refine z_dputS S1.hd (szl (by show 4 ≤ 100000; decide)) st_prest ?_
      walk_at "zz"
      have ag : g ≠ a := ne_of S1.hg S1.hd (fun z => nomatch z)
      refine k _ _ (Int.emod_nonneg r (by omega)) (Int.emod_lt_of_pos r n0) (N1.wr (.inr (.inl rfl)) S1.fa) ⟨c, r / n, t, gs, cs, ⟨upd_same, by rw [upd_ne ag]; exact S1.hg, S1.hc, S1.fa, S1.fg⟩, t0, tB⟩
end
end EV
end

section
set_option maxHeartbeats 2000000
local macro_rules | `(tactic| walk_at "za") => `(tactic| (first | exact Or.inl ⟨by omega, by omega⟩ | exact Or.inr ⟨by omega, by omega⟩ | exact ⟨by omega, by omega⟩ | exact ⟨by omega, by omega, by omega⟩ | omega))
local macro_rules | `(tactic| walk_at "z") => `(tactic| (first
  | with_reducible refine EV.z_seq ?_ | with_reducible refine EV.z_next ?_ | with_reducible refine EV.z_nx ?_ | with_reducible refine EV.z_rt ?_ | with_reducible refine EV.z_asg ?_ | with_reducible refine EV.z_name ?_
  | with_reducible refine EV.z_drop ?_ | with_reducible refine EV.z_ret ?_ | with_reducible refine EV.z_if ?_
  | ((with_reducible refine EV.z_var (v := ?vv) ?hv ?_); (case hv => exact rfl)) | with_reducible refine EV.z_c ?_ | with_reducible refine EV.z_op ?_ | with_reducible refine EV.z_un ?_ | with_reducible refine EV.z_I0 ?_ | with_reducible refine EV.z_U ?_ | ((with_reducible refine EV.z_I ?hc ?_); (case hc => walk_at "za"))
  | ((with_reducible refine EV.z_eq ?hv ?_); (case hv => exact rfl)) | ((with_reducible refine EV.z_ne ?hv ?_); (case hv => exact rfl))
  | with_reducible refine EV.z_test ?_ | with_reducible refine EV.z_bl ?_ | with_reducible refine EV.z_B ?_ | with_reducible refine EV.z_and ?_ | with_reducible refine EV.z_or ?_ | with_reducible refine EV.z_not ?_ | with_reducible refine EV.z_andV ?_
  | with_reducible refine EV.z_orV ?_ | with_reducible refine EV.z_notV ?_ | with_reducible refine EV.z_ifE ?_ | with_reducible refine EV.z_nil ?_ | with_reducible refine EV.z_cons ?_ | with_reducible refine EV.z_tup ?_ | with_reducible refine EV.z_lst ?_
  | with_reducible refine EV.z_cb ?_ | with_reducible refine EV.z_call ?_ | with_reducible refine EV.z_dget ?_ | with_reducible refine EV.z_dput ?_ | with_reducible refine EV.z_chain ?_ | with_reducible refine EV.z_then ?_ | with_reducible refine EV.z_fld ?_ | with_reducible refine EV.z_bm ?_
  | with_reducible refine EV.z_par ?_ | with_reducible refine EV.z_par3 ?_ | with_reducible refine EV.z_ex2 ?_ | with_reducible refine EV.z_ex3 ?_ | with_reducible refine EV.z_tyes ?_ | ((with_reducible refine EV.z_wipe ?hv ?_); (case hv => exact rfl))
  | with_reducible refine EV.z_lc ?_ | with_reducible refine EV.z_ltS ?_ | with_reducible refine EV.z_disp ?_ | with_reducible refine EV.z_pc ?_ | with_reducible refine EV.z_pn ?_ | with_reducible refine EV.z_m1 ?_ | with_reducible refine EV.z_isS ?_ | with_reducible refine EV.z_sl ?_ | with_reducible refine EV.z_np ?_ | with_reducible refine EV.z_pt ?_ | with_reducible refine EV.z_exI ?_ | with_reducible refine EV.z_is ?_ | with_reducible refine EV.z_istr ?_ | with_reducible refine EV.z_no ?_ | with_reducible refine EV.z_yes ?_ | with_reducible refine EV.z_for ?_ | with_reducible refine EV.z_il ?_ | with_reducible refine EV.z_it ?_ | with_reducible refine EV.z_r1 ?_ | with_reducible refine EV.z_ik ?_ | with_reducible refine EV.z_din ?_ | with_reducible refine EV.z_dnin ?_ | with_reducible refine EV.z_dsd ?_ | with_reducible refine EV.z_gs ?_ | with_reducible refine EV.z_gc ?_ | with_reducible refine EV.z_gn ?_ | with_reducible refine EV.z_turn ?_))
local macro_rules | `(tactic| walk_at "zz") => `(tactic| repeat walk_at "z")
namespace EV
open PySem PySem.Spec PyProof.Rows L2
abbrev s_names : Stmt := top 31
abbrev N_names : List Str := ["state", "many", "letters", "words", "names", "way", "name", "k", "letter"]
abbrev P_names : List Str := ["state", "many"]
theorem sc_names : FnScope N_names P_names (defScope s_names) := ⟨rfl, rfl, rfl, by decide +kernel, rfl, by decide +kernel, by decide +kernel⟩
def spPick : Sp := fun vs H Q _ => ∃ (F : Hp) (a g : Addr) (B : Int), Sub F H ∧ Sta F H a g B ∧ B < 1000000000 ∧
  ((∃ l xs, vs = [.ref a, .ref l] ∧ H l = some (.lst xs) ∧ ¬ MS a g l ∧ 0 < xs.length ∧ xs.length < 1000000 ∧ ∀ v H', v ∈ xs → Nx (MS a g) F H F H' → Sta F H' a g (B + 1) → Q v H') ∨
   (∃ z : Str, vs = [.ref a, .str z] ∧ 0 < z.cps.toList.length ∧ z.cps.toList.length < 1000000 ∧ ∀ c H', c ∈ z.cps.toList → Nx (MS a g) F H F H' → Sta F H' a g (B + 1) → Q (.str ⟨#[c]⟩) H'))
/-- a name: one to six small letters -/
def Nm (x : Str) : Prop := 1 ≤ x.cps.toList.length ∧ x.cps.toList.length ≤ 6 ∧ ∀ c ∈ x.cps.toList, 97 ≤ c ∧ c ≤ 122
def spNames : Sp := fun vs H Q _ => ∃ (F : Hp) (a g : Addr) (n B : Int), vs = [.ref a, .int n] ∧ 0 ≤ n ∧ n ≤ 12 ∧ Sub F H ∧ Sta F H a g B ∧ B + 120 < 1000000000 ∧
  ∀ p (ns : List Str) F' H', Nx (MS a g) F H F' H' → Sta F' H' a g (B + 120) → F' p = some (.lst (ns.map V.str)) → H p = none → (ns.length : Int) = n → ns.Nodup → (∀ x ∈ ns, Nm x) → Q (.ref p) H'
abbrev wordsV : List V := [.str "hold", .str "page", .str "bar", .str "a", .str "b", .str "z", .str "aa", .str "ab", .str "ba", .str "zz", .str "group", .str "over", .str "zzzzzz", .str "aaaaaa", .str "none"]
def nmB (x : Str) : Bool := decide (1 ≤ x.cps.toList.length) && decide (x.cps.toList.length ≤ 6) && x.cps.toList.all fun c => decide (97 ≤ c) && decide (c ≤ 122)
theorem nmB_ok {x : Str} (h : nmB x = true) : Nm x := by
  simp only [nmB, Bool.and_eq_true, decide_eq_true_eq, List.all_eq_true] at h
  exact ⟨h.1.1, h.1.2, fun c hc => h.2 c hc⟩
theorem words_ok {v : V} (h : v ∈ wordsV) : ∃ x, v = .str x ∧ Nm x := by
  have : ∀ q ∈ wordsV, ∃ x, q = .str x ∧ nmB x = true := by
    intro q hq
    simp only [List.mem_cons, List.not_mem_nil, or_false] at hq
    rcases hq with rfl | rfl | rfl | rfl | rfl | rfl | rfl | rfl | rfl | rfl | rfl | rfl | rfl | rfl | rfl <;> exact ⟨_, rfl, by decide +kernel⟩
  obtain ⟨x, e, hx⟩ := this v h
  exact ⟨x, e, nmB_ok hx⟩
theorem letters_ok {c : Nat} (h : c ∈ (("abcdefghijklmnopqrstuvwxyz" : Str)).cps.toList) : 97 ≤ c ∧ c ≤ 122 := by
  have : ((("abcdefghijklmnopqrstuvwxyz" : Str)).cps.toList.all fun c => decide (97 ≤ c) && decide (c ≤ 122)) = true := by decide +kernel
  have q := List.all_eq_true.mp this c h
  simpa using q
theorem join_nil : ∀ l : List (List Nat), TL.joinL [] l = l.flatten
  | [] => rfl
  | [p] => by simp [TL.joinL]
  | p :: q :: r => by
    show p ++ ([] ++ TL.joinL [] (q :: r)) = _
    rw [join_nil (q :: r)]
    simp
theorem join_ok {ys : List Str} (h : ∀ y ∈ ys, ∃ c, y = (⟨#[c]⟩ : Str) ∧ 97 ≤ c ∧ c ≤ 122) (h1 : 1 ≤ ys.length) (h6 : ys.length ≤ 6) : Nm (Txt.join "" ys) := by
  have e : (Txt.join "" ys).cps.toList = (ys.map fun y => y.cps.toList).flatten := by
    have q := SX.join_S [] (ys.map fun y => y.cps.toList)
    have q2 : (ys.map fun y => y.cps.toList).map SX.S = ys := by
      rw [List.map_map]
      exact (List.map_congr_left fun y _ => SX.S_tl y).trans (List.map_id ys)
    rw [q2, join_nil] at q
    have q3 : SX.S [] = ("" : Str) := by rfl
    rw [q3] at q
    rw [q]
  have one : ∀ l : List Str, (∀ y ∈ l, ∃ c, y = (⟨#[c]⟩ : Str) ∧ 97 ≤ c ∧ c ≤ 122) → ((l.map fun y => y.cps.toList).flatten).length = l.length ∧ ∀ c ∈ (l.map fun y => y.cps.toList).flatten, 97 ≤ c ∧ c ≤ 122 := by
    intro l
    induction l with
    | nil => intro _; exact ⟨rfl, fun c hc => by cases hc⟩
    | cons y l ih =>
      intro hl
      obtain ⟨i1, i2⟩ := ih fun z hz => hl z (List.mem_cons_of_mem _ hz)
      obtain ⟨c, rfl, hc⟩ := hl y List.mem_cons_self
      refine ⟨by simp [i1], fun d hd => ?_⟩
      simp only [List.map_cons, List.flatten_cons, List.mem_append] at hd
      rcases hd with hd | hd
      · have : d = c := by simpa using hd
        rw [this]; exact hc
      · exact i2 d hd
  obtain ⟨o1, o2⟩ := one ys h
  exact ⟨by rw [e]; omega, by rw [e]; omega, by rw [e]; exact o2⟩
theorem one_sum : ∀ {ys : List Str}, (∀ y ∈ ys, ∃ c, y = (⟨#[c]⟩ : Str) ∧ 97 ≤ c ∧ c ≤ 122) → (ys.map (·.length)).sum = ys.length
  | [], _ => rfl
  | y :: ys, h => by
    obtain ⟨c, rfl, _⟩ := h y List.mem_cons_self
    rw [List.map_cons, List.sum_cons, one_sum fun z hz => h z (List.mem_cons_of_mem _ hz)]
    show 1 + ys.length = ys.length + 1
    omega
theorem Nm.ok {x : Str} (h : Nm x) : PyData.strOk x = true := by
  show x.cps.all (· < 0x110000) = true
  rw [← Array.all_toList]
  exact List.all_eq_true.mpr fun c hc => decide_eq_true (by have := h.2.2 c hc; omega)
theorem last_of {ns : List Str} (h : ns ≠ []) : ∃ x, x ∈ ns ∧ atI (ns.map V.str) (-1) = some (.str x) := by
  have hl : 0 < ns.length := List.length_pos_iff.mpr h
  refine ⟨ns[ns.length - 1], List.getElem_mem _, ?_⟩
  have e : ixN (ns.map V.str).length (-1) = some (ns.length - 1) := by
    unfold ixN
    rw [List.length_map, if_neg (by omega), if_pos (by omega)]
    congr 1
    omega
  unfold atI
  rw [e, Option.bind_some, List.getElem?_map, List.getElem?_eq_getElem (by omega)]
  rfl
theorem cut6_ok {x : Str} {c : Nat} (h : Nm x) (hc : 97 ≤ c ∧ c ≤ 122) : Nm (cutS (x ++ ⟨#[c]⟩) none (some 6)) := by
  have e : (x ++ (⟨#[c]⟩ : Str)).cps.toList = x.cps.toList ++ [c] := TL.tl_append x ⟨#[c]⟩
  have l := slen (x ++ (⟨#[c]⟩ : Str))
  rw [e] at l
  have e2 : (cutS (x ++ ⟨#[c]⟩) none (some 6)).cps.toList = (x.cps.toList ++ [c]).take 6 := by
    unfold cutS
    show (((x ++ (⟨#[c]⟩ : Str)).cps.toList.drop 0).take (HT.sIx _ _ (some 6) - 0)).toArray.toList = _
    rw [List.drop_zero, e, List.toList_toArray, l]
    show List.take (min 6 (x.cps.toList ++ [c]).length - 0) _ = _
    rw [Nat.sub_zero, List.take_eq_take_iff]
    omega
  unfold Nm
  rw [e2]
  have := h.1
  refine ⟨by rw [List.length_take, List.length_append]; simp; omega, by rw [List.length_take]; omega, fun d hd => ?_⟩
  rcases List.mem_append.mp (List.mem_of_mem_take hd) with hd | hd
  · exact h.2.2 d hd
  · rw [List.mem_singleton.mp hd]; exact hc
/-- the letters, each a text -/
def lets : List Str := (("abcdefghijklmnopqrstuvwxyz" : Str)).cps.toList.map fun c => ⟨#[c]⟩
theorem lets_nodup : lets.Nodup := by decide +kernel
theorem lets_len : lets.length = 26 := by decide +kernel
theorem lets_nm {x : Str} (h : x ∈ lets) : Nm x := by
  obtain ⟨c, hc, rfl⟩ := List.mem_map.mp h
  exact ⟨by show 1 ≤ 1; omega, by show 1 ≤ 6; omega, fun d hd => by have e : d = c := (by simpa using hd); rw [e]; exact letters_ok hc⟩
theorem s26 : ("abcdefghijklmnopqrstuvwxyz" : Str).cps.size = 26 := by decide +kernel
theorem one_left {ns : List Str} (h : ns.length < 26) : ∃ x, x ∈ lets.filter fun y => !decide (y ∈ ns) := by
  cases e : lets.filter fun y => !decide (y ∈ ns) with
  | cons x l => exact ⟨x, List.mem_cons_self⟩
  | nil =>
    exfalso
    have q := nodup_sub lets ns lets_nodup fun x hx => by
      have := List.filter_eq_nil_iff.mp e x hx
      simpa using this
    rw [lets_len] at q
    omega
theorem at_of_mem {α : Type} {xs : List α} {r : Int} (h0 : 0 ≤ r) (h1 : r < xs.length) : ∃ v, atI xs r = some v ∧ v ∈ xs := by
  have hj : r.toNat < xs.length := by omega
  refine ⟨xs[r.toNat], ?_, List.getElem_mem hj⟩
  have e : ((r.toNat : Nat) : Int) = r := Int.toNat_of_nonneg h0
  have q := atI_nat (List.getElem?_eq_getElem hj)
  rw [e] at q
  exact q
/-- a draw, from where the run stands -/
theorem z_take {a g : Addr} {F H F' H' : Hp} {B n : Int} {Q : VK} {E : XK} (Z : Cz a g F H F' H' B) (n0 : 0 < n) (n1 : n < 1000000) (hB : B < 1000000000)
    (k : ∀ (r : Int) H2, 0 ≤ r → r < n → Cz a g F H F' H2 (B + 1) → (∀ p o, H' p = some o → H p = none → H2 p = some o) → Q (.int r) H2) : spTake [.ref a, .int n] H' Q E :=
  ⟨F', a, g, n, B, rfl, n0, n1, Z.sub, Z.S, hB, fun r H2 r0 r1 N2 S2 => k r H2 r0 r1 (Z.step N2 S2) fun p o h hp => N2.keep p o h (Z.nm hp)⟩
theorem z_pickL {a g l : Addr} {F H F' H' : Hp} {B : Int} {xs : List V} {Q : VK} {E : XK} (Z : Cz a g F H F' H' B) (hl : F' l = some (.lst xs)) (x0 : 0 < xs.length) (x1 : xs.length < 1000000) (hB : B < 1000000000)
    (k : ∀ (v : V) H2, v ∈ xs → Cz a g F H F' H2 (B + 1) → (∀ p o, H' p = some o → H p = none → H2 p = some o) → Q v H2) : spPick [.ref a, .ref l] H' Q E := by
  refine ⟨F', a, g, B, Z.sub, Z.S, hB, .inl ⟨l, xs, rfl, Z.sub _ _ hl, ?_, x0, x1, fun v H2 hv N2 S2 => k v H2 hv (Z.step N2 S2) fun p o h hp => N2.keep p o h (Z.nm hp)⟩⟩
  obtain ⟨c, r, t, gs, cs, S, _⟩ := Z.S
  rintro (e | e)
  · rw [e, S.fa] at hl; cases hl
  · rw [e, S.fg] at hl; cases hl
section
variable {P : Program} {w : World} {K : PySem.W.Frag} {mg : Str → Option Value} {base : Heap}
theorem ok_pick (T : Txt mg) (c_take : C8.Cal P w K mg base 2 "_law_take" spTake []) {f fd} (D : C8.Def K mg "_law_pick" s_pick f fd) (b : Binds K fd ["state", "some"] []) : C8.Cal P w K mg base 3 "_law_pick" spPick [] := by
  refine C8.cal0 D b .nil sc_pick (fun vs H Q E h => ?_) (fun cdv A outer s H vs Q E hr h => ?_)
  · obtain ⟨F, a, g, B, _, _, _, ⟨l, xs, rfl, _⟩ | ⟨z, rfl, _⟩⟩ := h <;> rfl
  · obtain ⟨F, a, g, B, sF, S, hB, h⟩ := h
    have hu := hu_of hr
    refine ⟨_, (pss_one (ps_ret (pe_ix (k_ixS K) (pv 1) (C8.pe_c c_take hr (by decide) rfl (pa_cons (pv 0) (pa_cons (pe_callB (k_len K) rfl T.b_len PySem.boot_len (pa_cons (pv 1) pa_nil)) pa_nil))) (fun _ _ => rfl)))), ?_⟩
    rcases h with ⟨l, xs, rfl, hl, nl, x0, x1, k⟩ | ⟨z, rfl, x0, x1, k⟩
    · walk_at "zz"
      refine ⟨_, xs.length, rfl, .inl ⟨xs, SqL.of hl, rfl⟩, ?_⟩
      walk_at "zz"
      refine ⟨F, a, g, (xs.length : Int), B, rfl, by omega, by omega, sF, S, hB, fun r H1 r0 r1 N1 S1 => ?_⟩
      obtain ⟨v, hv, hm⟩ := at_of_mem (xs := xs) r0 r1
      exact .inl ⟨l, xs, r, v, rfl, rfl, SqL.of (N1.keep _ _ hl nl), hv, k v H1 hm N1 S1⟩
    · walk_at "zz"
      have zl := slen z
      have zs : z.length ≤ sizeLine := Nat.le_trans (show z.length ≤ 1000000 by omega) (by decide)
      refine ⟨_, z.length, rfl, ⟨zs, rfl⟩, ?_⟩
      walk_at "zz"
      refine ⟨F, a, g, (z.length : Int), B, rfl, by omega, by omega, sF, S, hB, fun r H1 r0 r1 N1 S1 => ?_⟩
      obtain ⟨c, hc, hm⟩ := at_of_mem (xs := z.cps.toList) r0 (by omega)
      exact .inr (.inr ⟨z, r, c, rfl, rfl, zs, hc, k c H1 hm N1 S1⟩)
theorem ok_names (T : Txt mg) (c_take : C8.Cal P w K mg base 2 "_law_take" spTake []) (c_pick : C8.Cal P w K mg base 3 "_law_pick" spPick []) {f fd} (D : C8.Def K mg "_law_names" s_names f fd) (b : Binds K fd ["state", "many"] []) : C8.Cal P w K mg base 4 "_law_names" spNames [] := by
  refine C8.cal0 D b .nil sc_names (fun vs H Q E h => ?_) (fun cdv A outer s H vs Q E hr h => ?_)
  · obtain ⟨F, a, g, n, B, rfl, _⟩ := h
    rfl
  · obtain ⟨F, a, g, n, B, rfl, n0, n1, sF, S, hB, k⟩ := h
    have hu := hu_of hr
    refine ⟨_, (pss_cons (ps_set (i := 2) sc_names.nd rfl (Or.inr rfl) pe_str)
  (pss_cons (ps_set (i := 3) sc_names.nd rfl (Or.inl rfl) (pe_lst (pa_cons pe_str (pa_cons pe_str (pa_cons pe_str (pa_cons pe_str (pa_cons pe_str (pa_cons pe_str (pa_cons pe_str (pa_cons pe_str (pa_cons pe_str (pa_cons pe_str (pa_cons pe_str (pa_cons pe_str (pa_cons pe_str (pa_cons pe_str (pa_cons pe_str pa_nil)))))))))))))))))
  (pss_cons (ps_set (i := 4) sc_names.nd rfl (Or.inr rfl) (pe_lst pa_nil))
  (pss_cons (ps_while PassesOwn.never (pt_cmpR op_lt (pe_callB (k_len K) rfl T.b_len PySem.boot_len (pa_cons (pv 4) pa_nil)) (pv 1) (nomark _))
    (pss_cons (ps_par (i := 5) (j := 6) rfl sc_names.nd rfl rfl (by decide) rfl rfl (pa_cons (C8.pe_c c_take hr (by decide) rfl (pa_cons (pv 0) (pa_cons pe_int pa_nil))) (pa_cons (C8.pe_c c_pick hr (by decide) rfl (pa_cons (pv 0) (pa_cons (pv 3) pa_nil))) pa_nil)) rfl)
  (C8.pss_cut (ps_if (pt_cmpR op_eq (pv 5) pe_int (nomark _))
    (pss_one (ps_set (i := 6) sc_names.nd rfl (Or.inl rfl) (pe_join pe_str (pe_lc (own := [("k", 7)]) rfl sc_names.nd (pi_range1 rfl T.b_range (pa_cons (pe_op op_add pe_int (C8.pe_c c_take hr (by decide) rfl (pa_cons (pv 0) (pa_cons pe_int pa_nil)))) pa_nil)) (blkOk_by (N := N_names) (sc := defScope s_names) (by decide +kernel)) (fun _ _ _ _ _ => (pg_name (i := 7) sc_names.nd rfl (Or.inl rfl))) (fun _ _ _ _ _ => pts_nil) (fun _ _ _ _ _ => (C8.pe_c c_pick hr (by decide) rfl (pa_cons (pv 0) (pa_cons (pv 2) pa_nil))))))))
    pss_nil)
  (C8.pss_cut (ps_if (PW.pt (pw_and (pt_cmpR op_eq (pv 5) pe_int (nomark _)) (pw_and1 (pt_cmpR (k_neD K hr.units) (pv 4) (pe_lst pa_nil) (nomark _)))))
    (pss_one (ps_set (i := 6) sc_names.nd rfl (Or.inl rfl) (pe_slice sl_str (pe_op k_addS (pe_ix (k_ixL K) (pv 4) (pe_un un_neg pe_int) (fun _ _ => rfl)) (C8.pe_c c_pick hr (by decide) rfl (pa_cons (pv 0) (pa_cons (pv 2) pa_nil)))) po_none (po_some pe_int))))
    pss_nil)
  (C8.pss_cut (ps_if (pt_cmpR (k_in K) (pv 6) (pv 4) rfl)
    (pss_one (ps_set (i := 6) sc_names.nd rfl (Or.inl rfl) (pe_ix (k_ixL K) (pe_lc (own := [("letter", 8)]) rfl sc_names.nd (pi_str (pv 2)) (blkOk_by (N := N_names) (sc := defScope s_names) (by decide +kernel)) (fun _ _ _ _ _ => (pg_name (i := 8) sc_names.nd rfl (Or.inl rfl))) (fun _ _ _ _ _ => (pts_one (pt_cmpR (k_notIn K) (pv 8) (pv 4) rfl))) (fun _ _ _ _ _ => (pv 8))) pe_int (fun _ _ => rfl))))
    pss_nil)
  (pss_one (ps_expr (k_append K (pv 4) (pa_cons (pv 6) pa_nil)))))))))
  (pss_one (ps_ret (pv 4))))))), ?_⟩
    have Z := Cz.start sF S
    walk_at "zz"
    refine ⟨sz (by decide), fun wl hw => ?_⟩
    have Z1 := Z.lay hw (.lst wordsV)
    have hW : (upd F wl (.lst wordsV)) wl = some (.lst wordsV) := upd_same
    generalize upd F wl (.lst wordsV) = F1 at Z1 hW
    generalize upd H wl (.lst wordsV) = H1 at Z1 ⊢
    walk_at "zz"
    refine ⟨sz (by decide), fun p hp => ?_⟩
    have hp0 := Z1.old hp
    have Z2 := Z1.mak hp (.lst [])
    have fp : F1 p = none := Z1.sub.none hp
    have h2 : (upd H1 p (.lst [])) p = some (.lst []) := upd_same
    generalize upd H1 p (.lst []) = H2 at Z2 h2 ⊢
    walk_at "zz"
    refine z_while (fun m σ' H' => ∃ (F' : Hp) (ns : List Str) (v5 v6 v7 v8 : Option V), σ' = [some (.ref a), some (.int n), some (.str "abcdefghijklmnopqrstuvwxyz"), some (.ref wl), some (.ref p), v5, v6, v7, v8] ∧ Cz a g F H F' H' (B + 10 * ns.length) ∧ F' wl = some (.lst wordsV) ∧
      F' p = none ∧ H' p = some (.lst (ns.map V.str)) ∧ ns.Nodup ∧ (∀ x ∈ ns, Nm x) ∧ (ns.length : Int) ≤ n ∧ m + ns.length = n.toNat) n.toNat ⟨F1, [], none, none, none, none, rfl, Z2.mono (by simp), hW, fp, h2, List.nodup_nil, (fun x h => by cases h), n0, rfl⟩ ?_ ?_
    · rintro m σ' H' ⟨F', ns, v5, v6, v7, v8, rfl, Z3, hW3, fp3, h3, nd, hN, hn, hm⟩
      walk_at "zz"
      refine ⟨_, ns.length, rfl, .inl ⟨_, SqL.of h3, by simp⟩, ?_⟩
      walk_at "zz"
      refine z_ite (fun lt => ?_) (fun ge => ?_)
      · walk_at "zz"
        refine ⟨F', a, g, 4, _, rfl, by omega, by omega, Z3.sub, Z3.S, by omega, fun way H4 w0 w1 N4 S4 => ?_⟩
        have Z4 := Z3.step N4 S4
        walk_at "zz"
        refine ⟨F', a, g, _, Z4.sub, Z4.S, by omega, .inl ⟨wl, wordsV, rfl, Z4.sub _ _ hW3, ?_, by decide, by decide, fun v H5 hv N5 S5 => ?_⟩⟩
        · exact Z4.nm hw
        obtain ⟨nm0, rfl, hnm0⟩ := words_ok hv
        have Z5 := Z4.step N5 S5
        walk_at "zz"
        have fp5 : F' p = none := fp3
        have h5 : H5 p = some (.lst (ns.map V.str)) := N5.keep _ _ (N4.keep _ _ h3 (Z3.nm hp0)) (Z4.nm hp0)
        -- what holds between the ifs: the slots, the name at hand, the draws so far
        refine z_cut (fun σ' H' => ∃ (F' : Hp) (nm : Str) (v7 : Option V), σ' = [some (.ref a), some (.int n), some (.str "abcdefghijklmnopqrstuvwxyz"), some (.ref wl), some (.ref p), some (.int way), some (.str nm), v7, v8] ∧ Cz a g F H F' H' (B + 10 * ns.length + 9) ∧
          F' wl = some (.lst wordsV) ∧ F' p = none ∧ H' p = some (.lst (ns.map V.str)) ∧ Nm nm) ?_ ?_
        · walk_at "zz"
          refine z_ite (fun _ => ?_) (fun _ => ?_)
          · walk_at "zz"
            refine ⟨F', a, g, 6, _, rfl, by omega, by omega, Z5.sub, Z5.S, by omega, fun q H6 q0 q1 N6 S6 => ?_⟩
            have Z6 := Z5.step N6 S6
            have h6 := N6.keep _ _ h5 (Z5.nm hp0)
            walk_at "zz"
            refine ⟨_, rfl, by omega, by omega, fun D hD => ?_⟩
            have hD0 := Z6.old hD
            have Z7 := Z6.mak hD (.lst [])
            have fD : F' D = none := Z6.sub.none hD
            have Dp : p ≠ D := ne_of_none h6 hD
            refine lc_it walk_range (fun i H' => ∃ ys : List Str, Cz a g F H F' H' (B + 10 * ns.length + 3 + i) ∧ H' D = some (.lst (ys.map V.str)) ∧ H' p = some (.lst (ns.map V.str)) ∧ ys.length = i ∧ ∀ y ∈ ys, ∃ c, y = ⟨#[c]⟩ ∧ 97 ≤ c ∧ c ≤ 122)
              ⟨[], Z7.mono (by omega), upd_same, by rw [upd_ne Dp]; exact h6, rfl, fun y hy => by cases hy⟩ (fun _ _ _ _ => trivial) ?_ ?_
            · rintro i x H7 H8 hi ⟨ys, Z8, hD8, hp8, hl8, hy8⟩ ⟨rfl, rfl⟩
              walk_at "zz"
              refine ⟨F', a, g, _, Z8.sub, Z8.S, by omega, .inr ⟨_, rfl, by decide +kernel, by decide +kernel, fun c H9 hc N9 S9 => ?_⟩⟩
              have hc' := letters_ok hc
              have Z9 := Z8.step N9 S9
              refine ⟨ys.map V.str, N9.keep _ _ hD8 (Z8.nm hD0), szl (by rw [List.length_map]; omega), ys ++ [⟨#[c]⟩], (Z9.wr hD0 fD _).mono (by omega), by rw [upd_same]; simp, by rw [upd_ne Dp]; exact N9.keep _ _ hp8 (Z8.nm hp0), by simp [hl8], fun y hy => ?_⟩
              rcases List.mem_append.mp hy with hy | hy
              · exact hy8 y hy
              · exact ⟨c, List.mem_singleton.mp hy, hc'⟩
            · rintro H7 ⟨ys, Z8, hD8, hp8, hl8, hy8⟩
              walk_at "zz"
              refine ⟨"", D, ys, rfl, rfl, .inl (SqL.of hD8), ?_, ?_⟩
              · rw [one_sum hy8, hl8]
                show _ + _ * 0 ≤ _
                omega
              · walk_at "zz"
                exact ⟨F', _, _, rfl, Z8.mono (by omega), hW3, fp3, hp8, join_ok hy8 (by omega) (by omega)⟩
          · walk_at "zz"
            exact ⟨F', nm0, v7, rfl, Z5.mono (by omega), hW3, fp3, h5, hnm0⟩
        · rintro σ' H6 ⟨F6, nm, u7, rfl, Z6, hW6, fp6, h6, hnm⟩
          refine z_cut (fun σ' H' => ∃ (F' : Hp) (nm : Str) (v7 : Option V), σ' = [some (.ref a), some (.int n), some (.str "abcdefghijklmnopqrstuvwxyz"), some (.ref wl), some (.ref p), some (.int way), some (.str nm), v7, v8] ∧ Cz a g F H F' H' (B + 10 * ns.length + 10) ∧
            F' wl = some (.lst wordsV) ∧ F' p = none ∧ H' p = some (.lst (ns.map V.str)) ∧ Nm nm) ?_ ?_
          · walk_at "zz"
            have stay : ∃ (F' : Hp) (nm2 : Str) (v7 : Option V), [some (.ref a), some (.int n), some (.str "abcdefghijklmnopqrstuvwxyz"), some (.ref wl), some (.ref p), some (.int way), some (.str nm), u7, v8] = [some (V.ref a), some (.int n), some (.str "abcdefghijklmnopqrstuvwxyz"), some (.ref wl), some (.ref p), some (.int way), some (.str nm2), v7, v8] ∧ Cz a g F H F' H6 (B + 10 * ns.length + 10) ∧
              F' wl = some (.lst wordsV) ∧ F' p = none ∧ H6 p = some (.lst (ns.map V.str)) ∧ Nm nm2 := ⟨F6, nm, u7, rfl, Z6.mono (by omega), hW6, fp6, h6, hnm⟩
            refine z_ite (fun _ => ?_) (fun _ => ?_)
            · walk_at "zz"
              refine ⟨sz (by decide), fun e he => ?_⟩
              have Z7 := Z6.mak he (.lst [])
              have h7 : (upd H6 e (.lst [])) p = some (.lst (ns.map V.str)) := upd_keep h6 he
              have he7 : (upd H6 e (.lst [])) e = some (.lst []) := upd_same
              generalize upd H6 e (.lst []) = H7 at Z7 h7 he7 ⊢
              refine z_neS (xs := ns) (ys := []) (fun x hx => (hN x hx).ok) (fun x hx => by cases hx) (SqL.of h7) (SqL.of he7) ?_
              walk_at "zz"
              refine z_iteN (fun ne => ?_) (fun _ => ?_)
              · obtain ⟨x, hx, ax⟩ := last_of ne
                walk_at "zz"
                refine ⟨p, _, _, _, rfl, rfl, SqL.of h7, ax, ?_⟩
                walk_at "zz"
                refine ⟨F6, a, g, _, Z7.sub, Z7.S, by omega, .inr ⟨_, rfl, by decide +kernel, by decide +kernel, fun c H8 hc N8 S8 => ?_⟩⟩
                have Z8 := Z7.step N8 S8
                have lx := slen x
                have := (hN x hx).2.1
                refine z_addS (sz (by rw [lx]; show _ + 1 ≤ _; omega)) ?_
                walk_at "zz"
                refine ⟨_, rfl, sz (by rw [slen]; show (TL.tl (x ++ ⟨#[c]⟩)).length ≤ _; rw [TL.tl_append, List.length_append]; show x.cps.toList.length + 1 ≤ _; omega), ?_⟩
                walk_at "zz"
                exact ⟨F6, _, _, rfl, Z8.mono (by omega), hW6, fp6, N8.keep _ _ h7 (Z7.nm hp0), cut6_ok (hN x hx) (letters_ok hc)⟩
              · walk_at "zz"
                exact ⟨F6, nm, u7, rfl, Z7.mono (by omega), hW6, fp6, h7, hnm⟩
            · walk_at "zz"
              exact stay
          · rintro σ' H7 ⟨F7, nm, u7, rfl, Z7, hW7, fp7, h7, hnm⟩
            refine z_cut (fun σ' H' => ∃ (F' : Hp) (nm : Str) (v8 : Option V), σ' = [some (.ref a), some (.int n), some (.str "abcdefghijklmnopqrstuvwxyz"), some (.ref wl), some (.ref p), some (.int way), some (.str nm), u7, v8] ∧ Cz a g F H F' H' (B + 10 * ns.length + 10) ∧
              F' wl = some (.lst wordsV) ∧ F' p = none ∧ H' p = some (.lst (ns.map V.str)) ∧ Nm nm ∧ nm ∉ ns) ?_ ?_
            · walk_at "zz"
              refine z_inS (SqL.of h7) ?_
              walk_at "zz"
              refine z_ite (fun hin => ?_) (fun hout => ?_)
              · walk_at "zz"
                intro D hD
                have hD0 := Z7.old hD
                have Z8 := Z7.mak hD (.lst [])
                have fD : F7 D = none := Z7.sub.none hD
                have Dp : p ≠ D := ne_of_none h7 hD
                refine lc_it walk_str (fun i H' => Cz a g F H F7 H' (B + 10 * ns.length + 10) ∧ H' D = some (.lst (((lets.take i).filter fun y => !decide (y ∈ ns)).map V.str)) ∧ H' p = some (.lst (ns.map V.str)))
                  ⟨Z8, upd_same, by rw [upd_ne Dp]; exact h7⟩ (fun _ _ _ _ => trivial) ?_ ?_
                · rintro i x H8 H9 hi ⟨Z9, hD9, hp9⟩ ⟨rfl, c, hc, rfl⟩
                  have li : lets[i]? = some ⟨#[c]⟩ := by
                    unfold lets
                    rw [List.getElem?_map, Array.getElem?_toList, hc]
                    rfl
                  have tk : lets.take (i + 1) = lets.take i ++ [⟨#[c]⟩] := by rw [List.take_succ, li]; rfl
                  walk_at "zz"
                  refine z_ninS (SqL.of hp9) ?_
                  walk_at "zz"
                  refine z_iteN (fun no => ?_) (fun yes => ?_)
                  · walk_at "zz"
                    refine ⟨_, hD9, szl (by rw [List.length_map]; exact Nat.le_trans (List.length_filter_le _ _) (Nat.le_trans (List.length_take_le _ _) (by rw [s26] at hi; omega))), Z9.wr hD0 fD _, ?_, by rw [upd_ne Dp]; exact hp9⟩
                    rw [upd_same, tk, List.filter_append, List.map_append]
                    simp [no]
                  · refine ⟨Z9, ?_, hp9⟩
                    rw [hD9, tk, List.filter_append, List.map_append]
                    simp [yes]
                · rintro H8 ⟨Z9, hD9, hp9⟩
                  have lt26 : ns.length < 26 := by omega
                  obtain ⟨x, hx⟩ := one_left lt26
                  rw [show lets.take ("abcdefghijklmnopqrstuvwxyz" : Str).cps.size = lets from by decide +kernel] at hD9
                  walk_at "zz"
                  obtain ⟨v, av, mv⟩ := at_of_mem (xs := (lets.filter fun y => !decide (y ∈ ns)).map V.str) (r := 0) (by omega) (by rw [List.length_map]; have := List.length_pos_of_mem hx; omega)
                  obtain ⟨y, hy, rfl⟩ := List.mem_map.mp mv
                  refine ⟨D, _, _, _, rfl, rfl, SqL.of hD9, av, ?_⟩
                  walk_at "zz"
                  have hy' := List.mem_filter.mp hy
                  exact ⟨F7, y, _, rfl, Z9, hW7, fp7, hp9, lets_nm hy'.1, by simpa using hy'.2⟩
              · walk_at "zz"
                exact ⟨F7, nm, _, rfl, Z7, hW7, fp7, h7, hnm, hout⟩
            · rintro σ' H8 ⟨F8, nm, u8, rfl, Z8, hW8, fp8, h8, hnm, hno⟩
              walk_at "zz"
              refine ⟨.inl ⟨rfl, _, SqL.of h8⟩, ?_⟩
              walk_at "zz"
              refine z_app h8 (by rw [List.length_map]; omega) ?_
              walk_at "zz"
              refine ⟨m - 1, by omega, F8, ns ++ [nm], _, _, _, _, rfl, (Z8.wr hp0 fp8 _).mono (by simp; omega), hW8, fp8, by rw [upd_same]; simp, ?_, fun x hx => ?_, by simp; omega, by simp; omega⟩
              · exact List.nodup_append.mpr ⟨nd, by simp, fun x hx y hy => fun e => hno (by rw [← List.mem_singleton.mp hy, ← e]; exact hx)⟩
              · rcases List.mem_append.mp hx with hx | hx
                · exact hN x hx
                · rw [List.mem_singleton.mp hx]; exact hnm
      · walk_at "zz"
        have e : (ns.length : Int) = n := by omega
        have Z4 := (Z3.frz hp0 h3 fp3).mono (show B + 10 * (ns.length : Int) ≤ B + 120 by omega)
        exact k p ns _ _ Z4.N Z4.S upd_same hp0 e nd hN
    · intro σ H Q Q' hq h
      obtain ⟨v, hv, x, l, e1, hl, v2, hv2, i, j, e2, e3, b, e4, q⟩ := h
      exact ⟨v, hv, x, l, e1, hl, v2, hv2, i, j, e2, e3, b, e4, hq _ _ q⟩
end
end EV
end

section
set_option maxHeartbeats 2000000
local macro_rules | `(tactic| walk_at "za") => `(tactic| (first | exact Or.inl ⟨by omega, by omega⟩ | exact Or.inr ⟨by omega, by omega⟩ | exact ⟨by omega, by omega⟩ | exact ⟨by omega, by omega, by omega⟩ | omega))
local macro_rules | `(tactic| walk_at "z") => `(tactic| (first
  | with_reducible refine EV.z_seq ?_ | with_reducible refine EV.z_next ?_ | with_reducible refine EV.z_nx ?_ | with_reducible refine EV.z_rt ?_ | with_reducible refine EV.z_asg ?_ | with_reducible refine EV.z_name ?_
  | with_reducible refine EV.z_drop ?_ | with_reducible refine EV.z_ret ?_ | with_reducible refine EV.z_if ?_
  | ((with_reducible refine EV.z_var (v := ?vv) ?hv ?_); (case hv => exact rfl)) | with_reducible refine EV.z_c ?_ | with_reducible refine EV.z_op ?_ | with_reducible refine EV.z_un ?_ | with_reducible refine EV.z_I0 ?_ | with_reducible refine EV.z_U ?_ | ((with_reducible refine EV.z_I ?hc ?_); (case hc => walk_at "za"))
  | ((with_reducible refine EV.z_eq ?hv ?_); (case hv => exact rfl)) | ((with_reducible refine EV.z_ne ?hv ?_); (case hv => exact rfl))
  | with_reducible refine EV.z_test ?_ | with_reducible refine EV.z_bl ?_ | with_reducible refine EV.z_B ?_ | with_reducible refine EV.z_and ?_ | with_reducible refine EV.z_or ?_ | with_reducible refine EV.z_not ?_ | with_reducible refine EV.z_andV ?_
  | with_reducible refine EV.z_orV ?_ | with_reducible refine EV.z_notV ?_ | with_reducible refine EV.z_ifE ?_ | with_reducible refine EV.z_nil ?_ | with_reducible refine EV.z_cons ?_ | with_reducible refine EV.z_tup ?_ | with_reducible refine EV.z_lst ?_
  | with_reducible refine EV.z_cb ?_ | with_reducible refine EV.z_call ?_ | with_reducible refine EV.z_dget ?_ | with_reducible refine EV.z_dput ?_ | with_reducible refine EV.z_chain ?_ | with_reducible refine EV.z_then ?_ | with_reducible refine EV.z_fld ?_ | with_reducible refine EV.z_bm ?_
  | with_reducible refine EV.z_par ?_ | with_reducible refine EV.z_par3 ?_ | with_reducible refine EV.z_ex2 ?_ | with_reducible refine EV.z_ex3 ?_ | with_reducible refine EV.z_tyes ?_ | ((with_reducible refine EV.z_wipe ?hv ?_); (case hv => exact rfl))
  | with_reducible refine EV.z_lc ?_ | with_reducible refine EV.z_ltS ?_ | with_reducible refine EV.z_disp ?_ | with_reducible refine EV.z_pc ?_ | with_reducible refine EV.z_pn ?_ | with_reducible refine EV.z_m1 ?_ | with_reducible refine EV.z_isS ?_ | with_reducible refine EV.z_sl ?_ | with_reducible refine EV.z_np ?_ | with_reducible refine EV.z_pt ?_ | with_reducible refine EV.z_exI ?_ | with_reducible refine EV.z_is ?_ | with_reducible refine EV.z_istr ?_ | with_reducible refine EV.z_no ?_ | with_reducible refine EV.z_yes ?_ | with_reducible refine EV.z_for ?_ | with_reducible refine EV.z_il ?_ | with_reducible refine EV.z_it ?_ | with_reducible refine EV.z_r1 ?_ | with_reducible refine EV.z_ik ?_ | with_reducible refine EV.z_din ?_ | with_reducible refine EV.z_dnin ?_ | with_reducible refine EV.z_dsd ?_ | with_reducible refine EV.z_gs ?_ | with_reducible refine EV.z_gc ?_ | with_reducible refine EV.z_gn ?_ | with_reducible refine EV.z_turn ?_))
local macro_rules | `(tactic| walk_at "zz") => `(tactic| repeat walk_at "z")
namespace EV
open PySem PySem.Spec PyProof.Rows L2
abbrev s_weight : Stmt := top 33
abbrev N_weight : List Str := ["world", "person", "sheet"]
abbrev P_weight : List Str := ["world", "person"]
theorem sc_weight : FnScope N_weight P_weight (defScope s_weight) := ⟨rfl, rfl, rfl, by decide +kernel, rfl, by decide +kernel, by decide +kernel⟩
abbrev s_fences : Stmt := top 35
abbrev N_fences : List Str := ["state", "folk", "way", "fences", "first", "second", "star"]
abbrev P_fences : List Str := ["state", "folk"]
theorem sc_fences : FnScope N_fences P_fences (defScope s_fences) := ⟨rfl, rfl, rfl, by decide +kernel, rfl, by decide +kernel, by decide +kernel⟩
def spWeight (K : PySem.W.Frag) : Sp := fun vs H Q _ => ∃ (wa hd lv l : Addr) (p : Str) (kw kh kl : List (Key × V)) (ps : List Str) (lf : Str → Int), vs = [.ref wa, .str p] ∧ Rd H wa (.dK kw) ∧ valV kw (key "held") = some (.ref hd) ∧ valV kw (key "leaves") = some (.ref lv) ∧
  Rd H hd (.dK kh) ∧ valV kh (key p) = some (.ref l) ∧ SqL K H l (ps.map V.str) ∧ ps.length ≤ 1000 ∧ Rd H lv (.dK kl) ∧ (∀ x ∈ ps, valV kl (key x) = some (.int (lf x))) ∧ ∀ H', Same H H' → Q (.int (ps.map lf).sum) H'
/-- who may not call whom: the pairs' tuples -/
def BarsA (F : Hp) (bs : List (Addr × Str × Str)) : Prop := ∀ t ∈ bs, F t.1 = some (.tup [.str t.2.1, .str t.2.2])
abbrev slt (x y : Str) : Prop := x.cps.toList < y.cps.toList
/-- pairs taken in so far, each once, R telling which ones those may be -/
structure Fen (folk : List Str) (bs : List (Addr × Str × Str)) (R : Str × Str → Prop) : Prop where
  has : ∀ t ∈ bs, t.2.1 ∈ folk ∧ t.2.2 ∈ folk ∧ slt t.2.1 t.2.2
  nd : folk.Nodup → (bs.map (·.2)).Nodup
  told : ∀ t ∈ bs, R t.2
theorem Fen.nil {folk : List Str} {R : Str × Str → Prop} : Fen folk [] R := ⟨fun t h => (by cases h), fun _ => List.nodup_nil, fun t h => (by cases h)⟩
theorem Fen.weak {folk : List Str} {bs : List (Addr × Str × Str)} {R S : Str × Str → Prop} (f : Fen folk bs R) (h : ∀ q, R q → S q) : Fen folk bs S := ⟨f.has, f.nd, fun t ht => h _ (f.told t ht)⟩
theorem Fen.add {folk : List Str} {bs : List (Addr × Str × Str)} {R S : Str × Str → Prop} (f : Fen folk bs R) {a : Addr} {x y : Str} (hx : x ∈ folk) (hy : y ∈ folk) (lt : slt x y) (new : folk.Nodup → ¬ R (x, y)) (h : ∀ q, R q → S q) (n : S (x, y)) : Fen folk (bs ++ [(a, x, y)]) S := by
  refine ⟨fun t ht => ?_, fun nd => ?_, fun t ht => ?_⟩
  · rcases List.mem_append.mp ht with ht | ht
    · exact f.has t ht
    · rw [List.mem_singleton.mp ht]; exact ⟨hx, hy, lt⟩
  · rw [List.map_append]
    refine List.nodup_append.mpr ⟨f.nd nd, by simp, fun p hp q hq e => ?_⟩
    rw [List.map_cons, List.map_nil, List.mem_singleton] at hq
    subst hq
    obtain ⟨t, ht, rfl⟩ := List.mem_map.mp hp
    have := f.told t ht
    rw [e] at this
    exact new nd this
  · rcases List.mem_append.mp ht with ht | ht
    · exact h _ (f.told t ht)
    · rw [List.mem_singleton.mp ht]; exact n
theorem take_at {xs : List Str} {i : Nat} {x : Str} (nd : xs.Nodup) (h : xs[i]? = some x) : x ∉ xs.take i := fun m => by
  obtain ⟨hi, ex⟩ := List.getElem?_eq_some_iff.mp h
  have nd' : (xs.take i ++ xs.drop i).Nodup := by rw [List.take_append_drop]; exact nd
  have hd : x ∈ xs.drop i := by rw [List.drop_eq_getElem_cons hi, ex]; exact List.mem_cons_self
  exact (List.nodup_append.mp nd').2.2 x m x hd rfl
theorem mem_take_succ {xs : List Str} {i : Nat} {x y : Str} (h : xs[i]? = some x) : y ∈ xs.take (i + 1) ↔ y ∈ xs.take i ∨ y = x := by
  rw [List.take_succ, h, List.mem_append]; simp
def spFences : Sp := fun vs H Q _ => ∃ (F : Hp) (a g fl : Addr) (folk : List Str) (B : Int), vs = [.ref a, .ref fl] ∧ Sub F H ∧ Sta F H a g B ∧ B + 100 < 1000000000 ∧ F fl = some (.lst (folk.map V.str)) ∧ folk.length ≤ 6 ∧
  ∀ (p : Addr) (bs : List (Addr × Str × Str)) F' H', Nx (MS a g) F H F' H' → Sta F' H' a g (B + 100) → H p = none → F' p = some (.lst (bs.map fun t => V.ref t.1)) → BarsA F' bs → bs.length ≤ 36 → (∀ t ∈ bs, t.2.1 ∈ folk ∧ t.2.2 ∈ folk ∧ slt t.2.1 t.2.2) → (folk.Nodup → (bs.map (·.2)).Nodup) → Q (.ref p) H'
theorem take_succ_map {α β : Type} {f : α → β} {l : List α} {i : Nat} {x : α} (h : l[i]? = some x) : (l.take (i + 1)).map f = (l.take i).map f ++ [f x] := by
  rw [List.take_succ, h, List.map_append]; rfl
section
variable {P : Program} {w : World} {K : PySem.W.Frag} {mg : Str → Option Value} {base : Heap}
theorem ok_weight (T : Txt mg) {f fd} (D : C8.Def K mg "_law_weight" s_weight f fd) (b : Binds K fd P_weight []) : C8.Cal P w K mg base 1 "_law_weight" (spWeight K) [] := by
  refine C8.cal0 D b .nil sc_weight (fun vs H Q E h => ?_) (fun cdv A outer s H vs Q E hr h => ?_)
  · obtain ⟨wa, hd, lv, l, p, kw, kh, kl, ps, lf, rfl, _⟩ := h
    rfl
  · obtain ⟨wa, hd, lv, l, p, kw, kh, kl, ps, lf, rfl, hw, e1, e2, hh, e3, hl, hz, hlv, hf, k⟩ := h
    have hu := hu_of hr
    refine ⟨_, (pss_one (ps_ret (pe_callB (k_sum K rfl) rfl T.b_sum (by decide +kernel) (pa_cons (pe_lc (own := [("sheet", 2)]) rfl sc_weight.nd (k_pil K (pe_dget hu (pe_dget hu (pv 0) pe_str (fun _ _ => rfl)) (pv 1) (fun _ _ => rfl))) (blkOk_by (N := N_weight) (sc := defScope s_weight) (by decide +kernel)) (fun _ _ _ _ _ => (pg_name (i := 2) sc_weight.nd rfl (Or.inl rfl))) (fun _ _ _ _ _ => pts_nil) (fun _ _ _ _ _ => (pe_dget hu (pe_dget hu (pv 0) pe_str (fun _ _ => rfl)) (pv 2) (fun _ _ => rfl)))) pa_nil)))), ?_⟩
    walk_at "zz"
    refine z_dgetR hw e1 ?_
    walk_at "zz"
    refine z_dgetR hh e3 ?_
    refine ⟨l, rfl, ⟨_, hl⟩, fun D hD => ?_⟩
    refine lc_it (walk_list (xs := ps.map V.str)) (fun i H' => Same H H' ∧ H' D = some (.lst (((ps.take i).map lf).map V.int))) ⟨same_new hD, upd_same⟩ (fun i H' _ h => h.1.seq hl) ?_ ?_
    · rintro i x H1 H2 hi ⟨s1, h1⟩ ⟨rfl, hx⟩
      obtain ⟨n, hn, rfl⟩ := at_str hx
      walk_at "zz"
      refine z_dgetR (rd_same s1 hw) e2 ?_
      walk_at "zz"
      refine z_dgetR (rd_same s1 hlv) (hf n (List.mem_of_getElem? hn)) ?_
      refine ⟨_, h1, szl (by rw [List.length_map, List.length_map, List.length_take]; omega), same_wr s1 hD, ?_⟩
      rw [upd_same, take_succ_map hn, List.map_append]; rfl
    · rintro H1 ⟨s1, h1⟩
      rw [List.length_map, List.take_length] at h1
      walk_at "zz"
      refine z_sum (SqL.of h1) ?_
      walk_at "zz"
      exact k H1 s1
theorem ok_fences (T : Txt mg) (c_take : C8.Cal P w K mg base 2 "_law_take" spTake []) {f fd} (D : C8.Def K mg "_law_fences" s_fences f fd) (b : Binds K fd P_fences []) : C8.Cal P w K mg base 3 "_law_fences" spFences [] := by
  refine C8.cal0 D b .nil sc_fences (fun vs H Q E h => ?_) (fun cdv A outer s H vs Q E hr h => ?_)
  · obtain ⟨F, a, g, fl, folk, B, rfl, _⟩ := h
    rfl
  · obtain ⟨F, a, g, fl, folk, B, rfl, sF, S, hB, hfl, h6, k⟩ := h
    have hu := hu_of hr
    refine ⟨_, (pss_cons (ps_par (i := 2) (j := 3) rfl sc_fences.nd rfl rfl (by decide) rfl rfl (pa_cons (C8.pe_c c_take hr (by decide) rfl (pa_cons (pv 0) (pa_cons pe_int pa_nil))) (pa_cons (pe_lst pa_nil) pa_nil)) rfl)
  (pss_cons (ps_for PassesOwn.never rfl (k_pil K (pe_callB (k_sortedS K) rfl T.b_sorted (by decide +kernel) (pa_cons (pv 1) pa_nil))) (pg_name (i := 4) sc_fences.nd rfl (Or.inl rfl))
    (pss_one (ps_for PassesOwn.never rfl (k_pil K (pe_callB (k_sortedS K) rfl T.b_sorted (by decide +kernel) (pa_cons (pv 1) pa_nil))) (pg_name (i := 5) sc_fences.nd rfl (Or.inl rfl))
    (C8.pss_cut (ps_set (i := 6) sc_fences.nd rfl (Or.inl rfl) (pe_and (pe_cmpR op_eq (pv 2) pe_int (nomark _)) (pe_and (pe_cmpR (k_in K) (pe_ix (k_ixL K) (pv 1) pe_int (fun _ _ => rfl)) (pe_tup (pa_cons (pv 4) (pa_cons (pv 5) pa_nil))) rfl) (pe_one (pe_cmpR op_gt (C8.pe_c c_take hr (by decide) rfl (pa_cons (pv 0) (pa_cons pe_int pa_nil))) pe_int (nomark _))))))
  (pss_one (ps_if (PW.pt (pw_and (pt_cmpR k_ltS (pv 4) (pv 5) (nomark _)) (pw_and1 (PW.pt (pw_or (pt_val (pv 6)) (pw_or1 (PW.pt (pw_and (pt_cmpR op_eq (pv 2) pe_int (nomark _)) (pw_and1 (pt_cmpR op_eq (C8.pe_c c_take hr (by decide) rfl (pa_cons (pv 0) (pa_cons pe_int pa_nil))) pe_int (nomark _)))))))))))
    (pss_one (ps_expr (k_append K (pv 3) (pa_cons (pe_tup (pa_cons (pv 4) (pa_cons (pv 5) pa_nil))) pa_nil))))
    pss_nil))))))
  (pss_one (ps_ret (pv 3))))), ?_⟩
    have Z := Cz.start sF S
    walk_at "zz"
    refine z_take Z (by omega) (by omega) (by omega) fun way H1 w0 w1 Z1 K1 => ?_
    walk_at "zz"
    refine ⟨sz (by decide), fun p hp => ?_⟩
    have hp0 := Z1.old hp
    have Z2 := Z1.mak hp (.lst [])
    have fp : F p = none := Z1.sub.none hp
    have h2 : (upd H1 p (.lst [])) p = some (.lst []) := upd_same
    generalize upd H1 p (.lst []) = H2 at Z2 h2 ⊢
    walk_at "zz"
    refine z_sorted (xs := folk) (Z2.sub.sql hfl) (by omega) fun ys l pm _ hl => ?_
    have Z3 := Z2.lay hl (.lst (ys.map V.str))
    have h3 := upd_keep (o := .lst (ys.map V.str)) h2 hl
    have fp3 : (upd F l (.lst (ys.map V.str))) p = none := by rw [upd_ne (ne_of_none h2 hl)]; exact fp
    have hfl3 : (upd F l (.lst (ys.map V.str))) fl = some (.lst (folk.map V.str)) := Z3.N.mono _ _ hfl
    have hl3 : (upd F l (.lst (ys.map V.str))) l = some (.lst (ys.map V.str)) := upd_same
    generalize upd F l (.lst (ys.map V.str)) = F3 at Z3 fp3 hfl3 hl3
    generalize upd H2 l (.lst (ys.map V.str)) = H3 at Z3 h3 ⊢
    have yl : ys.length = folk.length := pm.length_eq
    -- the run between two turns: m draws spent at most
    let Pv : Nat → L2.St → Hp → Prop := fun i σ' H' => ∃ (F' : Hp) (bs : List (Addr × Str × Str)) (v4 v5 v6 : Option V), σ' = [some (.ref a), some (.ref fl), some (.int way), some (.ref p), v4, v5, v6] ∧ Cz a g F H F' H' (B + 1 + 12 * (i : Int)) ∧ F' p = none ∧ F' fl = some (.lst (folk.map V.str)) ∧
      F' l = some (.lst (ys.map V.str)) ∧ H' p = some (.lst (bs.map fun t => V.ref t.1)) ∧ BarsA F' bs ∧ (2 * bs.length : Int) ≤ 12 * (i : Int) ∧ Fen folk bs fun q => q.1 ∈ ys.take i
    refine z_loopL (xs := ys.map V.str) (Z3.sub.sql hl3) Pv ⟨F3, [], none, none, none, rfl, Z3.mono (by omega), fp3, hfl3, hl3, h3, fun t ht => (by cases ht), by simp, Fen.nil⟩ (fun i σ' H' _ ⟨F', bs, v4, v5, v6, _, Z4, _, _, h, _⟩ => Z4.sub.sql h) ?_ ?_
    · rintro i x σ' H' hi ⟨F', bs, v4, v5, v6, rfl, Z4, fp4, hfl4, hl4, h4, hb4, hn4, hc4⟩
      obtain ⟨first, hf, rfl⟩ := at_str hi
      have hif : i < ys.length := (List.getElem?_eq_some_iff.mp hf).1
      have fin : first ∈ folk := pm.mem_iff.mp (List.mem_of_getElem? hf)
      walk_at "zz"
      refine z_sorted (xs := folk) (Z4.sub.sql hfl4) (by omega) fun zs l2 pm2 _ hl2 => ?_
      have Z5 := Z4.lay hl2 (.lst (zs.map V.str))
      have h5 := upd_keep (o := .lst (zs.map V.str)) h4 hl2
      have fp5 : (upd F' l2 (.lst (zs.map V.str))) p = none := by rw [upd_ne (ne_of_none h4 hl2)]; exact fp4
      have m5 := Nx.lay (M := No) (o := .lst (zs.map V.str)) Z4.sub hl2
      have hl5 : (upd F' l2 (.lst (zs.map V.str))) l2 = some (.lst (zs.map V.str)) := upd_same
      generalize upd F' l2 (.lst (zs.map V.str)) = F5 at Z5 fp5 hl5 m5
      generalize upd H' l2 (.lst (zs.map V.str)) = H5 at Z5 h5 m5 ⊢
      have zl : zs.length = folk.length := pm2.length_eq
      refine z_loopL (xs := zs.map V.str) (Z5.sub.sql hl5) (fun j σ' H' => ∃ (F' : Hp) (bs : List (Addr × Str × Str)) (v5 v6 : Option V), σ' = [some (.ref a), some (.ref fl), some (.int way), some (.ref p), some (.str first), v5, v6] ∧ Cz a g F H F' H' (B + 1 + (12 * i + 2 * j)) ∧ F' p = none ∧ F' fl = some (.lst (folk.map V.str)) ∧
        F' l = some (.lst (ys.map V.str)) ∧ F' l2 = some (.lst (zs.map V.str)) ∧ H' p = some (.lst (bs.map fun t => V.ref t.1)) ∧ BarsA F' bs ∧ (2 * bs.length : Int) ≤ 12 * i + 2 * j ∧ Fen folk bs fun q => q.1 ∈ ys.take i ∨ (q.1 = first ∧ q.2 ∈ zs.take j))
        ⟨F5, bs, v5, v6, rfl, Z5.mono (by omega), fp5, m5.mono _ _ hfl4, m5.mono _ _ hl4, hl5, h5, fun t ht => m5.mono _ _ (hb4 t ht), by omega, hc4.weak fun q h => .inl h⟩ (fun i σ' H' _ ⟨F', bs, v5, v6, _, Z4, _, _, _, h, _⟩ => Z4.sub.sql h) ?_ ?_
      · rintro j x σ' H6 hj ⟨F6, bs, v5, v6, rfl, Z6, fp6, hfl6, hl6, hl26, h6', hb6, hn6, hc6⟩
        obtain ⟨second, hs, rfl⟩ := at_str hj
        have hjs : j < zs.length := (List.getElem?_eq_some_iff.mp hs).1
        have sin : second ∈ folk := pm2.mem_iff.mp (List.mem_of_getElem? hs)
        walk_at "zz"
        refine z_cut (fun σ' H' => ∃ (F' : Hp) (star : Bool), σ' = [some (.ref a), some (.ref fl), some (.int way), some (.ref p), some (.str first), some (.str second), some (.bl star)] ∧ Cz a g F H F' H' (B + 1 + (12 * i + 2 * j) + 1) ∧ F' p = none ∧ F' fl = some (.lst (folk.map V.str)) ∧
          F' l = some (.lst (ys.map V.str)) ∧ F' l2 = some (.lst (zs.map V.str)) ∧ H' p = some (.lst (bs.map fun t => V.ref t.1)) ∧ BarsA F' bs) ?_ ?_
        · walk_at "zz"
          refine z_ite (fun e3 => ?_) (fun e3 => ?_)
          · obtain ⟨x0, h0⟩ : ∃ x, folk[0]? = some x := by
              cases folk with
              | nil => cases fin
              | cons x l => exact ⟨x, rfl⟩
            walk_at "zz"
            refine z_ixL (i := 0) (Z6.sub.sql hfl6) (atI_nat (j := 0) (by rw [List.getElem?_map, h0]; rfl)) ?_
            walk_at "zz"
            refine ⟨sz (by show 2 ≤ 100000; decide), fun t ht => ?_⟩
            have Z7 := Z6.lay ht (.tup [.str first, .str second])
            have m7 := Nx.lay (M := No) (o := .tup [.str first, .str second]) Z6.sub ht
            have fp7 : (upd F6 t (.tup [.str first, .str second])) p = none := by rw [upd_ne (ne_of_none h6' ht)]; exact fp6
            have h7 := upd_keep (o := .tup [.str first, .str second]) h6' ht
            have ht7 : (upd F6 t (.tup [.str first, .str second])) t = some (.tup ([first, second].map V.str)) := upd_same
            generalize upd F6 t (.tup [.str first, .str second]) = F7 at Z7 m7 fp7 ht7
            generalize upd H6 t (.tup [.str first, .str second]) = H7 at Z7 m7 h7 ⊢
            refine z_inT (Z7.sub.sqt ht7) ?_
            refine ⟨_, rfl, z_ite (fun _ => ?_) (fun _ => ?_)⟩
            · walk_at "zz"
              refine z_take Z7 (by omega) (by omega) (by omega) fun r H8 r0 r1 Z8 K8 => ?_
              walk_at "zz"
              exact ⟨F7, _, rfl, Z8, fp7, m7.mono _ _ hfl6, m7.mono _ _ hl6, m7.mono _ _ hl26, K8 _ _ h7 hp0, fun t ht => m7.mono _ _ (hb6 t ht)⟩
            · walk_at "zz"
              exact ⟨F7, _, rfl, Z7.mono (by omega), fp7, m7.mono _ _ hfl6, m7.mono _ _ hl6, m7.mono _ _ hl26, h7, fun t ht => m7.mono _ _ (hb6 t ht)⟩
          · walk_at "zz"
            exact ⟨F6, _, rfl, Z6.mono (by omega), fp6, hfl6, hl6, hl26, h6', hb6⟩
        · rintro σ' H7 ⟨F7, star, rfl, Z7, fp7, hfl7, hl7, hl27, h7, hb7⟩
          -- the pair is taken in, or not
          have no : ∀ H8, Cz a g F H F7 H8 (B + 1 + (12 * i + 2 * j) + 2) → H8 p = some (.lst (bs.map fun t => V.ref t.1)) → ∃ (F' : Hp) (bs : List (Addr × Str × Str)) (v5 v6 : Option V), [some (V.ref a), some (.ref fl), some (.int way), some (.ref p), some (.str first), some (.str second), some (.bl star)] = [some (V.ref a), some (.ref fl), some (.int way), some (.ref p), some (.str first), v5, v6] ∧ Cz a g F H F' H8 (B + 1 + (12 * i + 2 * ((j + 1 : Nat) : Int))) ∧ F' p = none ∧ F' fl = some (.lst (folk.map V.str)) ∧
            F' l = some (.lst (ys.map V.str)) ∧ F' l2 = some (.lst (zs.map V.str)) ∧ H8 p = some (.lst (bs.map fun t => V.ref t.1)) ∧ BarsA F' bs ∧ (2 * bs.length : Int) ≤ 12 * i + 2 * ((j + 1 : Nat) : Int) ∧ Fen folk bs fun q => q.1 ∈ ys.take i ∨ (q.1 = first ∧ q.2 ∈ zs.take (j + 1)) := fun H8 Z8 h8 =>
            ⟨F7, bs, _, _, rfl, Z8.mono (by omega), fp7, hfl7, hl7, hl27, h8, hb7, by omega, hc6.weak fun q h => h.imp (fun h => h) fun h => ⟨h.1, (mem_take_succ hs).mpr (.inl h.2)⟩⟩
          have yes : slt first second → ∀ H8, Cz a g F H F7 H8 (B + 1 + (12 * i + 2 * j) + 2) → H8 p = some (.lst (bs.map fun t => V.ref t.1)) → tBM K "list" rAppend (tVar 3) (tCons (tTup (tCons (tVar 4) (tCons (tVar 5) tNil))) tNil) [some (V.ref a), some (.ref fl), some (.int way), some (.ref p), some (.str first), some (.str second), some (.bl star)] H8 fun _ H9 =>
            ∃ (F' : Hp) (bs : List (Addr × Str × Str)) (v5 v6 : Option V), [some (V.ref a), some (.ref fl), some (.int way), some (.ref p), some (.str first), some (.str second), some (.bl star)] = [some (V.ref a), some (.ref fl), some (.int way), some (.ref p), some (.str first), v5, v6] ∧ Cz a g F H F' H9 (B + 1 + (12 * i + 2 * ((j + 1 : Nat) : Int))) ∧ F' p = none ∧ F' fl = some (.lst (folk.map V.str)) ∧
            F' l = some (.lst (ys.map V.str)) ∧ F' l2 = some (.lst (zs.map V.str)) ∧ H9 p = some (.lst (bs.map fun t => V.ref t.1)) ∧ BarsA F' bs ∧ (2 * bs.length : Int) ≤ 12 * i + 2 * ((j + 1 : Nat) : Int) ∧ Fen folk bs fun q => q.1 ∈ ys.take i ∨ (q.1 = first ∧ q.2 ∈ zs.take (j + 1)) := by
            intro lt H8 Z8 h8
            walk_at "zz"
            refine ⟨.inl ⟨rfl, _, SqL.of h8⟩, ?_⟩
            walk_at "zz"
            refine ⟨sz (by show 2 ≤ 100000; decide), fun t ht => ?_⟩
            have pt := ne_of_none h8 ht
            have Z9 := Z8.lay ht (.tup [.str first, .str second])
            have m9 := Nx.lay (M := No) (o := .tup [.str first, .str second]) Z8.sub ht
            have fp9 : (upd F7 t (.tup [.str first, .str second])) p = none := by rw [upd_ne pt]; exact fp7
            walk_at "zz"
            refine z_app (upd_keep h8 ht) (by rw [List.length_map]; omega) ?_
            refine ⟨_, bs ++ [(t, first, second)], _, _, rfl, (Z9.wr hp0 fp9 _).mono (by omega), fp9, m9.mono _ _ hfl7, m9.mono _ _ hl7, m9.mono _ _ hl27, by rw [upd_same]; simp, fun u hu => ?_, by simp; omega, hc6.add fin sin lt (fun nd z => ?_) (fun q h => h.imp (fun h => h) fun h => ⟨h.1, (mem_take_succ hs).mpr (.inl h.2)⟩) (.inr ⟨rfl, (mem_take_succ hs).mpr (.inr rfl)⟩)⟩
            · rcases List.mem_append.mp hu with hu | hu
              · exact m9.mono _ _ (hb7 u hu)
              · rw [List.mem_singleton.mp hu]; exact upd_same
            · rcases z with z | z
              · exact take_at (pm.nodup_iff.mpr nd) hf z
              · exact take_at (pm2.nodup_iff.mpr nd) hs z.2
          walk_at "zz"
          refine z_ite (fun lt => ?_) (fun _ => ?_)
          · walk_at "zz"
            refine z_iteB (fun _ => ?_) (fun _ => ?_)
            · refine z_yes ?_
              refine z_drop ?_
              exact yes lt H7 (Z7.mono (by omega)) h7
            · walk_at "zz"
              refine z_ite (fun _ => ?_) (fun _ => ?_)
              · walk_at "zz"
                refine z_take Z7 (by omega) (by omega) (by omega) fun r H8 r0 r1 Z8 K8 => ?_
                walk_at "zz"
                refine z_ite (fun _ => ?_) (fun _ => ?_)
                · refine z_drop ?_
                  exact yes lt H8 (Z8.mono (by omega)) (K8 _ _ h7 hp0)
                · walk_at "zz"
                  exact no H8 (Z8.mono (by omega)) (K8 _ _ h7 hp0)
              · walk_at "zz"
                exact no H7 (Z7.mono (by omega)) h7
          · walk_at "zz"
            exact no H7 (Z7.mono (by omega)) h7
      · rintro σ' H6 ⟨F6, bs, v5, v6, rfl, Z6, fp6, hfl6, hl6, hl26, h6', hb6, hn6, hc6⟩
        rw [List.length_map] at Z6 hn6
        walk_at "zz"
        exact ⟨F6, bs, _, _, _, rfl, Z6.mono (by omega), fp6, hfl6, hl6, h6', hb6, by omega, hc6.weak fun q h => (mem_take_succ hf).mpr (h.imp (fun h => h) fun h => h.1)⟩
    · rintro σ' H' ⟨F', bs, v4, v5, v6, rfl, Z4, fp4, hfl4, hl4, h4, hb4, hn4, hc4⟩
      rw [List.length_map] at Z4 hn4
      walk_at "zz"
      have Z5 := (Z4.frz hp0 h4 fp4).mono (B2 := B + 100) (by omega)
      exact k p bs _ _ Z5.N Z5.S hp0 upd_same (fun t ht => upd_keep (hb4 t ht) fp4) (by omega) hc4.has hc4.nd
end
end EV
end

section
set_option maxHeartbeats 2000000
local macro_rules | `(tactic| walk_at "za") => `(tactic| (first | exact Or.inl ⟨by omega, by omega⟩ | exact Or.inr ⟨by omega, by omega⟩ | exact ⟨by omega, by omega⟩ | exact ⟨by omega, by omega, by omega⟩ | omega))
local macro_rules | `(tactic| walk_at "z") => `(tactic| (first
  | with_reducible refine EV.z_seq ?_ | with_reducible refine EV.z_next ?_ | with_reducible refine EV.z_nx ?_ | with_reducible refine EV.z_rt ?_ | with_reducible refine EV.z_asg ?_ | with_reducible refine EV.z_name ?_
  | with_reducible refine EV.z_drop ?_ | with_reducible refine EV.z_ret ?_ | with_reducible refine EV.z_if ?_
  | ((with_reducible refine EV.z_var (v := ?vv) ?hv ?_); (case hv => exact rfl)) | with_reducible refine EV.z_c ?_ | with_reducible refine EV.z_op ?_ | with_reducible refine EV.z_un ?_ | with_reducible refine EV.z_I0 ?_ | with_reducible refine EV.z_U ?_ | ((with_reducible refine EV.z_I ?hc ?_); (case hc => walk_at "za"))
  | ((with_reducible refine EV.z_eq ?hv ?_); (case hv => exact rfl)) | ((with_reducible refine EV.z_ne ?hv ?_); (case hv => exact rfl))
  | with_reducible refine EV.z_test ?_ | with_reducible refine EV.z_bl ?_ | with_reducible refine EV.z_B ?_ | with_reducible refine EV.z_and ?_ | with_reducible refine EV.z_or ?_ | with_reducible refine EV.z_not ?_ | with_reducible refine EV.z_andV ?_
  | with_reducible refine EV.z_orV ?_ | with_reducible refine EV.z_notV ?_ | with_reducible refine EV.z_ifE ?_ | with_reducible refine EV.z_nil ?_ | with_reducible refine EV.z_cons ?_ | with_reducible refine EV.z_tup ?_ | with_reducible refine EV.z_lst ?_
  | with_reducible refine EV.z_cb ?_ | with_reducible refine EV.z_call ?_ | with_reducible refine EV.z_dget ?_ | with_reducible refine EV.z_dput ?_ | with_reducible refine EV.z_chain ?_ | with_reducible refine EV.z_then ?_ | with_reducible refine EV.z_fld ?_ | with_reducible refine EV.z_bm ?_
  | with_reducible refine EV.z_par ?_ | with_reducible refine EV.z_par3 ?_ | with_reducible refine EV.z_ex2 ?_ | with_reducible refine EV.z_ex3 ?_ | with_reducible refine EV.z_tyes ?_ | ((with_reducible refine EV.z_wipe ?hv ?_); (case hv => exact rfl))
  | with_reducible refine EV.z_lc ?_ | with_reducible refine EV.z_ltS ?_ | with_reducible refine EV.z_disp ?_ | with_reducible refine EV.z_pc ?_ | with_reducible refine EV.z_pn ?_ | with_reducible refine EV.z_m1 ?_ | with_reducible refine EV.z_isS ?_ | with_reducible refine EV.z_sl ?_ | with_reducible refine EV.z_np ?_ | with_reducible refine EV.z_pt ?_ | with_reducible refine EV.z_exI ?_ | with_reducible refine EV.z_is ?_ | with_reducible refine EV.z_istr ?_ | with_reducible refine EV.z_no ?_ | with_reducible refine EV.z_yes ?_ | with_reducible refine EV.z_for ?_ | with_reducible refine EV.z_il ?_ | with_reducible refine EV.z_it ?_ | with_reducible refine EV.z_r1 ?_ | with_reducible refine EV.z_ik ?_ | with_reducible refine EV.z_din ?_ | with_reducible refine EV.z_dnin ?_ | with_reducible refine EV.z_dsd ?_ | with_reducible refine EV.z_gs ?_ | with_reducible refine EV.z_gc ?_ | with_reducible refine EV.z_gn ?_ | with_reducible refine EV.z_turn ?_))
local macro_rules | `(tactic| walk_at "zz") => `(tactic| repeat walk_at "z")
namespace EV
open PySem PySem.Spec PyProof.Rows L2
abbrev s_held : Stmt := top 32
abbrev N_held : List Str := ["state", "folk", "sheets", "way", "held", "at", "sheet", "core", "person", "some", "own", "ahead"]
abbrev P_held : List Str := ["state", "folk", "sheets"]
theorem sc_held : FnScope N_held P_held (defScope s_held) := ⟨rfl, rfl, rfl, by decide +kernel, rfl, by decide +kernel, by decide +kernel⟩

/-! ### who holds what -/
abbrev Hld := List (Str × Addr × List Str)
def heldK (L : Hld) : List (Key × V) := L.map fun t => (key t.1, V.ref t.2.1)
def HeldA (F : Hp) (L : Hld) : Prop := ∀ t ∈ L, F t.2.1 = some (.lst (t.2.2.map V.str))
theorem held_len (L : Hld) : (heldK L).length = L.length := List.length_map _
theorem held_none {L : Hld} {x : Str} (h : x ∉ L.map (·.1)) : valV (heldK L) (key x) = none := by
  induction L with
  | nil => rfl
  | cons t L ih =>
    rw [heldK, List.map_cons, valV_neg]
    · exact ih fun z => h (List.mem_cons_of_mem _ z)
    · intro e; exact h (by rw [List.map_cons, ← Sum.inr.inj e]; exact List.mem_cons_self)
theorem held_val {L : Hld} {t : Str × Addr × List Str} (nd : (L.map (·.1)).Nodup) (h : t ∈ L) : valV (heldK L) (key t.1) = some (.ref t.2.1) := by
  induction L with
  | nil => cases h
  | cons u L ih =>
    rw [List.map_cons, List.nodup_cons] at nd
    rcases List.mem_cons.mp h with rfl | h
    · rw [heldK, List.map_cons, valV_pos rfl]
    · rw [heldK, List.map_cons, valV_neg]
      · exact ih nd.2 h
      · intro e; exact nd.1 (by rw [Sum.inr.inj e]; exact List.mem_map_of_mem h)
theorem held_put {L : Hld} {x : Str} {l : Addr} {ps : List Str} (h : x ∉ L.map (·.1)) : putK (heldK L) (key x) (.ref l) = heldK (L ++ [(x, l, ps)]) := by
  rw [putK_new _ (held_none h), heldK, heldK, List.map_append]; rfl
theorem held_at {L : Hld} {folk : List Str} {n : Nat} {x : Str} (e : L.map (·.1) = folk.take n) (hx : x ∈ folk.take n) : ∃ t ∈ L, t.1 = x := by
  rw [← e] at hx
  obtain ⟨t, ht, rfl⟩ := List.mem_map.mp hx
  exact ⟨t, ht, rfl⟩
/-- what is held is of the sheets, each once -/
def Ok (sheets ps : List Str) : Prop := ps.Nodup ∧ ∀ x ∈ ps, x ∈ sheets
theorem ok_sub {sheets ps : List Str} (nd : sheets.Nodup) (h : ps.Sublist sheets) : Ok sheets ps := ⟨nd.sublist h, fun _ hx => h.subset hx⟩
theorem ok_nil {sheets : List Str} : Ok sheets [] := ⟨List.nodup_nil, fun x h => by cases h⟩
theorem Ok.len {sheets ps : List Str} (h : Ok sheets ps) : ps.length ≤ sheets.length := nodup_sub ps sheets h.1 h.2
theorem ok_cat {sheets ps qs : List Str} (h : Ok sheets ps) (h2 : Ok sheets qs) (no : ∀ x ∈ qs, x ∉ ps) : Ok sheets (ps ++ qs) :=
  ⟨List.nodup_append.mpr ⟨h.1, h2.1, fun x hx y hy e => no y hy (e ▸ hx)⟩, fun x hx => (List.mem_append.mp hx).elim (h.2 x) (h2.2 x)⟩
theorem cut_to (xs : List Str) (k : Nat) : cutV (xs.map V.str) none (some (k : Int)) = (xs.take k).map V.str := by
  unfold cutV
  rw [HT.sIx_none, HT.sIx_nat, List.drop_zero, List.length_map, Nat.sub_zero, List.map_take]
  rw [List.take_eq_take_iff, List.length_map]
  omega
theorem sub_step {α : Type} {l ps : List α} {i : Nat} {x : α} (h : l[i]? = some x) (s : ps.Sublist (l.take i)) : (ps ++ [x]).Sublist (l.take (i + 1)) := by
  rw [List.take_succ, h]; exact List.Sublist.append s (List.Sublist.refl _)
theorem sub_skip {α : Type} {l ps : List α} {i : Nat} (s : ps.Sublist (l.take i)) : ps.Sublist (l.take (i + 1)) :=
  s.trans (List.take_sublist_take_left (by omega))
def spHeld : Sp := fun vs H Q _ => ∃ (F : Hp) (a g fl sh : Addr) (folk sheets : List Str) (B : Int), vs = [.ref a, .ref fl, .ref sh] ∧ Sub F H ∧ Sta F H a g B ∧ B + 100 < 1000000000 ∧ F fl = some (.lst (folk.map V.str)) ∧ F sh = some (.lst (sheets.map V.str)) ∧ folk.Nodup ∧ folk.length ≤ 6 ∧
  sheets.Nodup ∧ sheets.length ≤ 12 ∧ (∀ x ∈ sheets, PyData.strOk x = true) ∧
  ∀ (p : Addr) (L : Hld) F' H', Nx (MS a g) F H F' H' → Sta F' H' a g (B + 100) → H p = none → F' p = none → H' p = some (.dK (heldK L)) → HeldA F' L → L.map (·.1) = folk → (∀ t ∈ L, Ok sheets t.2.2) → Q (.ref p) H'
section
variable {P : Program} {w : World} {K : PySem.W.Frag} {mg : Str → Option Value} {base : Heap}
theorem ok_held (T : Txt mg) (c_take : C8.Cal P w K mg base 2 "_law_take" spTake []) {f fd} (D : C8.Def K mg "_law_held" s_held f fd) (b : Binds K fd P_held []) : C8.Cal P w K mg base 3 "_law_held" spHeld [] := by
  refine C8.cal0 D b .nil sc_held (fun vs H Q E h => ?_) (fun cdv A outer s H vs Q E hr h => ?_)
  · obtain ⟨F, a, g, fl, sh, folk, sheets, B, rfl, _⟩ := h
    rfl
  · obtain ⟨F, a, g, fl, sh, folk, sheets, B, rfl, sF, S, hB, hfl, hsh, fnd, f6, snd, s12, sok, k⟩ := h
    have hu := hu_of hr
    refine ⟨_, (pss_cons (ps_par3 (i := 3) (j := 4) (l := 5) rfl sc_held.nd rfl rfl rfl (by decide) (by decide) (by decide) rfl rfl rfl (pa_cons (C8.pe_c c_take hr (by decide) rfl (pa_cons (pv 0) (pa_cons pe_int pa_nil))) (pa_cons pe_dnewK (pa_cons pe_int pa_nil))) rfl)
  (pss_cons (ps_setLc (i := 7) (own := [("sheet", 6)]) rfl sc_held.nd rfl rfl (sw_true rfl rfl rfl (by decide +kernel)) (k_pil K (pv 2)) (blkOk_by (N := N_held) (sc := defScope s_held) (by decide +kernel)) (fun _ _ _ _ _ => (pg_name (i := 6) sc_held.nd rfl (Or.inl rfl))) (fun _ _ _ _ _ => (pts_one (pt_cmpR op_eq (C8.pe_c c_take hr (by decide) rfl (pa_cons (pv 0) (pa_cons pe_int pa_nil))) pe_int (nomark _)))) (fun _ _ _ _ _ => (pv 6)))
  (pss_cons (ps_for PassesOwn.never rfl (k_pil K (pv 1)) (pg_name (i := 8) sc_held.nd rfl (Or.inl rfl))
    (pss_cons (ps_setLc (i := 9) (own := [("sheet", 6)]) rfl sc_held.nd rfl rfl (sw_true rfl rfl rfl (by decide +kernel)) (k_pil K (pv 2)) (blkOk_by (N := N_held) (sc := defScope s_held) (by decide +kernel)) (fun _ _ _ _ _ => (pg_name (i := 6) sc_held.nd rfl (Or.inl rfl))) (fun _ _ _ _ _ => (pts_one (pt_cmpR op_eq (C8.pe_c c_take hr (by decide) rfl (pa_cons (pv 0) (pa_cons pe_int pa_nil))) pe_int (nomark _)))) (fun _ _ _ _ _ => (pv 6)))
  (C8.pss_cut (ps_if (PW.pt (pw_and (pt_cmpR op_eq (pv 3) pe_int (nomark _)) (pw_and1 (pt_cmpR (k_neD K hr.units) (pv 2) (pe_lst pa_nil) (nomark _)))))
    (pss_cons (ps_set (i := 10) sc_held.nd rfl (Or.inl rfl) (pe_ix (k_ixL K) (pv 2) (pe_op op_mod (pv 5) (pe_callB (k_len K) rfl T.b_len PySem.boot_len (pa_cons (pv 2) pa_nil))) (fun _ _ => rfl)))
  (pss_one (ps_set (i := 9) sc_held.nd rfl (Or.inl rfl) (pe_op op_cat (pv 7) (pe_op op_rep (pe_lst (pa_cons (pv 10) pa_nil)) (pe_callTy call_int1 rfl T.b_int (by decide +kernel) (pa_cons (pe_cmpR (k_notIn K) (pv 10) (pv 7) rfl) pa_nil)))))))
    pss_nil)
  (C8.pss_cut (ps_if (PW.pt (pw_and (pt_cmpR op_eq (pv 3) pe_int (nomark _)) (pw_and1 (pt_cmpR op_gt (pv 5) pe_int (nomark _)))))
    (pss_one (ps_set (i := 9) sc_held.nd rfl (Or.inl rfl) (pe_callTy (k_listOf K) rfl T.b_list (by decide +kernel) (pa_cons (pe_dget hu (pv 4) (pe_ix (k_ixL K) (pv 1) (pe_op op_mod (pv 5) pe_int) (fun _ _ => rfl)) (fun _ _ => rfl)) pa_nil))))
    pss_nil)
  (C8.pss_cut (ps_if (PW.pt (pw_and (pt_cmpR op_eq (pv 3) pe_int (nomark _)) (pw_and1 (pt_cmpR op_gt (pv 5) pe_int (nomark _)))))
    (pss_cons (ps_set (i := 11) sc_held.nd rfl (Or.inr rfl) (pe_dget hu (pv 4) (pe_ix (k_ixL K) (pv 1) (pe_op op_sub (pv 5) pe_int) (fun _ _ => rfl)) (fun _ _ => rfl)))
  (pss_one (ps_set (i := 9) sc_held.nd rfl (Or.inl rfl) (pe_op op_cat (pv 11) (pe_slice (k_slL K) (pe_lc (own := [("sheet", 6)]) rfl sc_held.nd (k_pil K (pv 2)) (blkOk_by (N := N_held) (sc := defScope s_held) (by decide +kernel)) (fun _ _ _ _ _ => (pg_name (i := 6) sc_held.nd rfl (Or.inl rfl))) (fun _ _ _ _ _ => (pts_one (pt_cmpR (k_notIn K) (pv 6) (pv 11) rfl))) (fun _ _ _ _ _ => (pv 6))) po_none (po_some pe_int))))))
    pss_nil)
  (pss_cons (ps_dput hu (pv 4) (pv 8) (pv 9) rfl)
  (pss_one (ps_set (i := 5) sc_held.nd rfl (Or.inl rfl) (pe_op op_add (pv 5) pe_int)))))))))
  (pss_one (ps_ret (pv 4)))))), ?_⟩
    have Z := Cz.start sF S
    walk_at "zz"
    refine z_take Z (by omega) (by omega) (by omega) fun way H1 w0 w1 Z1 K1 => ?_
    walk_at "zz"
    refine fun p hp => ?_
    have hp0 := Z1.old hp
    have Z2 := Z1.mak hp (.dK [])
    have fp : F p = none := Z1.sub.none hp
    have h2 : (upd H1 p (.dK [])) p = some (.dK []) := upd_same
    generalize upd H1 p (.dK []) = H2 at Z2 h2 ⊢
    walk_at "zz"
    refine ⟨sh, rfl, ⟨_, Z2.sub.sql hsh⟩, fun c hc => ?_⟩
    have hc0 := Z2.old hc
    have fc : F c = none := Z2.sub.none hc
    have cp : p ≠ c := ne_of_none h2 hc
    refine lc_it (walk_list (xs := sheets.map V.str)) (fun i H' => ∃ ps : List Str, Cz a g F H F H' (B + 1 + i) ∧ H' c = some (.lst (ps.map V.str)) ∧ H' p = some (.dK []) ∧ ps.Sublist (sheets.take i))
      ⟨[], (Z2.mak hc _).mono (by omega), upd_same, by rw [upd_ne cp]; exact h2, List.nil_sublist _⟩ (fun i H' _ h => by obtain ⟨ps, h, _⟩ := h; exact h.sub.sql hsh) ?_ ?_
    · rintro i x H3 H4 hi ⟨ps, Z3, hc3, hp3, s3⟩ ⟨rfl, hx⟩
      obtain ⟨n, hn, rfl⟩ := at_str hx
      rw [List.length_map] at hi
      walk_at "zz"
      refine z_take Z3 (by omega) (by omega) (by omega) fun r H4 r0 r1 Z4 K4 => ?_
      walk_at "zz"
      refine z_ite (fun _ => ?_) (fun _ => ?_)
      · walk_at "zz"
        have l3 := s3.length_le
        rw [List.length_take] at l3
        refine ⟨_, K4 _ _ hc3 hc0, szl (by rw [List.length_map]; omega), ps ++ [n], (Z4.wr hc0 fc _).mono (by omega), by rw [upd_same]; simp, by rw [upd_ne cp]; exact K4 _ _ hp3 hp0, sub_step hn s3⟩
      · exact ⟨ps, Z4.mono (by omega), K4 _ _ hc3 hc0, K4 _ _ hp3 hp0, sub_skip s3⟩
    · rintro H3 ⟨core, Z3, hc3, hp3, s3⟩
      rw [List.length_map] at Z3 s3
      rw [List.take_length] at s3
      have cok := ok_sub snd s3
      have Z4 := (Z3.frz hc0 hc3 fc).mono (show B + 1 + (sheets.length : Int) ≤ B + 13 by omega)
      have gc : (upd F c (.lst (core.map V.str))) c = some (.lst (core.map V.str)) := upd_same
      have gfl : (upd F c (.lst (core.map V.str))) fl = some (.lst (folk.map V.str)) := upd_keep hfl fc
      have gsh : (upd F c (.lst (core.map V.str))) sh = some (.lst (sheets.map V.str)) := upd_keep hsh fc
      have gp : (upd F c (.lst (core.map V.str))) p = none := by rw [upd_ne cp]; exact fp
      generalize upd F c (.lst (core.map V.str)) = F1 at Z4 gc gfl gsh gp
      walk_at "zz"
      refine z_loopL (xs := folk.map V.str) (Z4.sub.sql gfl) (fun i σ' H' => ∃ (F' : Hp) (L : Hld) (v6 v8 v9 v10 v11 : Option V), σ' = [some (.ref a), some (.ref fl), some (.ref sh), some (.int way), some (.ref p), some (.int i), v6, some (.ref c), v8, v9, v10, v11] ∧
        Cz a g F H F' H' (B + 13 + 12 * i) ∧ Sub F1 F' ∧ F' p = none ∧ H' p = some (.dK (heldK L)) ∧ HeldA F' L ∧ L.map (·.1) = folk.take i ∧ ∀ t ∈ L, Ok sheets t.2.2)
        ⟨F1, [], none, none, none, none, none, rfl, Z4.mono (by omega), fun _ _ e => e, gp, hp3, fun t ht => (by cases ht), rfl, fun t ht => (by cases ht)⟩ (fun i σ' H' _ ⟨F', L, _, _, _, _, _, _, Z, s, _⟩ => Z.sub.sql (s _ _ gfl)) ?_ ?_
      · rintro i x σ' H4 hi ⟨F4, L, v6, v8, v9, v10, v11, rfl, Z5, s5, fp5, hp5, hA5, hL5, ok5⟩
        obtain ⟨person, hper, rfl⟩ := at_str hi
        have hif : i < folk.length := (List.getElem?_eq_some_iff.mp hper).1
        have hLl : L.length = i := by
          have := congrArg List.length hL5
          rw [List.length_map, List.length_take] at this
          omega
        have pnew : person ∉ L.map (·.1) := by
          rw [hL5]
          intro z
          obtain ⟨j, hj, ej⟩ := List.getElem_of_mem z
          rw [List.length_take] at hj
          rw [List.getElem_take] at ej
          have e2 := (List.getElem?_eq_some_iff.mp hper).2
          have := (List.getElem_inj fnd).mp (ej.trans e2.symm)
          omega
        have und : (L.map (·.1)).Nodup := by rw [hL5]; exact fnd.sublist (List.take_sublist _ _)
        -- what is found of who came ahead
        have ahead : ∀ j : Nat, j < i → ∃ x t, folk[j]? = some x ∧ t ∈ L ∧ t.1 = x := by
          intro j hj
          have hjf : j < folk.length := by omega
          obtain ⟨t, ht, e⟩ := held_at (x := folk[j]) hL5 (by rw [List.mem_take_iff_getElem]; exact ⟨j, by omega, rfl⟩)
          exact ⟨_, t, List.getElem?_eq_getElem hjf, ht, e⟩
        walk_at "zz"
        refine ⟨sh, rfl, ⟨_, Z5.sub.sql (s5 _ _ gsh)⟩, fun e he => ?_⟩
        have he0 := Z5.old he
        have fe : F4 e = none := Z5.sub.none he
        have ep : p ≠ e := ne_of_none hp5 he
        refine lc_it (walk_list (xs := sheets.map V.str)) (fun j H' => ∃ ps : List Str, Cz a g F H F4 H' (B + 13 + 12 * i + j) ∧ H' e = some (.lst (ps.map V.str)) ∧ H' p = some (.dK (heldK L)) ∧ ps.Sublist (sheets.take j))
          ⟨[], (Z5.mak he _).mono (by omega), upd_same, by rw [upd_ne ep]; exact hp5, List.nil_sublist _⟩ (fun i H' _ h => by obtain ⟨ps, h, _⟩ := h; exact h.sub.sql (s5 _ _ gsh)) ?_ ?_
        · rintro j x H5 H6 hj ⟨ps, Z6, he6, hp6, s6⟩ ⟨rfl, hx⟩
          obtain ⟨n, hn, rfl⟩ := at_str hx
          rw [List.length_map] at hj
          walk_at "zz"
          refine z_take Z6 (by omega) (by omega) (by omega) fun r H7 r0 r1 Z7 K7 => ?_
          walk_at "zz"
          refine z_ite (fun _ => ?_) (fun _ => ?_)
          · walk_at "zz"
            have l3 := s6.length_le
            rw [List.length_take] at l3
            refine ⟨_, K7 _ _ he6 he0, szl (by rw [List.length_map]; omega), ps ++ [n], (Z7.wr he0 fe _).mono (by omega), by rw [upd_same]; simp, by rw [upd_ne ep]; exact K7 _ _ hp6 hp0, sub_step hn s6⟩
          · exact ⟨ps, Z7.mono (by omega), K7 _ _ he6 he0, K7 _ _ hp6 hp0, sub_skip s6⟩
        · rintro H5 ⟨so, Z6, he6, hp6, s6⟩
          rw [List.length_map] at Z6 s6
          rw [List.take_length] at s6
          have sook := ok_sub snd s6
          have Z7 := (Z6.frz he0 he6 fe).mono (show B + 13 + 12 * (i : Int) + (sheets.length : Int) ≤ B + 13 + 12 * i + 12 by omega)
          have ge : (upd F4 e (.lst (so.map V.str))) e = some (.lst (so.map V.str)) := upd_same
          have gp7 : (upd F4 e (.lst (so.map V.str))) p = none := by rw [upd_ne ep]; exact fp5
          have s7 : Sub F4 (upd F4 e (.lst (so.map V.str))) := fun x o h => upd_keep h fe
          have hA7 : HeldA (upd F4 e (.lst (so.map V.str))) L := fun t ht => s7 _ _ (hA5 t ht)
          replace s7 : Sub F1 (upd F4 e (.lst (so.map V.str))) := fun x o h => s7 _ _ (s5 _ _ h)
          generalize upd F4 e (.lst (so.map V.str)) = F7 at Z7 ge gp7 s7 hA7
          walk_at "zz"
          -- between the ifs
          let Mid : L2.St → Hp → Prop := fun σ' H' => ∃ (F' : Hp) (r : Addr) (ps : List Str) (v10 v11 : Option V), σ' = [some (.ref a), some (.ref fl), some (.ref sh), some (.int way), some (.ref p), some (.int i), v6, some (.ref c), some (.str person), some (.ref r), v10, v11] ∧
            Cz a g F H F' H' (B + 13 + 12 * i + 12) ∧ Sub F1 F' ∧ F' p = none ∧ H' p = some (.dK (heldK L)) ∧ HeldA F' L ∧ F' r = some (.lst (ps.map V.str)) ∧ Ok sheets ps
          refine z_cut Mid ?_ ?_
          · have stay : ∃ (F' : Hp) (r : Addr) (ps : List Str) (v10' v11' : Option V), [some (V.ref a), some (.ref fl), some (.ref sh), some (.int way), some (.ref p), some (.int i), v6, some (.ref c), some (.str person), some (.ref e), v10, v11] = [some (.ref a), some (.ref fl), some (.ref sh), some (.int way), some (.ref p), some (.int i), v6, some (.ref c), some (.str person), some (.ref r), v10', v11'] ∧
              Cz a g F H F' H5 (B + 13 + 12 * i + 12) ∧ Sub F1 F' ∧ F' p = none ∧ H5 p = some (.dK (heldK L)) ∧ HeldA F' L ∧ F' r = some (.lst (ps.map V.str)) ∧ Ok sheets ps := ⟨F7, e, so, _, _, rfl, Z7, s7, gp7, hp6, hA7, ge, sook⟩
            walk_at "zz"
            refine z_ite (fun _ => ?_) (fun _ => ?_)
            · walk_at "zz"
              refine ⟨sz (by decide), fun q hq => ?_⟩
              have Z8 := Z7.mak hq (.lst [])
              have hp8 := upd_keep (o := .lst []) hp6 hq
              have hq8 : (upd H5 q (.lst [])) q = some (.lst []) := upd_same
              generalize upd H5 q (.lst []) = H8 at Z8 hp8 hq8 ⊢
              refine z_neS (xs := sheets) (ys := []) sok (fun x h => by cases h) (Z8.sub.sql (s7 _ _ gsh)) (SqL.of hq8) ?_
              walk_at "zz"
              refine z_iteN (fun ne => ?_) (fun _ => ?_)
              · have spos := List.length_pos_iff.mpr ne
                walk_at "zz"
                refine z_lenL (Z8.sub.sql (s7 _ _ gsh)) ?_
                rw [List.length_map]
                walk_at "zz"
                have e0 := Int.emod_nonneg (i : Int) (show (sheets.length : Int) ≠ 0 by omega)
                have e1 := Int.emod_lt_of_pos (i : Int) (show (0 : Int) < sheets.length by omega)
                obtain ⟨v, hv, hm⟩ := at_of_mem (xs := sheets.map V.str) e0 (by rw [List.length_map]; exact e1)
                obtain ⟨own, hown, rfl⟩ := List.mem_map.mp hm
                refine z_ixL (Z8.sub.sql (s7 _ _ gsh)) hv ?_
                walk_at "zz"
                refine ⟨sz (by show 1 ≤ 100000; decide), fun q2 hq2 => ?_⟩
                have Z9 := Z8.mak hq2 (.lst [.str own])
                have hp9 := upd_keep (o := .lst [.str own]) hp8 hq2
                have hq9 : (upd H8 q2 (.lst [.str own])) q2 = some (.lst [.str own]) := upd_same
                generalize upd H8 q2 (.lst [.str own]) = H9 at Z9 hp9 hq9 ⊢
                walk_at "zz"
                refine z_ninS (Z9.sub.sql (s7 _ _ gc)) ?_
                walk_at "zz"
                refine .inr ⟨_, rfl, ?_⟩
                have two : ∃ (n : Nat) (qs : List Str), (if (!decide (own ∈ core)) = true then (1 : Int) else 0) = (n : Int) ∧ n ≤ 1 ∧ (List.replicate n [V.str own]).flatten = qs.map V.str ∧ Ok sheets (core ++ qs) ∧ qs.length ≤ 1 := by
                  by_cases ho : own ∈ core
                  · exact ⟨0, [], by simp [ho], by omega, rfl, by rw [List.append_nil]; exact cok, by simp⟩
                  · exact ⟨1, [own], by simp [ho], by omega, rfl, ok_cat cok ⟨by simp, fun x hx => by rw [List.mem_singleton.mp hx]; exact hown⟩ fun x hx => by rw [List.mem_singleton.mp hx]; exact ho, by simp⟩
                obtain ⟨n, qs, en, n1, eq, okq, lq⟩ := two
                rw [en]
                refine ⟨q2, n, _, rfl, rfl, hq9, by omega, by omega, sz (by show 1 * (n : Int).toNat ≤ _; omega), fun q3 hq3 => ?_⟩
                rw [Int.toNat_natCast, eq]
                have Z10 := Z9.mak hq3 (.lst (qs.map V.str))
                have hp10 := upd_keep (o := .lst (qs.map V.str)) hp9 hq3
                have hq10 : (upd H9 q3 (.lst (qs.map V.str))) q3 = some (.lst (qs.map V.str)) := upd_same
                generalize upd H9 q3 (.lst (qs.map V.str)) = H10 at Z10 hp10 hq10 ⊢
                have cl := cok.len
                refine z_cat (Z10.sub _ _ (s7 _ _ gc)) hq10 (by rw [List.length_map, List.length_map]; omega) fun q4 hq4 => ?_
                walk_at "zz"
                rw [← List.map_append]
                have f4 := Z10.sub.none hq4
                refine ⟨_, q4, core ++ qs, _, _, rfl, Z10.lay hq4 _, fun x o h => upd_keep (s7 _ _ h) f4, ?_, upd_keep hp10 hq4, fun t ht => upd_keep (hA7 t ht) f4, upd_same, okq⟩
                rw [upd_ne (ne_of_none hp10 hq4)]; exact gp7
              · walk_at "zz"
                exact ⟨F7, e, so, _, _, rfl, Z8, s7, gp7, hp8, hA7, ge, sook⟩
            · walk_at "zz"
              exact stay
          · rintro σ' H6 ⟨F6, r6, ps6, u10, u11, rfl, Z8, s8, gp8, hp8, hA8, hr8, ok8⟩
            refine z_cut Mid ?_ ?_
            · have stay : ∃ (F' : Hp) (r : Addr) (ps : List Str) (v10' v11' : Option V), [some (V.ref a), some (.ref fl), some (.ref sh), some (.int way), some (.ref p), some (.int i), v6, some (.ref c), some (.str person), some (.ref r6), u10, u11] = [some (.ref a), some (.ref fl), some (.ref sh), some (.int way), some (.ref p), some (.int i), v6, some (.ref c), some (.str person), some (.ref r), v10', v11'] ∧
                Cz a g F H F' H6 (B + 13 + 12 * i + 12) ∧ Sub F1 F' ∧ F' p = none ∧ H6 p = some (.dK (heldK L)) ∧ HeldA F' L ∧ F' r = some (.lst (ps.map V.str)) ∧ Ok sheets ps := ⟨F6, r6, ps6, _, _, rfl, Z8, s8, gp8, hp8, hA8, hr8, ok8⟩
              walk_at "zz"
              refine z_ite (fun _ => ?_) (fun _ => ?_)
              · walk_at "zz"
                refine z_ite (fun i1 => ?_) (fun _ => ?_)
                · walk_at "zz"
                  have e0 := Int.emod_nonneg (i : Int) (show (2 : Int) ≠ 0 by omega)
                  have e1 := Int.emod_lt_of_pos (i : Int) (show (0 : Int) < 2 by omega)
                  have ej : (((i : Int) % 2).toNat : Int) = (i : Int) % 2 := Int.toNat_of_nonneg e0
                  obtain ⟨x, t, hx, ht, rfl⟩ := ahead ((i : Int) % 2).toNat (by omega)
                  refine z_ixL (Z8.sub.sql (s8 _ _ gfl)) (by rw [← ej]; exact atI_nat (by rw [List.getElem?_map, hx]; rfl)) ?_
                  walk_at "zz"
                  refine z_dgetR (.inl hp8) (held_val und ht) ?_
                  walk_at "zz"
                  refine z_list (.inl (Z8.sub.sql (hA8 t ht))) fun q hq => ?_
                  walk_at "zz"
                  have f9 := Z8.sub.none hq
                  refine ⟨_, q, t.2.2, _, _, rfl, Z8.lay hq _, fun x o h => upd_keep (s8 _ _ h) f9, ?_, upd_keep hp8 hq, fun t ht => upd_keep (hA8 t ht) f9, upd_same, ok5 t ht⟩
                  rw [upd_ne (ne_of_none hp8 hq)]; exact gp8
                · walk_at "zz"
                  exact stay
              · walk_at "zz"
                exact stay
            · rintro σ' H7 ⟨F9, r9, ps9, u10, u11, rfl, Z9, s9, gp9, hp9, hA9, hr9, ok9⟩
              refine z_cut Mid ?_ ?_
              · have stay : ∃ (F' : Hp) (r : Addr) (ps : List Str) (v10' v11' : Option V), [some (V.ref a), some (.ref fl), some (.ref sh), some (.int way), some (.ref p), some (.int i), v6, some (.ref c), some (.str person), some (.ref r9), u10, u11] = [some (.ref a), some (.ref fl), some (.ref sh), some (.int way), some (.ref p), some (.int i), v6, some (.ref c), some (.str person), some (.ref r), v10', v11'] ∧
                  Cz a g F H F' H7 (B + 13 + 12 * i + 12) ∧ Sub F1 F' ∧ F' p = none ∧ H7 p = some (.dK (heldK L)) ∧ HeldA F' L ∧ F' r = some (.lst (ps.map V.str)) ∧ Ok sheets ps := ⟨F9, r9, ps9, _, _, rfl, Z9, s9, gp9, hp9, hA9, hr9, ok9⟩
                walk_at "zz"
                refine z_ite (fun _ => ?_) (fun _ => ?_)
                · walk_at "zz"
                  refine z_ite (fun i1 => ?_) (fun _ => ?_)
                  · walk_at "zz"
                    obtain ⟨x, t, hx, ht, rfl⟩ := ahead (i - 1) (by omega)
                    have ej : ((i - 1 : Nat) : Int) = (i : Int) - 1 := by omega
                    refine z_ixL (Z9.sub.sql (s9 _ _ gfl)) (by rw [← ej]; exact atI_nat (by rw [List.getElem?_map, hx]; rfl)) ?_
                    walk_at "zz"
                    refine z_dgetR (.inl hp9) (held_val und ht) ?_
                    walk_at "zz"
                    refine ⟨sh, rfl, ⟨_, Z9.sub.sql (s9 _ _ gsh)⟩, fun d hd => ?_⟩
                    have hd0 := Z9.old hd
                    have fd : F9 d = none := Z9.sub.none hd
                    have dp : p ≠ d := ne_of_none hp9 hd
                    refine lc_it (walk_list (xs := sheets.map V.str)) (fun j H' => ∃ ps : List Str, Cz a g F H F9 H' (B + 13 + 12 * i + 12) ∧ H' d = some (.lst (ps.map V.str)) ∧ H' p = some (.dK (heldK L)) ∧ ps.Sublist (sheets.take j) ∧ ∀ x ∈ ps, x ∉ t.2.2)
                      ⟨[], Z9.mak hd _, upd_same, by rw [upd_ne dp]; exact hp9, List.nil_sublist _, fun x h => by cases h⟩ (fun i H' _ h => by obtain ⟨ps, h, _⟩ := h; exact h.sub.sql (s9 _ _ gsh)) ?_ ?_
                    · rintro j x H8 H10 hj ⟨ps, Z10, hd10, hp10, s10, no10⟩ ⟨rfl, hx⟩
                      obtain ⟨n, hn, rfl⟩ := at_str hx
                      rw [List.length_map] at hj
                      walk_at "zz"
                      refine z_ninS (Z10.sub.sql (hA9 t ht)) ?_
                      walk_at "zz"
                      refine z_iteN (fun no => ?_) (fun _ => ?_)
                      · walk_at "zz"
                        have l3 := s10.length_le
                        rw [List.length_take] at l3
                        refine ⟨_, hd10, szl (by rw [List.length_map]; omega), ps ++ [n], Z10.wr hd0 fd _, by rw [upd_same]; simp, by rw [upd_ne dp]; exact hp10, sub_step hn s10, fun y hy => ?_⟩
                        rcases List.mem_append.mp hy with hy | hy
                        · exact no10 y hy
                        · rw [List.mem_singleton.mp hy]; exact no
                      · exact ⟨ps, Z10, hd10, hp10, sub_skip s10, no10⟩
                    · rintro H8 ⟨ps, Z10, hd10, hp10, s10, no10⟩
                      rw [List.length_map, List.take_length] at s10
                      walk_at "zz"
                      refine z_slL (SqL.of hd10) fun q hq => ?_
                      rw [show (1 : Int) = ((1 : Nat) : Int) from rfl, cut_to]
                      have Z11 := Z10.mak hq (.lst ((ps.take 1).map V.str))
                      have hp11 := upd_keep (o := .lst ((ps.take 1).map V.str)) hp10 hq
                      have hq11 : (upd H8 q (.lst ((ps.take 1).map V.str))) q = some (.lst ((ps.take 1).map V.str)) := upd_same
                      generalize upd H8 q (.lst ((ps.take 1).map V.str)) = H11 at Z11 hp11 hq11 ⊢
                      have tl := (ok5 t ht).len
                      refine z_cat (Z11.sub _ _ (hA9 t ht)) hq11 (by rw [List.length_map, List.length_map, List.length_take]; omega) fun q4 hq4 => ?_
                      walk_at "zz"
                      rw [← List.map_append]
                      have f4 := Z11.sub.none hq4
                      refine ⟨_, q4, t.2.2 ++ ps.take 1, _, _, rfl, Z11.lay hq4 _, fun x o h => upd_keep (s9 _ _ h) f4, ?_, upd_keep hp11 hq4, fun t ht => upd_keep (hA9 t ht) f4, upd_same, ok_cat (ok5 t ht) (ok_sub snd ((List.take_sublist _ _).trans s10)) fun x hx => no10 x (List.mem_of_mem_take hx)⟩
                      rw [upd_ne (ne_of_none hp11 hq4)]; exact gp9
                  · walk_at "zz"
                    exact stay
                · walk_at "zz"
                  exact stay
              · rintro σ' H8 ⟨F10, r10, ps10, w10, w11, rfl, Z10, s10, gp10, hp10, hA10, hr10, ok10⟩
                walk_at "zz"
                refine z_dputS hp10 (szl (by rw [held_len]; omega)) (held_put (ps := ps10) pnew) ?_
                walk_at "zz"
                refine ⟨F10, L ++ [(person, r10, ps10)], _, _, _, _, _, rfl, (Z10.wr hp0 gp10 _).mono (by omega), s10, gp10, upd_same, ?_, ?_, ?_⟩
                · intro t ht
                  rcases List.mem_append.mp ht with ht | ht
                  · exact hA10 t ht
                  · rw [List.mem_singleton.mp ht]; exact hr10
                · rw [List.map_append, hL5, List.take_succ, hper]; rfl
                · intro t ht
                  rcases List.mem_append.mp ht with ht | ht
                  · exact ok5 t ht
                  · rw [List.mem_singleton.mp ht]; exact ok10
      · rintro σ' H4 ⟨F4, L, v6, v8, v9, v10, v11, rfl, Z5, s5, fp5, hp5, hA5, hL5, ok5⟩
        rw [List.length_map] at Z5 hL5
        rw [List.take_length] at hL5
        walk_at "zz"
        have Z6 := Z5.mono (show B + 13 + 12 * (folk.length : Int) ≤ B + 100 by omega)
        exact k p L _ _ Z6.N Z6.S hp0 fp5 hp5 hA5 hL5 ok5
end
end EV
end

section
set_option maxHeartbeats 2000000
local macro_rules | `(tactic| walk_at "za") => `(tactic| (first | exact Or.inl ⟨by omega, by omega⟩ | exact Or.inr ⟨by omega, by omega⟩ | exact ⟨by omega, by omega⟩ | exact ⟨by omega, by omega, by omega⟩ | omega))
local macro_rules | `(tactic| walk_at "z") => `(tactic| (first
  | with_reducible refine EV.z_seq ?_ | with_reducible refine EV.z_next ?_ | with_reducible refine EV.z_nx ?_ | with_reducible refine EV.z_rt ?_ | with_reducible refine EV.z_asg ?_ | with_reducible refine EV.z_name ?_
  | with_reducible refine EV.z_drop ?_ | with_reducible refine EV.z_ret ?_ | with_reducible refine EV.z_if ?_
  | ((with_reducible refine EV.z_var (v := ?vv) ?hv ?_); (case hv => exact rfl)) | with_reducible refine EV.z_c ?_ | with_reducible refine EV.z_op ?_ | with_reducible refine EV.z_un ?_ | with_reducible refine EV.z_I0 ?_ | with_reducible refine EV.z_U ?_ | ((with_reducible refine EV.z_I ?hc ?_); (case hc => walk_at "za"))
  | ((with_reducible refine EV.z_eq ?hv ?_); (case hv => exact rfl)) | ((with_reducible refine EV.z_ne ?hv ?_); (case hv => exact rfl))
  | with_reducible refine EV.z_test ?_ | with_reducible refine EV.z_bl ?_ | with_reducible refine EV.z_B ?_ | with_reducible refine EV.z_and ?_ | with_reducible refine EV.z_or ?_ | with_reducible refine EV.z_not ?_ | with_reducible refine EV.z_andV ?_
  | with_reducible refine EV.z_orV ?_ | with_reducible refine EV.z_notV ?_ | with_reducible refine EV.z_ifE ?_ | with_reducible refine EV.z_nil ?_ | with_reducible refine EV.z_cons ?_ | with_reducible refine EV.z_tup ?_ | with_reducible refine EV.z_lst ?_
  | with_reducible refine EV.z_cb ?_ | with_reducible refine EV.z_call ?_ | with_reducible refine EV.z_dget ?_ | with_reducible refine EV.z_dput ?_ | with_reducible refine EV.z_chain ?_ | with_reducible refine EV.z_then ?_ | with_reducible refine EV.z_fld ?_ | with_reducible refine EV.z_bm ?_
  | with_reducible refine EV.z_par ?_ | with_reducible refine EV.z_par3 ?_ | with_reducible refine EV.z_ex2 ?_ | with_reducible refine EV.z_ex3 ?_ | with_reducible refine EV.z_tyes ?_ | ((with_reducible refine EV.z_wipe ?hv ?_); (case hv => exact rfl))
  | with_reducible refine EV.z_lc ?_ | with_reducible refine EV.z_ltS ?_ | with_reducible refine EV.z_disp ?_ | with_reducible refine EV.z_pc ?_ | with_reducible refine EV.z_pn ?_ | with_reducible refine EV.z_m1 ?_ | with_reducible refine EV.z_isS ?_ | with_reducible refine EV.z_sl ?_ | with_reducible refine EV.z_np ?_ | with_reducible refine EV.z_pt ?_ | with_reducible refine EV.z_exI ?_ | with_reducible refine EV.z_is ?_ | with_reducible refine EV.z_istr ?_ | with_reducible refine EV.z_no ?_ | with_reducible refine EV.z_yes ?_ | with_reducible refine EV.z_for ?_ | with_reducible refine EV.z_il ?_ | with_reducible refine EV.z_it ?_ | with_reducible refine EV.z_r1 ?_ | with_reducible refine EV.z_ik ?_ | with_reducible refine EV.z_din ?_ | with_reducible refine EV.z_dnin ?_ | with_reducible refine EV.z_dsd ?_ | with_reducible refine EV.z_gs ?_ | with_reducible refine EV.z_gc ?_ | with_reducible refine EV.z_gn ?_ | with_reducible refine EV.z_turn ?_))
local macro_rules | `(tactic| walk_at "zz") => `(tactic| repeat walk_at "z")
namespace EV
open PySem PySem.Spec PyProof.Rows L2
abbrev s_levelled : Stmt := top 34
abbrev N_levelled : List Str := ["state", "world", "sheets", "person", "top", "less", "sheet", "spare"]
abbrev P_levelled : List Str := ["state", "world", "sheets"]
theorem sc_levelled : FnScope N_levelled P_levelled (defScope s_levelled) := ⟨rfl, rfl, rfl, by decide +kernel, rfl, by decide +kernel, by decide +kernel⟩
/-! ### the world's dict, the leaves -/
def wK (hd lv br : Addr) : List (Key × V) := [(key "held", .ref hd), (key "leaves", .ref lv), (key "bars", .ref br)]
theorem w_held {hd lv br : Addr} : valV (wK hd lv br) (key "held") = some (.ref hd) := by rfl
theorem w_leaves {hd lv br : Addr} : valV (wK hd lv br) (key "leaves") = some (.ref lv) := by rfl
theorem w_bars {hd lv br : Addr} : valV (wK hd lv br) (key "bars") = some (.ref br) := by rfl
abbrev Lvs := List (Str × Int)
def lvK (W : Lvs) : List (Key × V) := W.map fun t => (key t.1, V.int t.2)
def lfn : Lvs → Str → Int
  | [], _ => 0
  | q :: W, x => if q.1 = x then q.2 else lfn W x
theorem lv_len (W : Lvs) : (lvK W).length = W.length := List.length_map _
theorem lv_none {W : Lvs} {x : Str} (h : x ∉ W.map (·.1)) : valV (lvK W) (key x) = none := by
  induction W with
  | nil => rfl
  | cons t W ih =>
    rw [lvK, List.map_cons, valV_neg]
    · exact ih fun z => h (List.mem_cons_of_mem _ z)
    · intro e; exact h (by rw [List.map_cons, ← Sum.inr.inj e]; exact List.mem_cons_self)
theorem lv_val {W : Lvs} {x : Str} (h : x ∈ W.map (·.1)) : valV (lvK W) (key x) = some (.int (lfn W x)) := by
  induction W with
  | nil => cases h
  | cons q W ih =>
    by_cases e : q.1 = x
    · rw [lvK, List.map_cons, valV_pos (by rw [e]), lfn, if_pos e]
    · rw [lvK, List.map_cons, valV_neg (fun z => e (Sum.inr.inj z)), lfn, if_neg e]
      refine ih ?_
      rcases List.mem_cons.mp h with h | h
      · exact absurd h.symm e
      · exact h
theorem lv_some (W : Lvs) (x : Str) : (valV (lvK W) (key x)).isSome = decide (x ∈ W.map (·.1)) := by
  by_cases h : x ∈ W.map (·.1)
  · rw [lv_val h, decide_eq_true h]; rfl
  · rw [lv_none h, decide_eq_false h]; rfl
theorem lv_put {W : Lvs} {x : Str} {n : Int} (h : x ∉ W.map (·.1)) : putK (lvK W) (key x) (.int n) = lvK (W ++ [(x, n)]) := by
  rw [putK_new _ (lv_none h), lvK, lvK, List.map_append]; rfl
theorem lfn_mem {W : Lvs} {q : Str × Int} (nd : (W.map (·.1)).Nodup) (h : q ∈ W) : lfn W q.1 = q.2 := by
  induction W with
  | nil => cases h
  | cons u W ih =>
    rw [List.map_cons, List.nodup_cons] at nd
    rcases List.mem_cons.mp h with rfl | h
    · rw [lfn, if_pos rfl]
    · rw [lfn, if_neg]
      · exact ih nd.2 h
      · intro e; exact nd.1 (by rw [e]; exact List.mem_map_of_mem h)
theorem held_set {L : Hld} {x : Str} {l : Addr} {ps : List Str} (h : x ∈ L.map (·.1)) : putK (heldK L) (key x) (.ref l) = heldK (L.map fun u => if u.1 = x then (u.1, l, ps) else u) := by
  have e : ((heldK L).any fun kv => decide (kv.1 = key x)) = true := by
    obtain ⟨t, ht, rfl⟩ := List.mem_map.mp h
    rw [List.any_eq_true]
    exact ⟨(key t.1, .ref t.2.1), List.mem_map_of_mem (f := fun t : Str × Addr × List Str => (key t.1, V.ref t.2.1)) ht, decide_eq_true rfl⟩
  rw [putK, if_pos e, heldK, heldK, List.map_map, List.map_map]
  refine List.map_congr_left fun t _ => ?_
  by_cases z : t.1 = x
  · show (if key t.1 = key x then _ else _) = _
    rw [if_pos (by rw [z])]
    show _ = (key (if t.1 = x then (t.1, l, ps) else t).1, V.ref (if t.1 = x then (t.1, l, ps) else t).2.1)
    rw [if_pos z]
  · show (if key t.1 = key x then _ else _) = _
    rw [if_neg (fun h => z (Sum.inr.inj h))]
    show _ = (key (if t.1 = x then (t.1, l, ps) else t).1, V.ref (if t.1 = x then (t.1, l, ps) else t).2.1)
    rw [if_neg z]
theorem held_keys (L : Hld) : ((heldK L).map fun kv => kV kv.1) = (L.map (·.1)).map V.str := by
  rw [heldK, List.map_map, List.map_map]; rfl
/-- the world is whole: people once, their pages once and with leaves, these of the sheets, each held -/
structure WOk (sheets : List Str) (L : Hld) (W : Lvs) : Prop where
  nd : (L.map (·.1)).Nodup
  ok : ∀ t ∈ L, t.2.2.Nodup ∧ ∀ x ∈ t.2.2, x ∈ W.map (·.1)
  wnd : (W.map (·.1)).Nodup
  wsh : ∀ q ∈ W, q.1 ∈ sheets ∧ 1 ≤ q.2 ∧ q.2 ≤ 9
  wh : ∀ q ∈ W, ∃ t ∈ L, q.1 ∈ t.2.2
section
variable {sheets : List Str} {L : Hld} {W : Lvs}
theorem WOk.wl (o : WOk sheets L W) : W.length ≤ sheets.length := by
  have := nodup_sub (W.map (·.1)) sheets o.wnd fun x hx => by
    obtain ⟨q, hq, rfl⟩ := List.mem_map.mp hx
    exact (o.wsh q hq).1
  rwa [List.length_map] at this
theorem WOk.pl (o : WOk sheets L W) {t} (h : t ∈ L) : t.2.2.length ≤ sheets.length := by
  have := nodup_sub t.2.2 (W.map (·.1)) (o.ok t h).1 (o.ok t h).2
  rw [List.length_map] at this
  exact Nat.le_trans this o.wl
theorem WOk.more (o : WOk sheets L W) {t} (ht : t ∈ L) {s : Str} {n : Int} (hs : s ∈ sheets) (no : s ∉ W.map (·.1)) (n1 : 1 ≤ n) (n9 : n ≤ 9) (l : Addr) :
    WOk sheets (L.map fun u => if u.1 = t.1 then (u.1, l, t.2.2 ++ [s]) else u) (W ++ [(s, n)]) ∧ (L.map fun u => if u.1 = t.1 then (u.1, l, t.2.2 ++ [s]) else u).map (·.1) = L.map (·.1) := by
  have e : (L.map fun u => if u.1 = t.1 then (u.1, l, t.2.2 ++ [s]) else u).map (·.1) = L.map (·.1) := by
    rw [List.map_map]
    refine List.map_congr_left fun u _ => ?_
    show (if u.1 = t.1 then (u.1, l, t.2.2 ++ [s]) else u).1 = u.1
    by_cases z : u.1 = t.1
    · rw [if_pos z]
    · rw [if_neg z]
  have inW : ∀ x, x ∈ W.map (·.1) → x ∈ (W ++ [(s, n)]).map (·.1) := fun x h => by rw [List.map_append]; exact List.mem_append_left _ h
  have sin : s ∈ (W ++ [(s, n)]).map (·.1) := by rw [List.map_append]; exact List.mem_append_right _ (by simp)
  refine ⟨⟨by rw [e]; exact o.nd, fun v hv => ?_, ?_, fun q hq => ?_, fun q hq => ?_⟩, e⟩
  · obtain ⟨u, hu, rfl⟩ := List.mem_map.mp hv
    by_cases z : u.1 = t.1
    · rw [if_pos z]
      refine ⟨List.nodup_append.mpr ⟨(o.ok t ht).1, by simp, fun x hx y hy e => ?_⟩, fun x hx => ?_⟩
      · rw [List.mem_singleton.mp hy] at e
        exact no ((o.ok t ht).2 s (e ▸ hx))
      · rcases List.mem_append.mp hx with hx | hx
        · exact inW x ((o.ok t ht).2 x hx)
        · rw [List.mem_singleton.mp hx]; exact sin
    · rw [if_neg z]
      exact ⟨(o.ok u hu).1, fun x hx => inW x ((o.ok u hu).2 x hx)⟩
  · rw [List.map_append]
    exact List.nodup_append.mpr ⟨o.wnd, by simp, fun x hx y hy e => no (by have e2 : y = s := List.mem_singleton.mp hy; rw [← e2, ← e]; exact hx)⟩
  · rcases List.mem_append.mp hq with hq | hq
    · exact o.wsh q hq
    · rw [List.mem_singleton.mp hq]; exact ⟨hs, n1, n9⟩
  · rcases List.mem_append.mp hq with hq | hq
    · obtain ⟨u, hu, hx⟩ := o.wh q hq
      by_cases z : u.1 = t.1
      · have : u = t := by
          have nd := o.nd
          obtain ⟨i, hi, rfl⟩ := List.getElem_of_mem hu
          obtain ⟨j, hj, rfl⟩ := List.getElem_of_mem ht
          have : i = j := (List.getElem_inj (xs := L.map (·.1)) (h₀ := by rw [List.length_map]; exact hi) (h₁ := by rw [List.length_map]; exact hj) nd).mp (by rw [List.getElem_map, List.getElem_map]; exact z)
          subst this; rfl
        subst this
        exact ⟨_, List.mem_map_of_mem hu, by rw [if_pos rfl]; exact List.mem_append_left _ hx⟩
      · exact ⟨_, List.mem_map_of_mem hu, by rw [if_neg z]; exact hx⟩
    · rw [List.mem_singleton.mp hq]
      exact ⟨_, List.mem_map_of_mem ht, by rw [if_pos rfl]; exact List.mem_append_right _ (by simp)⟩
end
theorem Sub.rd {F H : Hp} (s : Sub F H) {a : Addr} {u : HO} (h : F a = some u) : Rd H a u := .inl (s _ _ h)
/-! ### the heap without two things -/
def wo (H : Hp) (p q : Addr) : Hp := fun x => if x = p ∨ x = q then none else H x
section
variable {H F H' : Hp} {p q x a g : Addr} {o : HO} {B : Int}
theorem wo_l : wo H p q p = none := if_pos (.inl rfl)
theorem wo_r : wo H p q q = none := if_pos (.inr rfl)
theorem wo_ne (h1 : x ≠ p) (h2 : x ≠ q) : wo H p q x = H x := if_neg fun z => z.elim h1 h2
theorem wo_some (h : wo H p q x = some o) : H x = some o := by
  unfold wo at h
  split at h
  · cases h
  · exact h
theorem Cz.start2 (s : Sub F H) (S : Sta F H a g B) (fp : F p = none) (fq : F q = none) (pa : p ≠ a) (qa : q ≠ a) (pg : p ≠ g) (qg : q ≠ g) : Cz a g F (wo H p q) F H B := by
  obtain ⟨c, r, t, gs, cs, S0, _⟩ := id S
  refine ⟨⟨s, fun _ _ e => e, fun _ _ e => e, fun x o e _ => wo_some e, fun x h => ?_⟩, S, by rw [wo_ne pa.symm qa.symm]; exact some_ne S0.hd, by rw [wo_ne pg.symm qg.symm]; exact some_ne S0.hg⟩
  cases e : wo H p q x with
  | none => exact absurd e h
  | some o => exact some_ne (wo_some e)
theorem Cz.same {F' H2 : Hp} (z : Cz a g F H F' H' B) (s : Same H' H2) : Cz a g F H F' H2 B :=
  z.pure ⟨fun x o e => s _ _ (z.sub x o e), fun _ _ e => e, fun _ _ e => e, fun x o e _ => s x o e, fun x h => by
    cases e : H' x with
    | none => exact absurd e h
    | some o => exact some_ne (s x o e)⟩
/-- behind what changed two things of the run -/
theorem Nx.trans2 {M : Addr → Prop} {F1 H1 F2 H2 : Hp} (n : Nx M F H F1 H1) (m : Nx M F1 (wo H1 p q) F2 H2) (hp : H p = none) (hq : H q = none) : Nx M F H F2 H2 := by
  have ne : ∀ x, H x ≠ none → wo H1 p q x = H1 x := fun x h => wo_ne (ne_new h hp) (ne_new h hq)
  refine ⟨m.sub, fun x o e => m.mono x o (n.mono x o e), fun x h e => ?_, fun x o e no => ?_, fun x h => ?_⟩
  · exact m.new x (by rw [ne x h]; exact n.alive x h) (n.new x h e)
  · exact m.keep x o (by rw [ne x (some_ne e)]; exact n.keep x o e no) no
  · exact m.alive x (by rw [ne x h]; exact n.alive x h)
theorem Cz.step2 {F1 H1 F2 H2 : Hp} {B2 : Int} (z : Cz a g F H F1 H1 B) (m : Nx (MS a g) F1 (wo H1 p q) F2 H2) (S2 : Sta F2 H2 a g B2) (hp : H p = none) (hq : H q = none) : Cz a g F H F2 H2 B2 := ⟨z.N.trans2 m hp hq, S2, z.ha, z.hg⟩
end
theorem z_weight {K : PySem.W.Frag} {H : Hp} {wa hd lv br : Addr} {L : Hld} {W : Lvs} {t : Str × Addr × List Str} {Q : VK} {E : XK} (hw : Rd H wa (.dK (wK hd lv br))) (hh : Rd H hd (.dK (heldK L))) (hv : Rd H lv (.dK (lvK W)))
    (nd : (L.map (·.1)).Nodup) (ht : t ∈ L) (hA : SqL K H t.2.1 (t.2.2.map V.str)) (len : t.2.2.length ≤ 1000) (cov : ∀ x ∈ t.2.2, x ∈ W.map (·.1)) (k : ∀ H', Same H H' → Q (.int ((t.2.2.map (lfn W)).sum)) H') : spWeight K [.ref wa, .str t.1] H Q E :=
  ⟨wa, hd, lv, t.2.1, t.1, _, _, _, t.2.2, lfn W, rfl, hw, w_held, w_leaves, hh, held_val nd ht, hA, len, hv, fun x hx => lv_val (cov x hx), k⟩
def spLevelled : Sp := fun vs H Q _ => ∃ (F : Hp) (a g wa hd lv br sh : Addr) (sheets : List Str) (L : Hld) (W : Lvs) (B : Int), vs = [.ref a, .ref wa, .ref sh] ∧ Sub F H ∧ Sta F H a g B ∧ B + 10 < 1000000000 ∧ F wa = some (.dK (wK hd lv br)) ∧ F hd = none ∧ F lv = none ∧
  hd ≠ a ∧ lv ≠ a ∧ hd ≠ lv ∧ H hd = some (.dK (heldK L)) ∧ H lv = some (.dK (lvK W)) ∧ HeldA F L ∧ F sh = some (.lst (sheets.map V.str)) ∧ sheets.length ≤ 12 ∧ (∀ x ∈ sheets, PyData.strOk x = true) ∧ 1 ≤ L.length ∧ L.length ≤ 6 ∧ WOk sheets L W ∧
  ∀ (L' : Hld) (W' : Lvs) F' H', Nx (MS a g) F (wo H hd lv) F' H' → Sta F' H' a g (B + 10) → H' hd = some (.dK (heldK L')) → H' lv = some (.dK (lvK W')) → F' hd = none → F' lv = none → HeldA F' L' → L'.map (·.1) = L.map (·.1) → WOk sheets L' W' → Q (.ref wa) H'
section
variable {P : Program} {w : World} {K : PySem.W.Frag} {mg : Str → Option Value} {base : Heap}
theorem ok_levelled (T : Txt mg) (c_take : C8.Cal P w K mg base 2 "_law_take" spTake []) (c_weight : C8.Cal P w K mg base 1 "_law_weight" (spWeight K) []) {f fd} (D : C8.Def K mg "_law_levelled" s_levelled f fd) (b : Binds K fd P_levelled []) : C8.Cal P w K mg base 3 "_law_levelled" spLevelled [] := by
  refine C8.cal0 D b .nil sc_levelled (fun vs H Q E h => ?_) (fun cdv A outer s H vs Q E hr h => ?_)
  · obtain ⟨F, a, g, wa, hd, lv, br, sh, sheets, L, W, B, rfl, _⟩ := h
    rfl
  · obtain ⟨F, a, g, wa, hd, lv, br, sh, sheets, L, W, B, rfl, sF, S, hB, hwa, fhd, flv, ne1, ne2, ne3, hhd, hlv, hA, hsh, s12, sok, l1, l6, ok, k⟩ := h
    have hu := hu_of hr
    refine ⟨_, (pss_cons (ps_set (i := 4) sc_levelled.nd rfl (Or.inl rfl) (pe_callB (k_max K rfl) rfl T.b_max (by decide +kernel) (pa_cons (pe_lock (pe_lc (own := [("person", 3)]) rfl sc_levelled.nd (pi_keys (pe_dget hu (pv 1) pe_str (fun _ _ => rfl))) (blkOk_by (N := N_levelled) (sc := defScope s_levelled) (by decide +kernel)) (fun _ _ _ _ _ => (pg_name (i := 3) sc_levelled.nd rfl (Or.inl rfl))) (fun _ _ _ _ _ => pts_nil) (fun _ _ _ _ _ => (C8.pe_c c_weight hr (by decide) rfl (pa_cons (pv 1) (pa_cons (pv 3) pa_nil)))))) pa_nil)))
  (pss_cons (ps_for PassesOwn.never rfl (k_pil K (pe_callTy (call_listD rfl) rfl T.b_list (by decide +kernel) (pa_cons (pe_dget hu (pv 1) pe_str (fun _ _ => rfl)) pa_nil))) (pg_name (i := 3) sc_levelled.nd rfl (Or.inl rfl))
    (pss_cons (ps_set (i := 5) sc_levelled.nd rfl (Or.inl rfl) (pe_op op_sub (pv 4) (C8.pe_c c_weight hr (by decide) rfl (pa_cons (pv 1) (pa_cons (pv 3) pa_nil)))))
  (pss_cons (ps_setLc (i := 7) (own := [("sheet", 6)]) rfl sc_levelled.nd rfl rfl (sw_true rfl rfl rfl (by decide +kernel)) (k_pil K (pv 2)) (blkOk_by (N := N_levelled) (sc := defScope s_levelled) (by decide +kernel)) (fun _ _ _ _ _ => (pg_name (i := 6) sc_levelled.nd rfl (Or.inl rfl))) (fun _ _ _ _ _ => (pts_one (pt_cmp (pc_dnotin hu (pv 6) (pe_dget hu (pv 1) pe_str (fun _ _ => rfl)))))) (fun _ _ _ _ _ => (pv 6)))
  (pss_one (ps_if (PW.pt (pw_and (pt_chain op_lt op_lt pe_int (pv 5) pe_int) (pw_and (pt_cmpR (k_neD K hr.units) (pv 7) (pe_lst pa_nil) (nomark _)) (pw_and1 (pt_cmpR op_gt (C8.pe_c c_take hr (by decide) rfl (pa_cons (pv 0) (pa_cons pe_int pa_nil))) pe_int (nomark _))))))
    (pss_cons (ps_dput hu (pe_dget hu (pv 1) pe_str (fun _ _ => rfl)) (pv 3) (pe_op op_cat (pe_dget hu (pe_dget hu (pv 1) pe_str (fun _ _ => rfl)) (pv 3) (fun _ _ => rfl)) (pe_slice (k_slL K) (pv 7) po_none (po_some pe_int))) rfl)
  (pss_one (ps_dput hu (pe_dget hu (pv 1) pe_str (fun _ _ => rfl)) (pe_ix (k_ixL K) (pv 7) pe_int (fun _ _ => rfl)) (pv 5) rfl)))
    pss_nil)))))
  (pss_one (ps_ret (pv 1))))), ?_⟩
    obtain ⟨c0, r0, t0, gs0, cs0, S0, _⟩ := id S
    have ng1 : hd ≠ g := ne_of hhd S0.hg (fun z => nomatch z)
    have ng2 : lv ≠ g := ne_of hlv S0.hg (fun z => nomatch z)
    have Z := Cz.start2 sF S fhd flv ne1 ne2 ng1 ng2
    have p0 : wo H hd lv hd = none := wo_l
    have q0 : wo H hd lv lv = none := wo_r
    generalize wo H hd lv = H0 at Z p0 q0 k
    walk_at "zz"
    refine z_lockE hhd (by trivial) fun od => ?_
    have ZL := Z.wr p0 fhd (.frz od (.dK (heldK L)))
    have hL : (upd H hd (.frz od (.dK (heldK L)))) hd = some (.frz od (.dK (heldK L))) := upd_same
    have vL : (upd H hd (.frz od (.dK (heldK L)))) lv = some (.dK (lvK W)) := by rw [upd_ne ne3.symm]; exact hlv
    generalize upd H hd (.frz od (.dK (heldK L))) = HL at ZL hL vL ⊢
    walk_at "zz"
    refine z_dgetR (ZL.sub.rd hwa) w_held ?_
    refine ⟨hd, od, rfl, .inl ⟨_, hL, fun D hD => ?_⟩⟩
    have hD0 := ZL.old hD
    have fD : F D = none := ZL.sub.none hD
    have Dh : hd ≠ D := ne_of_none hL hD
    have Dv : lv ≠ D := ne_of_none vL hD
    refine lc_it (walk_keys (kvs := heldK L)) (fun i H' => Cz a g F H0 F H' B ∧ H' hd = some (.frz od (.dK (heldK L))) ∧ H' lv = some (.dK (lvK W)) ∧ ∃ ns : List Int, H' D = some (.lst (ns.map V.int)) ∧ ns.length = i)
      ⟨ZL.mak hD _, by rw [upd_ne Dh]; exact hL, by rw [upd_ne Dv]; exact vL, [], upd_same, rfl⟩ (fun i H' _ h => h.2.1) ?_ ?_
    · rintro i x H1 H2 hi ⟨Z1, h1, v1, ns, n1, nl⟩ ⟨rfl, ky, vv, hk, rfl⟩
      rw [held_len] at hi
      obtain ⟨t, ht, ek⟩ : ∃ t, L[i]? = some t ∧ (key t.1, V.ref t.2.1) = (ky, vv) := by
        rw [heldK, List.getElem?_map] at hk
        cases e : L[i]? with
        | none => rw [e] at hk; cases hk
        | some t => rw [e] at hk; exact ⟨t, rfl, Option.some.inj hk⟩
      obtain ⟨rfl, rfl⟩ := Prod.mk.inj ek
      have tm := List.mem_of_getElem? ht
      have tl := ok.pl tm
      walk_at "zz"
      refine z_weight (Z1.sub.rd hwa) (frz_rd h1) (.inl v1) ok.nd tm (Z1.sub.sql (hA t tm)) (by omega) (ok.ok t tm).2 fun H2 s2 => ?_
      walk_at "zz"
      refine ⟨_, s2 _ _ n1, szl (by rw [List.length_map]; omega), (Z1.same s2).wr hD0 fD _, by rw [upd_ne Dh]; exact s2 _ _ h1, by rw [upd_ne Dv]; exact s2 _ _ v1, ns ++ [_], by rw [upd_same, List.map_append]; rfl, by simp [nl]⟩
    · rintro H1 ⟨Z1, h1, v1, ns, n1, nl⟩
      refine ⟨h1, ?_⟩
      have Z2 := Z1.wr p0 fhd (.dK (heldK L))
      have h2 : (upd H1 hd (.dK (heldK L))) hd = some (.dK (heldK L)) := upd_same
      have v2 : (upd H1 hd (.dK (heldK L))) lv = some (.dK (lvK W)) := by rw [upd_ne ne3.symm]; exact v1
      have n2 : (upd H1 hd (.dK (heldK L))) D = some (.lst (ns.map V.int)) := by rw [upd_ne Dh.symm]; exact n1
      generalize upd H1 hd (.dK (heldK L)) = H2 at Z2 h2 v2 n2 ⊢
      rw [held_len] at nl
      walk_at "zz"
      refine z_max (SqL.of n2) (by omega) fun top _ _ => ?_
      walk_at "zz"
      refine z_dgetR (Z2.sub.rd hwa) w_held ?_
      refine ⟨hd, _, rfl, .inl h2, fun l hl => ?_⟩
      rw [held_keys]
      have Z3 := Z2.lay hl (.lst ((L.map (·.1)).map V.str))
      have h3 := upd_keep (o := .lst ((L.map (·.1)).map V.str)) h2 hl
      have v3 := upd_keep (o := .lst ((L.map (·.1)).map V.str)) v2 hl
      have fl := Z2.sub.none hl
      have f3 : (upd F l (.lst ((L.map (·.1)).map V.str))) hd = none := by rw [upd_ne (ne_of_none h2 hl)]; exact fhd
      have f4 : (upd F l (.lst ((L.map (·.1)).map V.str))) lv = none := by rw [upd_ne (ne_of_none v2 hl)]; exact flv
      have gl : (upd F l (.lst ((L.map (·.1)).map V.str))) l = some (.lst ((L.map (·.1)).map V.str)) := upd_same
      have s3 : Sub F (upd F l (.lst ((L.map (·.1)).map V.str))) := fun x o h => upd_keep h fl
      generalize upd F l (.lst ((L.map (·.1)).map V.str)) = F1 at Z3 f3 f4 gl s3
      generalize upd H2 l (.lst ((L.map (·.1)).map V.str)) = H3 at Z3 h3 v3 ⊢
      refine z_loopL (xs := (L.map (·.1)).map V.str) (Z3.sub.sql gl) (fun i σ' H' => ∃ (F' : Hp) (L' : Hld) (W' : Lvs) (v3 v5 v6 v7 : Option V), σ' = [some (.ref a), some (.ref wa), some (.ref sh), v3, some (.int top), v5, v6, v7] ∧
        Cz a g F H0 F' H' (B + i) ∧ Sub F1 F' ∧ F' hd = none ∧ F' lv = none ∧ H' hd = some (.dK (heldK L')) ∧ H' lv = some (.dK (lvK W')) ∧ HeldA F' L' ∧ L'.map (·.1) = L.map (·.1) ∧ WOk sheets L' W')
        ⟨F1, L, W, none, none, none, none, rfl, Z3.mono (by omega), fun _ _ e => e, f3, f4, h3, v3, fun t ht => s3 _ _ (hA t ht), rfl, ok⟩ (fun i σ' H' _ ⟨F', L', W', _, _, _, _, _, Z, s, _⟩ => Z.sub.sql (s _ _ gl)) ?_ ?_
      · rintro i x σ' H4 hi ⟨F4, L4, W4, v3, v5, v6, v7, rfl, Z4, s4, fh4, fv4, h4, v4, hA4, eL4, ok4⟩
        obtain ⟨person, hper, rfl⟩ := at_str hi
        have hil : i < L.length := by have := (List.getElem?_eq_some_iff.mp hper).1; rwa [List.length_map] at this
        obtain ⟨t, ht, rfl⟩ : ∃ t ∈ L4, t.1 = person := by
          have := List.mem_of_getElem? hper
          rw [← eL4] at this
          obtain ⟨t, ht, e⟩ := List.mem_map.mp this
          exact ⟨t, ht, e⟩
        have tl := ok4.pl ht
        walk_at "zz"
        refine z_weight (Z4.sub.rd (s4 _ _ (s3 _ _ hwa))) (.inl h4) (.inl v4) ok4.nd ht (Z4.sub.sql (hA4 t ht)) (by omega) (ok4.ok t ht).2 fun H5 s5 => ?_
        have Z5 := Z4.same s5
        have h5 := s5 _ _ h4
        have v5' := s5 _ _ v4
        generalize ((t.2.2.map (lfn W4)).sum) = wt
        walk_at "zz"
        refine ⟨sh, rfl, ⟨_, Z5.sub.sql (s4 _ _ (s3 _ _ hsh))⟩, fun e he => ?_⟩
        have he0 := Z5.old he
        have fe : F4 e = none := Z5.sub.none he
        have eh : hd ≠ e := ne_of_none h5 he
        have ev : lv ≠ e := ne_of_none v5' he
        refine lc_it (walk_list (xs := sheets.map V.str)) (fun j H' => ∃ ps : List Str, Cz a g F H0 F4 H' (B + i) ∧ H' e = some (.lst (ps.map V.str)) ∧ H' hd = some (.dK (heldK L4)) ∧ H' lv = some (.dK (lvK W4)) ∧ ps.Sublist (sheets.take j) ∧ ∀ x ∈ ps, x ∉ W4.map (·.1))
          ⟨[], Z5.mak he _, upd_same, by rw [upd_ne eh]; exact h5, by rw [upd_ne ev]; exact v5', List.nil_sublist _, fun x h => by cases h⟩ (fun i H' _ h => by obtain ⟨ps, h, _⟩ := h; exact h.sub.sql (s4 _ _ (s3 _ _ hsh))) ?_ ?_
        · rintro j x H6 H7 hj ⟨ps, Z6, he6, h6, v6', s6, no6⟩ ⟨rfl, hx⟩
          obtain ⟨n, hn, rfl⟩ := at_str hx
          rw [List.length_map] at hj
          walk_at "zz"
          refine z_dgetR (Z6.sub.rd (s4 _ _ (s3 _ _ hwa))) w_leaves (z_dgo (.inl v6') ?_)
          rw [lv_some]
          walk_at "zz"
          refine z_iteN (fun no => ?_) (fun _ => ?_)
          · walk_at "zz"
            have l3 := s6.length_le
            rw [List.length_take] at l3
            refine ⟨_, he6, szl (by rw [List.length_map]; omega), ps ++ [n], Z6.wr he0 fe _, by rw [upd_same]; simp, by rw [upd_ne eh]; exact h6, by rw [upd_ne ev]; exact v6', sub_step hn s6, fun y hy => ?_⟩
            rcases List.mem_append.mp hy with hy | hy
            · exact no6 y hy
            · rw [List.mem_singleton.mp hy]; exact no
          · exact ⟨ps, Z6, he6, h6, v6', sub_skip s6, no6⟩
        · rintro H6 ⟨ps, Z6, he6, h6, v6', s6, no6⟩
          rw [List.length_map, List.take_length] at s6
          have Z7 := Z6.frz he0 he6 fe
          have ge : (upd F4 e (.lst (ps.map V.str))) e = some (.lst (ps.map V.str)) := upd_same
          have fh7 : (upd F4 e (.lst (ps.map V.str))) hd = none := by rw [upd_ne eh]; exact fh4
          have fv7 : (upd F4 e (.lst (ps.map V.str))) lv = none := by rw [upd_ne ev]; exact fv4
          have s7 : Sub F4 (upd F4 e (.lst (ps.map V.str))) := fun x o h => upd_keep h fe
          have hA7 : HeldA (upd F4 e (.lst (ps.map V.str))) L4 := fun t ht => s7 _ _ (hA4 t ht)
          replace s7 : Sub F1 (upd F4 e (.lst (ps.map V.str))) := fun x o h => s7 _ _ (s4 _ _ h)
          generalize upd F4 e (.lst (ps.map V.str)) = F7 at Z7 ge fh7 fv7 s7 hA7
          have stay : ∀ H8 v3 v5 v6 v7, Cz a g F H0 F7 H8 (B + i + 1) → H8 hd = some (.dK (heldK L4)) → H8 lv = some (.dK (lvK W4)) → ∃ (F' : Hp) (L' : Hld) (W' : Lvs) (v3' v5' v6' v7' : Option V), [some (.ref a), some (.ref wa), some (.ref sh), v3, some (.int top), v5, v6, v7] = [some (.ref a), some (.ref wa), some (.ref sh), v3', some (.int top), v5', v6', v7'] ∧
            Cz a g F H0 F' H8 (B + ((i + 1 : Nat) : Int)) ∧ Sub F1 F' ∧ F' hd = none ∧ F' lv = none ∧ H8 hd = some (.dK (heldK L')) ∧ H8 lv = some (.dK (lvK W')) ∧ HeldA F' L' ∧ L'.map (·.1) = L.map (·.1) ∧ WOk sheets L' W' :=
            fun H8 _ _ _ _ Z8 h8 v8 => ⟨F7, L4, W4, _, _, _, _, rfl, Z8.mono (by omega), s7, fh7, fv7, h8, v8, hA7, eL4, ok4⟩
          walk_at "zz"
          refine z_ite (fun less0 => ?_) (fun _ => ?_)
          · walk_at "zz"
            refine z_ite (fun less9 => ?_) (fun _ => ?_)
            · walk_at "zz"
              refine ⟨sz (by decide), fun q hq => ?_⟩
              have Z8 := Z7.mak hq (.lst [])
              have h8 := upd_keep (o := .lst []) h6 hq
              have v8 := upd_keep (o := .lst []) v6' hq
              have hq8 : (upd H6 q (.lst [])) q = some (.lst []) := upd_same
              generalize upd H6 q (.lst []) = H8 at Z8 h8 v8 hq8 ⊢
              refine z_neS (xs := ps) (ys := []) (fun x hx => sok x (s6.subset hx)) (fun x h => by cases h) (Z8.sub.sql ge) (SqL.of hq8) ?_
              walk_at "zz"
              refine z_iteN (fun ne => ?_) (fun _ => ?_)
              · obtain ⟨s0, tl0, rfl⟩ : ∃ s0 tl0, ps = s0 :: tl0 := by
                  cases ps with
                  | nil => exact absurd rfl ne
                  | cons x l => exact ⟨x, l, rfl⟩
                walk_at "zz"
                refine z_take Z8 (by omega) (by omega) (by omega) fun r H9 r0 r1 Z9 K9 => ?_
                have h9 := K9 _ _ h8 p0
                have v9 := K9 _ _ v8 q0
                walk_at "zz"
                refine z_ite (fun _ => ?_) (fun _ => ?_)
                · walk_at "zz"
                  refine z_dgetR (Z9.sub.rd (s7 _ _ (s3 _ _ hwa))) w_held ?_
                  walk_at "zz"
                  refine z_dgetR (.inl h9) (held_val ok4.nd ht) ?_
                  walk_at "zz"
                  refine z_slL (Z9.sub.sql ge) fun q2 hq2 => ?_
                  rw [show (1 : Int) = ((1 : Nat) : Int) from rfl, cut_to]
                  have Z10 := Z9.mak hq2 (.lst ((List.take 1 (s0 :: tl0)).map V.str))
                  have h10 := upd_keep (o := .lst ((List.take 1 (s0 :: tl0)).map V.str)) h9 hq2
                  have v10 := upd_keep (o := .lst ((List.take 1 (s0 :: tl0)).map V.str)) v9 hq2
                  have hq10 : (upd H9 q2 (.lst ((List.take 1 (s0 :: tl0)).map V.str))) q2 = some (.lst ((List.take 1 (s0 :: tl0)).map V.str)) := upd_same
                  generalize upd H9 q2 (.lst ((List.take 1 (s0 :: tl0)).map V.str)) = H10 at Z10 h10 v10 hq10 ⊢
                  refine z_cat (Z10.sub _ _ (hA7 t ht)) hq10 (by rw [List.length_map, List.length_map, List.length_take]; omega) fun q3 hq3 => ?_
                  rw [← List.map_append]
                  have f3' := Z10.sub.none hq3
                  have Z11 := Z10.lay hq3 (.lst ((t.2.2 ++ List.take 1 (s0 :: tl0)).map V.str))
                  have h11 := upd_keep (o := .lst ((t.2.2 ++ List.take 1 (s0 :: tl0)).map V.str)) h10 hq3
                  have v11 := upd_keep (o := .lst ((t.2.2 ++ List.take 1 (s0 :: tl0)).map V.str)) v10 hq3
                  have g11 : (upd F7 q3 (.lst ((t.2.2 ++ List.take 1 (s0 :: tl0)).map V.str))) q3 = some (.lst ((t.2.2 ++ List.take 1 (s0 :: tl0)).map V.str)) := upd_same
                  have fh11 : (upd F7 q3 (.lst ((t.2.2 ++ List.take 1 (s0 :: tl0)).map V.str))) hd = none := by rw [upd_ne (ne_of_none h10 hq3)]; exact fh7
                  have fv11 : (upd F7 q3 (.lst ((t.2.2 ++ List.take 1 (s0 :: tl0)).map V.str))) lv = none := by rw [upd_ne (ne_of_none v10 hq3)]; exact fv7
                  have s11 : Sub F7 (upd F7 q3 (.lst ((t.2.2 ++ List.take 1 (s0 :: tl0)).map V.str))) := fun x o h => upd_keep h f3'
                  generalize upd F7 q3 (.lst ((t.2.2 ++ List.take 1 (s0 :: tl0)).map V.str)) = F11 at Z11 g11 fh11 fv11 s11
                  generalize upd H10 q3 (.lst ((t.2.2 ++ List.take 1 (s0 :: tl0)).map V.str)) = H11 at Z11 h11 v11 ⊢
                  walk_at "zz"
                  refine z_dgetR (Z11.sub.rd (s11 _ _ (s7 _ _ (s3 _ _ hwa)))) w_held ?_
                  walk_at "zz"
                  have L6 : L4.length ≤ 6 := by
                    have := congrArg List.length eL4
                    rw [List.length_map, List.length_map] at this
                    omega
                  refine z_dputS h11 (szl (by rw [held_len]; omega)) (held_set (ps := t.2.2 ++ List.take 1 (s0 :: tl0)) (List.mem_map_of_mem ht)) ?_
                  have Z12 := Z11.wr p0 fh11 (.dK (heldK (L4.map fun u => if u.1 = t.1 then (u.1, q3, t.2.2 ++ List.take 1 (s0 :: tl0)) else u)))
                  have h12 : (upd H11 hd (.dK (heldK (L4.map fun u => if u.1 = t.1 then (u.1, q3, t.2.2 ++ List.take 1 (s0 :: tl0)) else u)))) hd = some (.dK (heldK (L4.map fun u => if u.1 = t.1 then (u.1, q3, t.2.2 ++ List.take 1 (s0 :: tl0)) else u))) := upd_same
                  have v12 : (upd H11 hd (.dK (heldK (L4.map fun u => if u.1 = t.1 then (u.1, q3, t.2.2 ++ List.take 1 (s0 :: tl0)) else u)))) lv = some (.dK (lvK W4)) := by rw [upd_ne ne3.symm]; exact v11
                  generalize upd H11 hd (.dK (heldK (L4.map fun u => if u.1 = t.1 then (u.1, q3, t.2.2 ++ List.take 1 (s0 :: tl0)) else u))) = H12 at Z12 h12 v12 ⊢
                  walk_at "zz"
                  refine z_dgetR (Z12.sub.rd (s11 _ _ (s7 _ _ (s3 _ _ hwa)))) w_leaves ?_
                  walk_at "zz"
                  refine z_ixL (i := 0) (Z12.sub.sql (s11 _ _ ge)) (atI_nat (j := 0) (by rfl)) ?_
                  have s0no : s0 ∉ W4.map (·.1) := no6 s0 List.mem_cons_self
                  have W12 : W4.length ≤ 12 := Nat.le_trans ok4.wl s12
                  refine z_dputS v12 (szl (by rw [lv_len]; omega)) (lv_put s0no) ?_
                  obtain ⟨okn, en⟩ := ok4.more (n := top - wt) ht (s6.subset List.mem_cons_self) s0no (by omega) (by omega) q3
                  walk_at "zz"
                  refine ⟨F11, _, _, _, _, _, _, rfl, (Z12.wr q0 fv11 _).mono (by omega), fun x o h => s11 _ _ (s7 _ _ h), fh11, fv11, ?_, upd_same, ?_, en.trans eL4, okn⟩
                  · rw [upd_ne ne3]; exact h12
                  · intro u hu
                    obtain ⟨z, hz, rfl⟩ := List.mem_map.mp hu
                    by_cases e : z.1 = t.1
                    · rw [if_pos e]; exact g11
                    · rw [if_neg e]; exact s11 _ _ (hA7 z hz)
                · walk_at "zz"
                  exact stay _ _ _ _ _ Z9 h9 v9
              · walk_at "zz"
                exact stay _ _ _ _ _ (Z8.mono (by omega)) h8 v8
            · walk_at "zz"
              exact stay _ _ _ _ _ (Z7.mono (by omega)) h6 v6'
          · walk_at "zz"
            exact stay _ _ _ _ _ (Z7.mono (by omega)) h6 v6'
      · rintro σ' H4 ⟨F4, L4, W4, v3, v5, v6, v7, rfl, Z4, s4, fh4, fv4, h4, v4, hA4, eL4, ok4⟩
        rw [List.length_map, List.length_map] at Z4
        walk_at "zz"
        have Z5 := Z4.mono (show B + (L.length : Int) ≤ B + 10 by omega)
        exact k L4 W4 _ _ Z5.N Z5.S h4 v4 fh4 fv4 hA4 eL4 ok4
end
end EV
end

section
set_option maxHeartbeats 2000000
local macro_rules | `(tactic| walk_at "za") => `(tactic| (first | exact Or.inl ⟨by omega, by omega⟩ | exact Or.inr ⟨by omega, by omega⟩ | exact ⟨by omega, by omega⟩ | exact ⟨by omega, by omega, by omega⟩ | omega))
local macro_rules | `(tactic| walk_at "z") => `(tactic| (first
  | with_reducible refine EV.z_seq ?_ | with_reducible refine EV.z_next ?_ | with_reducible refine EV.z_nx ?_ | with_reducible refine EV.z_rt ?_ | with_reducible refine EV.z_asg ?_ | with_reducible refine EV.z_name ?_
  | with_reducible refine EV.z_drop ?_ | with_reducible refine EV.z_ret ?_ | with_reducible refine EV.z_if ?_
  | ((with_reducible refine EV.z_var (v := ?vv) ?hv ?_); (case hv => exact rfl)) | with_reducible refine EV.z_c ?_ | with_reducible refine EV.z_op ?_ | with_reducible refine EV.z_un ?_ | with_reducible refine EV.z_I0 ?_ | with_reducible refine EV.z_U ?_ | ((with_reducible refine EV.z_I ?hc ?_); (case hc => walk_at "za"))
  | ((with_reducible refine EV.z_eq ?hv ?_); (case hv => exact rfl)) | ((with_reducible refine EV.z_ne ?hv ?_); (case hv => exact rfl))
  | with_reducible refine EV.z_test ?_ | with_reducible refine EV.z_bl ?_ | with_reducible refine EV.z_B ?_ | with_reducible refine EV.z_and ?_ | with_reducible refine EV.z_or ?_ | with_reducible refine EV.z_not ?_ | with_reducible refine EV.z_andV ?_
  | with_reducible refine EV.z_orV ?_ | with_reducible refine EV.z_notV ?_ | with_reducible refine EV.z_ifE ?_ | with_reducible refine EV.z_nil ?_ | with_reducible refine EV.z_cons ?_ | with_reducible refine EV.z_tup ?_ | with_reducible refine EV.z_lst ?_
  | with_reducible refine EV.z_cb ?_ | with_reducible refine EV.z_call ?_ | with_reducible refine EV.z_dget ?_ | with_reducible refine EV.z_dput ?_ | with_reducible refine EV.z_chain ?_ | with_reducible refine EV.z_then ?_ | with_reducible refine EV.z_fld ?_ | with_reducible refine EV.z_bm ?_
  | with_reducible refine EV.z_par ?_ | with_reducible refine EV.z_par3 ?_ | with_reducible refine EV.z_ex2 ?_ | with_reducible refine EV.z_ex3 ?_ | with_reducible refine EV.z_tyes ?_ | ((with_reducible refine EV.z_wipe ?hv ?_); (case hv => exact rfl))
  | with_reducible refine EV.z_lc ?_ | with_reducible refine EV.z_ltS ?_ | with_reducible refine EV.z_disp ?_ | with_reducible refine EV.z_pc ?_ | with_reducible refine EV.z_pn ?_ | with_reducible refine EV.z_m1 ?_ | with_reducible refine EV.z_isS ?_ | with_reducible refine EV.z_sl ?_ | with_reducible refine EV.z_np ?_ | with_reducible refine EV.z_pt ?_ | with_reducible refine EV.z_exI ?_ | with_reducible refine EV.z_is ?_ | with_reducible refine EV.z_istr ?_ | with_reducible refine EV.z_no ?_ | with_reducible refine EV.z_yes ?_ | with_reducible refine EV.z_for ?_ | with_reducible refine EV.z_il ?_ | with_reducible refine EV.z_it ?_ | with_reducible refine EV.z_r1 ?_ | with_reducible refine EV.z_ik ?_ | with_reducible refine EV.z_din ?_ | with_reducible refine EV.z_dnin ?_ | with_reducible refine EV.z_dsd ?_ | with_reducible refine EV.z_gs ?_ | with_reducible refine EV.z_gc ?_ | with_reducible refine EV.z_gn ?_ | with_reducible refine EV.z_turn ?_))
local macro_rules | `(tactic| walk_at "zz") => `(tactic| repeat walk_at "z")
namespace EV
open PySem PySem.Spec PyProof.Rows L2
abbrev s_world : Stmt := top 36
abbrev N_world : List Str := ["state", "cap", "folk", "sheets", "some", "world", "person", "sheet", "number"]
abbrev P_world : List Str := ["state", "cap"]
theorem sc_world : FnScope N_world P_world (defScope s_world) := ⟨rfl, rfl, rfl, by decide +kernel, rfl, by decide +kernel, by decide +kernel⟩
abbrev s_ready : Stmt := top 41
abbrev N_ready : List Str := ["state", "cap", "folk", "sheets", "number", "way", "at", "world", "person", "own", "core", "sheet"]
abbrev P_ready : List Str := ["state", "cap"]
theorem sc_ready : FnScope N_ready P_ready (defScope s_ready) := ⟨rfl, rfl, rfl, by decide +kernel, rfl, by decide +kernel, by decide +kernel⟩
/-! ### the drawing helpers, from where the run stands -/
section
variable {a g : Addr} {F H F' H' : Hp} {B : Int} {Q : VK} {E : XK}
/-- what was made since stays, and still may change -/
def Kp (H F' H' F2 H2 : Hp) : Prop := ∀ q o, H' q = some o → H q = none → F' q = none → H2 q = some o ∧ F2 q = none
theorem Cz.kp {F2 H2 : Hp} (Z : Cz a g F H F' H' B) (N : Nx (MS a g) F' H' F2 H2) : Kp H F' H' F2 H2 :=
  fun q o h hq fq => ⟨N.keep q o h (Z.nm hq), N.new q (some_ne h) fq⟩
theorem z_namesC {n : Int} (Z : Cz a g F H F' H' B) (n0 : 0 ≤ n) (n1 : n ≤ 12) (hB : B + 120 < 1000000000)
    (k : ∀ (p : Addr) (ns : List Str) F2 H2, Cz a g F H F2 H2 (B + 120) → Sub F' F2 → Kp H F' H' F2 H2 → F2 p = some (.lst (ns.map V.str)) → (ns.length : Int) = n → ns.Nodup → (∀ x ∈ ns, Nm x) → Q (.ref p) H2) : spNames [.ref a, .int n] H' Q E :=
  ⟨F', a, g, n, B, rfl, n0, n1, Z.sub, Z.S, hB, fun p ns F2 H2 N S hp _ hl nd nm => k p ns F2 H2 (Z.step N S) N.mono (Z.kp N) hp hl nd nm⟩
theorem z_heldC {fl sh : Addr} {folk sheets : List Str} (Z : Cz a g F H F' H' B) (hB : B + 100 < 1000000000) (hfl : F' fl = some (.lst (folk.map V.str))) (hsh : F' sh = some (.lst (sheets.map V.str))) (fnd : folk.Nodup) (f6 : folk.length ≤ 6) (snd : sheets.Nodup) (s12 : sheets.length ≤ 12)
    (sok : ∀ x ∈ sheets, PyData.strOk x = true) (k : ∀ (p : Addr) (L : Hld) F2 H2, Cz a g F H F2 H2 (B + 100) → Sub F' F2 → Kp H F' H' F2 H2 → H p = none → H' p = none → F2 p = none → H2 p = some (.dK (heldK L)) → HeldA F2 L → L.map (·.1) = folk → (∀ t ∈ L, Ok sheets t.2.2) → Q (.ref p) H2) :
    spHeld [.ref a, .ref fl, .ref sh] H' Q E :=
  ⟨F', a, g, fl, sh, folk, sheets, B, rfl, Z.sub, Z.S, hB, hfl, hsh, fnd, f6, snd, s12, sok, fun p L F2 H2 N S hp fp h2 hA eL ok => k p L F2 H2 (Z.step N S) N.mono (Z.kp N) (Z.old hp) hp fp h2 hA eL ok⟩
theorem z_fencesC {fl : Addr} {folk : List Str} (Z : Cz a g F H F' H' B) (hB : B + 100 < 1000000000) (hfl : F' fl = some (.lst (folk.map V.str))) (f6 : folk.length ≤ 6)
    (k : ∀ (p : Addr) (bs : List (Addr × Str × Str)) F2 H2, Cz a g F H F2 H2 (B + 100) → Sub F' F2 → Kp H F' H' F2 H2 → F2 p = some (.lst (bs.map fun t => V.ref t.1)) → BarsA F2 bs → bs.length ≤ 36 → (∀ t ∈ bs, t.2.1 ∈ folk ∧ t.2.2 ∈ folk ∧ slt t.2.1 t.2.2) → (folk.Nodup → (bs.map (·.2)).Nodup) → Q (.ref p) H2) : spFences [.ref a, .ref fl] H' Q E :=
  ⟨F', a, g, fl, folk, B, rfl, Z.sub, Z.S, hB, hfl, f6, fun p bs F2 H2 N S _ fp hb b36 bk bn => k p bs F2 H2 (Z.step N S) N.mono (Z.kp N) fp hb b36 bk bn⟩
theorem z_takeC {n : Int} (Z : Cz a g F H F' H' B) (n0 : 0 < n) (n1 : n < 1000000) (hB : B < 1000000000)
    (k : ∀ (r : Int) H2, 0 ≤ r → r < n → Cz a g F H F' H2 (B + 1) → Kp H F' H' F' H2 → Q (.int r) H2) : spTake [.ref a, .int n] H' Q E :=
  ⟨F', a, g, n, B, rfl, n0, n1, Z.sub, Z.S, hB, fun r H2 r0 r1 N2 S2 => k r H2 r0 r1 (Z.step N2 S2) (Z.kp N2)⟩
theorem z_levelledC {wa hd lv br sh : Addr} {sheets : List Str} {L : Hld} {W : Lvs} (Z : Cz a g F H F' H' B) (hB : B + 10 < 1000000000) (hwa : F' wa = some (.dK (wK hd lv br))) (fhd : F' hd = none) (flv : F' lv = none) (hd0 : H hd = none) (lv0 : H lv = none)
    (ne : hd ≠ lv) (hhd : H' hd = some (.dK (heldK L))) (hlv : H' lv = some (.dK (lvK W))) (hA : HeldA F' L) (hsh : F' sh = some (.lst (sheets.map V.str))) (s12 : sheets.length ≤ 12) (sok : ∀ x ∈ sheets, PyData.strOk x = true) (l1 : 1 ≤ L.length) (l6 : L.length ≤ 6) (ok : WOk sheets L W)
    (k : ∀ (L' : Hld) (W' : Lvs) F2 H2, Cz a g F H F2 H2 (B + 10) → Sub F' F2 → H2 hd = some (.dK (heldK L')) → H2 lv = some (.dK (lvK W')) → F2 hd = none → F2 lv = none → HeldA F2 L' → L'.map (·.1) = L.map (·.1) → WOk sheets L' W' → Q (.ref wa) H2) : spLevelled [.ref a, .ref wa, .ref sh] H' Q E :=
  ⟨F', a, g, wa, hd, lv, br, sh, sheets, L, W, B, rfl, Z.sub, Z.S, hB, hwa, fhd, flv, Z.na hd0, Z.na lv0, ne, hhd, hlv, hA, hsh, s12, sok, l1, l6, ok,
    fun L' W' F2 H2 N S h2 v2 f2 f3 hA2 e2 ok2 => k L' W' F2 H2 (Z.step2 N S hd0 lv0) N.mono h2 v2 f2 f3 hA2 e2 ok2⟩
end
/-! ### a world that stands -/
structure Wd (F : Hp) (wa hd lv br : Addr) (L : Hld) (W : Lvs) (bs : List (Addr × Str × Str)) : Prop where
  hw : F wa = some (.dK (wK hd lv br))
  hh : F hd = some (.dK (heldK L))
  hv : F lv = some (.dK (lvK W))
  hb : F br = some (.lst (bs.map fun t => V.ref t.1))
  ba : BarsA F bs
  ha : HeldA F L
structure WD (L : Hld) (W : Lvs) (bs : List (Addr × Str × Str)) : Prop where
  n1 : 1 ≤ L.length
  n6 : L.length ≤ 6
  nm : ∀ t ∈ L, Nm t.1
  sh : ∃ sheets : List Str, sheets.length ≤ 12 ∧ (∀ x ∈ sheets, Nm x) ∧ WOk sheets L W
  b36 : bs.length ≤ 36
  bk : ∀ t ∈ bs, t.2.1 ∈ L.map (·.1) ∧ t.2.2 ∈ L.map (·.1) ∧ slt t.2.1 t.2.2
def spWorld : Sp := fun vs H Q _ => ∃ (F : Hp) (a g : Addr) (n B : Int), vs = [.ref a, .int n] ∧ 2 ≤ n ∧ n ≤ 6 ∧ Sub F H ∧ Sta F H a g B ∧ B + 1000 < 1000000000 ∧
  ∀ (wa hd lv br : Addr) (L : Hld) (W : Lvs) (bs : List (Addr × Str × Str)) F' H', Nx (MS a g) F H F' H' → Sta F' H' a g (B + 1000) → Wd F' wa hd lv br L W bs → WD L W bs → (bs.map (·.2)).Nodup → Q (.ref wa) H'
/-- the leaves as far as they are told -/
structure Prt (L : Hld) (W : Lvs) (don : List Str) : Prop where
  nd : (W.map (·.1)).Nodup
  wh : ∀ q ∈ W, (∃ t ∈ L, q.1 ∈ t.2.2) ∧ 1 ≤ q.2 ∧ q.2 ≤ 9
  cov : ∀ x ∈ don, x ∈ W.map (·.1)
theorem Prt.nil {L : Hld} : Prt L [] [] := ⟨List.nodup_nil, (fun q h => by cases h), (fun q h => by cases h)⟩
theorem Prt.old {L : Hld} {W : Lvs} {don : List Str} (p : Prt L W don) {x : Str} (h : x ∈ W.map (·.1)) : Prt L W (don ++ [x]) :=
  ⟨p.nd, p.wh, fun y hy => (List.mem_append.mp hy).elim (p.cov y) fun z => by rw [List.mem_singleton.mp z]; exact h⟩
theorem Prt.new {L : Hld} {W : Lvs} {don : List Str} (p : Prt L W don) {x : Str} {n : Int} {t} (ht : t ∈ L) (hx : x ∈ t.2.2) (n1 : 1 ≤ n) (n9 : n ≤ 9) (no : x ∉ W.map (·.1)) : Prt L (W ++ [(x, n)]) (don ++ [x]) := by
  refine ⟨?_, fun q hq => ?_, fun y hy => ?_⟩
  · rw [List.map_append]
    exact List.nodup_append.mpr ⟨p.nd, by simp, fun y hy z hz e => no (by have e2 : z = x := List.mem_singleton.mp hz; rw [← e2, ← e]; exact hy)⟩
  · rcases List.mem_append.mp hq with hq | hq
    · exact p.wh q hq
    · rw [List.mem_singleton.mp hq]; exact ⟨⟨t, ht, hx⟩, n1, n9⟩
  · rw [List.map_append]
    rcases List.mem_append.mp hy with hy | hy
    · exact List.mem_append_left _ (p.cov y hy)
    · rw [List.mem_singleton.mp hy]; exact List.mem_append_right _ (by simp)
theorem Prt.weak {L L' : Hld} {W : Lvs} {don : List Str} (p : Prt L W don) (h : ∀ t ∈ L, t ∈ L') : Prt L' W don :=
  ⟨p.nd, fun q hq => ⟨let ⟨⟨t, ht, hx⟩, _⟩ := p.wh q hq; ⟨t, h t ht, hx⟩, (p.wh q hq).2⟩, p.cov⟩
def alls (L : Hld) : List Str := (L.map (·.2.2)).flatten
theorem mem_alls {L : Hld} {x : Str} : x ∈ alls L ↔ ∃ t ∈ L, x ∈ t.2.2 := by
  unfold alls
  rw [List.mem_flatten]
  constructor
  · rintro ⟨l, hl, hx⟩
    obtain ⟨t, ht, rfl⟩ := List.mem_map.mp hl
    exact ⟨t, ht, hx⟩
  · rintro ⟨t, ht, hx⟩
    exact ⟨t.2.2, List.mem_map_of_mem ht, hx⟩
theorem Prt.whole {L : Hld} {W : Lvs} {sheets : List Str} (p : Prt L W (alls L)) (nd : (L.map (·.1)).Nodup) (ok : ∀ t ∈ L, Ok sheets t.2.2) : WOk sheets L W :=
  ⟨nd, fun t ht => ⟨(ok t ht).1, fun x hx => p.cov x (mem_alls.mpr ⟨t, ht, hx⟩)⟩, p.nd, fun q hq => ⟨let ⟨⟨t, ht, hx⟩, _⟩ := p.wh q hq; (ok t ht).2 _ hx, (p.wh q hq).2⟩, fun q hq => (p.wh q hq).1⟩
theorem Prt.wl {L : Hld} {W : Lvs} {don sheets : List Str} (p : Prt L W don) (ok : ∀ t ∈ L, Ok sheets t.2.2) : W.length ≤ sheets.length := by
  have := nodup_sub (W.map (·.1)) sheets p.nd fun x hx => by
    obtain ⟨q, hq, rfl⟩ := List.mem_map.mp hx
    obtain ⟨⟨t, ht, hx⟩, _⟩ := p.wh q hq
    exact (ok t ht).2 _ hx
  rwa [List.length_map] at this
/-- an item that is set where it isn't there -/
theorem z_setd {H : Hp} {lv : Addr} {W : Lvs} {x : Str} {n : Int} {Q : VK} (h : H lv = some (.dK (lvK W))) (l : W.length ≤ 100) (old : x ∈ W.map (·.1) → Q (.int (lfn W x)) H) (new : x ∉ W.map (·.1) → Q (.int n) (upd H lv (.dK (lvK (W ++ [(x, n)]))))) :
    ∃ (kvs : List (Key × V)) (k : Key), H lv = some (.dK kvs) ∧ V.str x = kV k ∧ kvs.length < sizeLine ∧ (∀ v, valV kvs k = some v → Q v H) ∧ (valV kvs k = none → Q (.int n) (upd H lv (.dK (putK kvs k (.int n))))) := by
  refine ⟨lvK W, key x, h, rfl, szl (by rw [lv_len]; omega), fun v hv => ?_, fun hn => ?_⟩
  · by_cases hx : x ∈ W.map (·.1)
    · rw [lv_val hx] at hv
      cases hv; exact old hx
    · rw [lv_none hx] at hv; cases hv
  · by_cases hx : x ∈ W.map (·.1)
    · rw [lv_val hx] at hn; cases hn
    · rw [lv_put hx]; exact new hx
theorem fin_world {a g wa hd lv br : Addr} {F H F' H' : Hp} {B B' : Int} {L : Hld} {W : Lvs} {bs : List (Addr × Str × Str)} {Q : VK} (Z : Cz a g F H F' H' B') (le : B' ≤ B + 1000) (hwa : F' wa = some (.dK (wK hd lv br))) (hd0 : H hd = none) (lv0 : H lv = none) (ne : hd ≠ lv)
    (fhd : F' hd = none) (flv : F' lv = none) (hhd : H' hd = some (.dK (heldK L))) (hlv : H' lv = some (.dK (lvK W))) (hb : F' br = some (.lst (bs.map fun t => V.ref t.1))) (ba : BarsA F' bs) (ha : HeldA F' L) (d : WD L W bs) (bn : (bs.map (·.2)).Nodup)
    (k : ∀ (wa hd lv br : Addr) (L : Hld) (W : Lvs) (bs : List (Addr × Str × Str)) F' H', Nx (MS a g) F H F' H' → Sta F' H' a g (B + 1000) → Wd F' wa hd lv br L W bs → WD L W bs → (bs.map (·.2)).Nodup → Q (.ref wa) H') : Q (.ref wa) H' := by
  have Z1 := Z.frz hd0 hhd fhd
  have flv1 : (upd F' hd (.dK (heldK L))) lv = none := by rw [upd_ne ne.symm]; exact flv
  have Z2 := (Z1.frz lv0 hlv flv1).mono le
  have s2 : Sub F' (upd (upd F' hd (.dK (heldK L))) lv (.dK (lvK W))) := fun x o h => upd_keep (upd_keep h fhd) flv1
  exact k wa hd lv br L W bs _ _ Z2.N Z2.S ⟨s2 _ _ hwa, by rw [upd_ne ne]; exact upd_same, upd_same, s2 _ _ hb, fun t ht => s2 _ _ (ba t ht), fun t ht => s2 _ _ (ha t ht)⟩ d bn
theorem num_ok {r : Int} {v : V} (r0 : 0 ≤ r) (r9 : r < 9) (h : v ∈ [V.int 1, .int 1, .int 1, .int 1, .int 2, .int 4, .int 8, .int 9, .int (1 + r)]) : ∃ n, v = .int n ∧ 1 ≤ n ∧ n ≤ 9 := by
  simp only [List.mem_cons, List.not_mem_nil, or_false] at h
  rcases h with rfl | rfl | rfl | rfl | rfl | rfl | rfl | rfl | rfl <;> exact ⟨_, rfl, by omega, by omega⟩
theorem alls_step {L : Hld} {i : Nat} {t} (h : L[i]? = some t) : alls (L.take (i + 1)) = alls (L.take i) ++ t.2.2 := by
  unfold alls
  rw [List.take_succ, h, List.map_append, List.flatten_append]; simp
theorem take_step {α : Type} {l : List α} {i : Nat} {x : α} (h : l[i]? = some x) : l.take (i + 1) = l.take i ++ [x] := by rw [List.take_succ, h]; rfl
section
variable {P : Program} {w : World} {K : PySem.W.Frag} {mg : Str → Option Value} {base : Heap}
theorem ok_world (T : Txt mg) (c_take : C8.Cal P w K mg base 2 "_law_take" spTake []) (c_names : C8.Cal P w K mg base 4 "_law_names" spNames []) (c_held : C8.Cal P w K mg base 3 "_law_held" spHeld []) (c_fences : C8.Cal P w K mg base 3 "_law_fences" spFences [])
    (c_levelled : C8.Cal P w K mg base 3 "_law_levelled" spLevelled []) {f fd} (D : C8.Def K mg "_law_world" s_world f fd) (b : Binds K fd P_world []) : C8.Cal P w K mg base 5 "_law_world" spWorld [] := by
  refine C8.cal0 D b .nil sc_world (fun vs H Q E h => ?_) (fun cdv A outer s H vs Q E hr h => ?_)
  · obtain ⟨F, a, g, n, B, rfl, _⟩ := h
    rfl
  · obtain ⟨F, a, g, n, B, rfl, n2, n6, sF, S, hB, k⟩ := h
    have hu := hu_of hr
    refine ⟨_, (pss_cons (ps_par (i := 2) (j := 3) rfl sc_world.nd rfl rfl (by decide) rfl rfl (pa_cons (C8.pe_c c_names hr (by decide) rfl (pa_cons (pv 0) (pa_cons (pe_op op_add pe_int (C8.pe_c c_take hr (by decide) rfl (pa_cons (pv 0) (pa_cons (pv 1) pa_nil)))) pa_nil))) (pa_cons (C8.pe_c c_names hr (by decide) rfl (pa_cons (pv 0) (pa_cons pe_int pa_nil))) pa_nil)) rfl)
  (pss_cons (ps_set (i := 4) sc_world.nd rfl (Or.inl rfl) (pe_slice (k_slL K) (pv 3) po_none (po_some (C8.pe_c c_take hr (by decide) rfl (pa_cons (pv 0) (pa_cons pe_int pa_nil))))))
  (pss_cons (ps_set (i := 5) sc_world.nd rfl (Or.inl rfl) (pe_disp (pps_cons pe_str (C8.pe_c c_held hr (by decide) rfl (pa_cons (pv 0) (pa_cons (pv 2) (pa_cons (pv 4) pa_nil)))) (pps_cons pe_str pe_dnewK pps_nil)) rfl rfl (by simp) (by decide)))
  (pss_cons (ps_dput hu (pv 5) pe_str (C8.pe_c c_fences hr (by decide) rfl (pa_cons (pv 0) (pa_cons (pv 2) pa_nil))) rfl)
  (pss_cons (ps_for PassesOwn.never rfl (k_pil K (pv 2)) (pg_name (i := 6) sc_world.nd rfl (Or.inl rfl))
    (pss_one (ps_for PassesOwn.never rfl (k_pil K (pe_dget hu (pe_dget hu (pv 5) pe_str (fun _ _ => rfl)) (pv 6) (fun _ _ => rfl))) (pg_name (i := 7) sc_world.nd rfl (Or.inl rfl))
    (pss_cons (ps_set (i := 8) sc_world.nd rfl (Or.inl rfl) (pe_ix (k_ixL K) (pe_lst (pa_cons pe_int (pa_cons pe_int (pa_cons pe_int (pa_cons pe_int (pa_cons pe_int (pa_cons pe_int (pa_cons pe_int (pa_cons pe_int (pa_cons (pe_op op_add pe_int (C8.pe_c c_take hr (by decide) rfl (pa_cons (pv 0) (pa_cons pe_int pa_nil)))) pa_nil)))))))))) (C8.pe_c c_take hr (by decide) rfl (pa_cons (pv 0) (pa_cons pe_int pa_nil))) (fun _ _ => rfl)))
  (pss_one (ps_expr (pe_dsetd (pe_dget hu (pv 5) pe_str (fun _ _ => rfl)) (pv 7) (pv 8) ⟨rfl, rfl, rfl, rfl⟩)))))))
  (pss_cons (ps_if (pt_cmpR op_eq (C8.pe_c c_take hr (by decide) rfl (pa_cons (pv 0) (pa_cons pe_int pa_nil))) pe_int (nomark _))
    (pss_one (ps_ret (C8.pe_c c_levelled hr (by decide) rfl (pa_cons (pv 0) (pa_cons (pv 5) (pa_cons (pv 3) pa_nil))))))
    pss_nil)
  (pss_one (ps_ret (pv 5))))))))), ?_⟩
    have Z := Cz.start sF S
    walk_at "zz"
    refine z_takeC Z (by omega) (by omega) (by omega) fun r1 H1 r10 r11 Z1 K1 => ?_
    walk_at "zz"
    refine z_namesC Z1 (by omega) (by omega) (by omega) fun fl folk F2 H2 Z2 s2 K2 hfl lf fnd fnm => ?_
    walk_at "zz"
    refine z_namesC Z2 (by omega) (by omega) (by omega) fun sh sheets F3 H3 Z3 s3 K3 hsh ls snd snm => ?_
    walk_at "zz"
    refine z_takeC Z3 (by omega) (by omega) (by omega) fun r2 H4 r20 r21 Z4 K4 => ?_
    walk_at "zz"
    have er2 : ((r2.toNat : Nat) : Int) = r2 := Int.toNat_of_nonneg r20
    refine z_slL (Z4.sub.sql hsh) fun so hso => ?_
    rw [← er2, cut_to]
    have Z5 := Z4.lay hso (.lst ((sheets.take r2.toNat).map V.str))
    have g5 : (upd F3 so (.lst ((sheets.take r2.toNat).map V.str))) so = some (.lst ((sheets.take r2.toNat).map V.str)) := upd_same
    have s5 : Sub F3 (upd F3 so (.lst ((sheets.take r2.toNat).map V.str))) := fun x o h => upd_keep h (Z4.sub.none hso)
    generalize upd F3 so (.lst ((sheets.take r2.toNat).map V.str)) = F5 at Z5 g5 s5
    generalize upd H4 so (.lst ((sheets.take r2.toNat).map V.str)) = H5 at Z5 ⊢
    have sm : ∀ x ∈ sheets.take r2.toNat, x ∈ sheets := fun x hx => List.mem_of_mem_take hx
    have sml : (sheets.take r2.toNat).length ≤ 12 := by rw [List.length_take]; omega
    have smn : (sheets.take r2.toNat).Nodup := snd.sublist (List.take_sublist _ _)
    walk_at "zz"
    refine fun wa hwa => ?_
    have wa0 := Z5.old hwa
    have fwa := Z5.sub.none hwa
    have Z6 := Z5.mak hwa (.dK [])
    have hw6 : (upd H5 wa (.dK [])) wa = some (.dK []) := upd_same
    generalize upd H5 wa (.dK []) = H6 at Z6 hw6 ⊢
    walk_at "zz"
    refine z_heldC Z6 (by omega) (s5 _ _ (s3 _ _ hfl)) g5 fnd (by omega) smn sml (fun x hx => (snm x (sm x hx)).ok) fun hd L F7 H7 Z7 s7 K7 hd0 nhd fhd7 hh7 hA7 eL okL => ?_
    obtain ⟨hw7, fw7⟩ := K7 _ _ hw6 wa0 fwa
    walk_at "zz"
    refine fun lv hlv => ?_
    have lv0 := Z7.old hlv
    have flv := Z7.sub.none hlv
    have Z8 := Z7.mak hlv (.dK [])
    have hw8 := upd_keep (o := .dK []) hw7 hlv
    have hh8 := upd_keep (o := .dK []) hh7 hlv
    have hv8 : (upd H7 lv (.dK [])) lv = some (.dK []) := upd_same
    have ne : hd ≠ lv := ne_of_none hh7 hlv
    have nwh : wa ≠ hd := ne_of_none hw6 nhd
    have nwv : wa ≠ lv := ne_of_none hw7 hlv
    generalize upd H7 lv (.dK []) = H8 at Z8 hw8 hh8 hv8 ⊢
    walk_at "zz"
    refine ⟨hw8, [(key "held", .ref hd), (key "leaves", .ref lv)], rfl, (by show 2 ≤ 15; decide), ?_⟩
    have Z9 := Z8.wr wa0 fw7 (.dK [(key "held", .ref hd), (key "leaves", .ref lv)])
    show gName 5 _ _ (upd H8 wa (.dK [(key "held", .ref hd), (key "leaves", .ref lv)])) _
    have hw9 : (upd H8 wa (.dK [(key "held", .ref hd), (key "leaves", .ref lv)])) wa = some (.dK [(key "held", .ref hd), (key "leaves", .ref lv)]) := upd_same
    have hh9 : (upd H8 wa (.dK [(key "held", .ref hd), (key "leaves", .ref lv)])) hd = some (.dK (heldK L)) := by rw [upd_ne nwh.symm]; exact hh8
    have hv9 : (upd H8 wa (.dK [(key "held", .ref hd), (key "leaves", .ref lv)])) lv = some (.dK []) := by rw [upd_ne nwv.symm]; exact hv8
    generalize upd H8 wa (.dK [(key "held", .ref hd), (key "leaves", .ref lv)]) = H9 at Z9 hw9 hh9 hv9 ⊢
    walk_at "zz"
    refine z_fencesC Z9 (by omega) (s7 _ _ (s5 _ _ (s3 _ _ hfl))) (by omega) fun br bs F10 H10 Z10 s10 K10 hb10 ba10 b36 bk bn => ?_
    obtain ⟨hw10, fw10⟩ := K10 _ _ hw9 wa0 fw7
    obtain ⟨hh10, fh10⟩ := K10 _ _ hh9 hd0 fhd7
    obtain ⟨hv10, fv10⟩ := K10 _ _ hv9 lv0 flv
    walk_at "zz"
    refine z_dputS hw10 (szl (by show 2 ≤ 100000; decide)) (show putK _ _ _ = wK hd lv br by rfl) ?_
    have Z11 := Z10.wr wa0 fw10 (.dK (wK hd lv br))
    have hw11 : (upd H10 wa (.dK (wK hd lv br))) wa = some (.dK (wK hd lv br)) := upd_same
    have hh11 : (upd H10 wa (.dK (wK hd lv br))) hd = some (.dK (heldK L)) := by rw [upd_ne nwh.symm]; exact hh10
    have hv11 : (upd H10 wa (.dK (wK hd lv br))) lv = some (.dK (lvK [])) := by rw [upd_ne nwv.symm]; exact hv10
    generalize upd H10 wa (.dK (wK hd lv br)) = H11 at Z11 hw11 hh11 hv11 ⊢
    have Z12 := Z11.frz wa0 hw11 fw10
    have gw : (upd F10 wa (.dK (wK hd lv br))) wa = some (.dK (wK hd lv br)) := upd_same
    have s12 : Sub F10 (upd F10 wa (.dK (wK hd lv br))) := fun x o h => upd_keep h fw10
    have fh12 : (upd F10 wa (.dK (wK hd lv br))) hd = none := by rw [upd_ne nwh.symm]; exact fh10
    have fv12 : (upd F10 wa (.dK (wK hd lv br))) lv = none := by rw [upd_ne nwv.symm]; exact fv10
    generalize upd F10 wa (.dK (wK hd lv br)) = F12 at Z12 gw s12 fh12 fv12
    have gfl := s12 _ _ (s10 _ _ (s7 _ _ (s5 _ _ (s3 _ _ hfl))))
    have gsh := s12 _ _ (s10 _ _ (s7 _ _ (s5 _ _ hsh)))
    have gb := s12 _ _ hb10
    have gba : BarsA F12 bs := fun t ht => s12 _ _ (ba10 t ht)
    have gA : HeldA F12 L := fun t ht => s12 _ _ (s10 _ _ (hA7 t ht))
    have Ll : L.length = folk.length := by rw [← eL, List.length_map]
    have und : (L.map (·.1)).Nodup := by rw [eL]; exact fnd
    have okS : ∀ t ∈ L, Ok sheets t.2.2 := fun t ht => ⟨(okL t ht).1, fun x hx => sm x ((okL t ht).2 x hx)⟩
    have Z13 := Z12.mono (show _ ≤ B + 500 by omega)
    clear Z Z1 Z2 Z3 Z4 Z5 Z6 Z7 Z8 Z9 Z10 Z11 Z12 K1 K2 K3 K4 K7 K10
    walk_at "zz"
    refine z_loopL (xs := folk.map V.str) (Z13.sub.sql gfl) (fun i σ' H' => ∃ (W : Lvs) (v6 v7 v8 : Option V), σ' = [some (.ref a), some (.int n), some (.ref fl), some (.ref sh), some (.ref so), some (.ref wa), v6, v7, v8] ∧
      Cz a g F H F12 H' (B + 500 + 24 * i) ∧ H' hd = some (.dK (heldK L)) ∧ H' lv = some (.dK (lvK W)) ∧ Prt L W (alls (L.take i)))
      ⟨[], none, none, none, rfl, Z13.mono (by omega), hh11, hv11, Prt.nil⟩ (fun i σ' H' _ ⟨_, _, _, _, _, Z, _⟩ => Z.sub.sql gfl) ?_ ?_
    · rintro i x σ' H14 hi ⟨W, v6, v7, v8, rfl, Z14, hh14, hv14, pr⟩
      obtain ⟨person, hper, rfl⟩ := at_str hi
      obtain ⟨t, ht, rfl⟩ : ∃ t, L[i]? = some t ∧ t.1 = person := by
        rw [← eL, List.getElem?_map] at hper
        cases e : L[i]? with
        | none => rw [e] at hper; cases hper
        | some t => rw [e] at hper; exact ⟨t, rfl, Option.some.inj hper⟩
      have tm := List.mem_of_getElem? ht
      have il : i < L.length := (List.getElem?_eq_some_iff.mp ht).1
      have tl := (okS t tm).len
      walk_at "zz"
      refine z_dgetR (Z14.sub.rd gw) w_held ?_
      walk_at "zz"
      refine z_dgetR (.inl hh14) (held_val und tm) ?_
      refine z_loopL (xs := t.2.2.map V.str) (Z14.sub.sql (gA t tm)) (fun j σ' H' => ∃ (W : Lvs) (v7 v8 : Option V), σ' = [some (.ref a), some (.int n), some (.ref fl), some (.ref sh), some (.ref so), some (.ref wa), some (.str t.1), v7, v8] ∧
        Cz a g F H F12 H' (B + 500 + 24 * i + 2 * j) ∧ H' hd = some (.dK (heldK L)) ∧ H' lv = some (.dK (lvK W)) ∧ Prt L W (alls (L.take i) ++ t.2.2.take j))
        ⟨W, v7, v8, rfl, Z14.mono (by omega), hh14, hv14, by rw [List.take_zero, List.append_nil]; exact pr⟩ (fun i σ' H' _ ⟨_, _, _, _, Z, _⟩ => Z.sub.sql (gA t tm)) ?_ ?_
      · rintro j x σ' H15 hj ⟨W, v7, v8, rfl, Z15, hh15, hv15, pr⟩
        obtain ⟨pg, hpg, rfl⟩ := at_str hj
        have jl : j < t.2.2.length := (List.getElem?_eq_some_iff.mp hpg).1
        have wl := pr.wl okS
        walk_at "zz"
        refine z_takeC Z15 (by omega) (by omega) (by omega) fun r H16 r0 r9 Z16 K16 => ?_
        obtain ⟨hh16, _⟩ := K16 _ _ hh15 hd0 fh12
        obtain ⟨hv16, _⟩ := K16 _ _ hv15 lv0 fv12
        walk_at "zz"
        refine ⟨sz (by show 9 ≤ 100000; decide), fun q hq => ?_⟩
        have Z17 := Z16.mak hq (.lst [.int 1, .int 1, .int 1, .int 1, .int 2, .int 4, .int 8, .int 9, .int (1 + r)])
        have hh17 := upd_keep (o := .lst [.int 1, .int 1, .int 1, .int 1, .int 2, .int 4, .int 8, .int 9, .int (1 + r)]) hh16 hq
        have hv17 := upd_keep (o := .lst [.int 1, .int 1, .int 1, .int 1, .int 2, .int 4, .int 8, .int 9, .int (1 + r)]) hv16 hq
        have hq17 : (upd H16 q (.lst [.int 1, .int 1, .int 1, .int 1, .int 2, .int 4, .int 8, .int 9, .int (1 + r)])) q = some (.lst [.int 1, .int 1, .int 1, .int 1, .int 2, .int 4, .int 8, .int 9, .int (1 + r)]) := upd_same
        have q0 := Z16.old hq
        have fq := Z16.sub.none hq
        generalize upd H16 q (.lst [.int 1, .int 1, .int 1, .int 1, .int 2, .int 4, .int 8, .int 9, .int (1 + r)]) = H17 at Z17 hh17 hv17 hq17 ⊢
        walk_at "zz"
        refine z_takeC Z17 (by omega) (by omega) (by omega) fun r' H18 r0' r9' Z18 K18 => ?_
        obtain ⟨hh18, _⟩ := K18 _ _ hh17 hd0 fh12
        obtain ⟨hv18, _⟩ := K18 _ _ hv17 lv0 fv12
        obtain ⟨hq18, _⟩ := K18 _ _ hq17 q0 fq
        obtain ⟨v, hv, hm⟩ := at_of_mem (xs := [V.int 1, .int 1, .int 1, .int 1, .int 2, .int 4, .int 8, .int 9, .int (1 + r)]) r0' (by show r' < 9; exact r9')
        obtain ⟨num, rfl, num1, num9⟩ := num_ok r0 r9 hm
        refine z_ixL (SqL.of hq18) hv ?_
        walk_at "zz"
        refine z_dgetR (Z18.sub.rd gw) w_leaves ?_
        refine ⟨lv, rfl, .inl ⟨_, .inl hv18⟩, ?_⟩
        walk_at "zz"
        refine z_setd hv18 (by omega) (fun hx => ?_) (fun no => ?_)
        · walk_at "zz"
          exact ⟨W, _, _, rfl, Z18.mono (by omega), hh18, hv18, by rw [take_step hpg, ← List.append_assoc]; exact pr.old hx⟩
        · walk_at "zz"
          exact ⟨W ++ [(pg, num)], _, _, rfl, (Z18.wr lv0 fv12 _).mono (by omega), by rw [upd_ne ne]; exact hh18, upd_same, by rw [take_step hpg, ← List.append_assoc]; exact pr.new tm (List.mem_of_getElem? hpg) num1 num9 no⟩
      · rintro σ' H15 ⟨W, v7, v8, rfl, Z15, hh15, hv15, pr⟩
        rw [List.length_map] at Z15 pr
        rw [List.take_length, ← alls_step ht] at pr
        walk_at "zz"
        exact ⟨W, _, _, _, rfl, Z15.mono (by omega), hh15, hv15, pr⟩
    · rintro σ' H14 ⟨W, v6, v7, v8, rfl, Z14, hh14, hv14, pr⟩
      rw [List.length_map] at Z14 pr
      rw [← Ll, List.take_length] at pr
      have ok := pr.whole und okS
      have data : ∀ (L' : Hld) (W' : Lvs), L'.map (·.1) = L.map (·.1) → WOk sheets L' W' → WD L' W' bs := fun L' W' e o => by
        have le : L'.length = L.length := by have := congrArg List.length e; simpa using this
        exact ⟨by omega, by omega, fun t ht => fnm _ (by rw [← eL, ← e]; exact List.mem_map_of_mem ht), ⟨sheets, by omega, snm, o⟩, b36, fun t ht => by rw [e, eL]; exact bk t ht⟩
      walk_at "zz"
      refine z_takeC Z14 (by omega) (by omega) (by omega) fun r H15 r0 r1 Z15 K15 => ?_
      obtain ⟨hh15, _⟩ := K15 _ _ hh14 hd0 fh12
      obtain ⟨hv15, _⟩ := K15 _ _ hv14 lv0 fv12
      walk_at "zz"
      refine z_ite (fun _ => ?_) (fun _ => ?_)
      · walk_at "zz"
        refine z_levelledC Z15 (by omega) gw fh12 fv12 hd0 lv0 ne hh15 hv15 gA gsh (by omega) (fun x hx => (snm x hx).ok) (by omega) (by omega) ok fun L' W' F16 H16 Z16 s16 hh16 hv16 fh16 fv16 hA16 eL16 ok16 => ?_
        exact fin_world Z16 (by omega) (s16 _ _ gw) hd0 lv0 ne fh16 fv16 hh16 hv16 (s16 _ _ gb) (fun t ht => s16 _ _ (gba t ht)) hA16 (data L' W' eL16 ok16) (bn fnd) k
      · walk_at "zz"
        exact fin_world Z15 (by omega) gw hd0 lv0 ne fh12 fv12 hh15 hv15 gb gba gA (data L W rfl ok) (bn fnd) k
end
end EV
end

section
set_option maxHeartbeats 2000000
local macro_rules | `(tactic| walk_at "za") => `(tactic| (first | exact Or.inl ⟨by omega, by omega⟩ | exact Or.inr ⟨by omega, by omega⟩ | exact ⟨by omega, by omega⟩ | exact ⟨by omega, by omega, by omega⟩ | omega))
local macro_rules | `(tactic| walk_at "z") => `(tactic| (first
  | with_reducible refine EV.z_seq ?_ | with_reducible refine EV.z_next ?_ | with_reducible refine EV.z_nx ?_ | with_reducible refine EV.z_rt ?_ | with_reducible refine EV.z_asg ?_ | with_reducible refine EV.z_name ?_
  | with_reducible refine EV.z_drop ?_ | with_reducible refine EV.z_ret ?_ | with_reducible refine EV.z_if ?_
  | ((with_reducible refine EV.z_var (v := ?vv) ?hv ?_); (case hv => exact rfl)) | with_reducible refine EV.z_c ?_ | with_reducible refine EV.z_op ?_ | with_reducible refine EV.z_un ?_ | with_reducible refine EV.z_I0 ?_ | with_reducible refine EV.z_U ?_ | ((with_reducible refine EV.z_I ?hc ?_); (case hc => walk_at "za"))
  | ((with_reducible refine EV.z_eq ?hv ?_); (case hv => exact rfl)) | ((with_reducible refine EV.z_ne ?hv ?_); (case hv => exact rfl))
  | with_reducible refine EV.z_test ?_ | with_reducible refine EV.z_bl ?_ | with_reducible refine EV.z_B ?_ | with_reducible refine EV.z_and ?_ | with_reducible refine EV.z_or ?_ | with_reducible refine EV.z_not ?_ | with_reducible refine EV.z_andV ?_
  | with_reducible refine EV.z_orV ?_ | with_reducible refine EV.z_notV ?_ | with_reducible refine EV.z_ifE ?_ | with_reducible refine EV.z_nil ?_ | with_reducible refine EV.z_cons ?_ | with_reducible refine EV.z_tup ?_ | with_reducible refine EV.z_lst ?_
  | with_reducible refine EV.z_cb ?_ | with_reducible refine EV.z_call ?_ | with_reducible refine EV.z_dget ?_ | with_reducible refine EV.z_dput ?_ | with_reducible refine EV.z_chain ?_ | with_reducible refine EV.z_then ?_ | with_reducible refine EV.z_fld ?_ | with_reducible refine EV.z_bm ?_
  | with_reducible refine EV.z_par ?_ | with_reducible refine EV.z_par3 ?_ | with_reducible refine EV.z_ex2 ?_ | with_reducible refine EV.z_ex3 ?_ | with_reducible refine EV.z_tyes ?_ | ((with_reducible refine EV.z_wipe ?hv ?_); (case hv => exact rfl))
  | with_reducible refine EV.z_lc ?_ | with_reducible refine EV.z_ltS ?_ | with_reducible refine EV.z_disp ?_ | with_reducible refine EV.z_pc ?_ | with_reducible refine EV.z_pn ?_ | with_reducible refine EV.z_m1 ?_ | with_reducible refine EV.z_isS ?_ | with_reducible refine EV.z_sl ?_ | with_reducible refine EV.z_np ?_ | with_reducible refine EV.z_pt ?_ | with_reducible refine EV.z_exI ?_ | with_reducible refine EV.z_is ?_ | with_reducible refine EV.z_istr ?_ | with_reducible refine EV.z_no ?_ | with_reducible refine EV.z_yes ?_ | with_reducible refine EV.z_for ?_ | with_reducible refine EV.z_il ?_ | with_reducible refine EV.z_it ?_ | with_reducible refine EV.z_r1 ?_ | with_reducible refine EV.z_ik ?_ | with_reducible refine EV.z_din ?_ | with_reducible refine EV.z_dnin ?_ | with_reducible refine EV.z_dsd ?_ | with_reducible refine EV.z_gs ?_ | with_reducible refine EV.z_gc ?_ | with_reducible refine EV.z_gn ?_ | with_reducible refine EV.z_turn ?_))
local macro_rules | `(tactic| walk_at "zz") => `(tactic| repeat walk_at "z")
namespace EV
open PySem PySem.Spec PyProof.Rows L2
def spReady : Sp := fun vs H Q _ => ∃ (F : Hp) (a g : Addr) (n B : Int), vs = [.ref a, .int n] ∧ 2 ≤ n ∧ n ≤ 6 ∧ Sub F H ∧ Sta F H a g B ∧ B + 1100 < 1000000000 ∧
  ∀ (wa hd lv br : Addr) (L : Hld) (W : Lvs) (bs : List (Addr × Str × Str)) F' H', Nx (MS a g) F H F' H' → Sta F' H' a g (B + 1100) → Wd F' wa hd lv br L W bs → WD L W bs → (bs.map (·.2)).Nodup → Q (.ref wa) H'
theorem cut_at (xs : List Str) (i j : Nat) : cutV (xs.map V.str) (some (i : Int)) (some (j : Int)) = ((xs.drop (min i xs.length)).take (min j xs.length - min i xs.length)).map V.str := by
  unfold cutV
  rw [HT.sIx_nat, HT.sIx_nat, List.length_map, List.map_take, List.map_drop]
theorem Prt.weakD {L : Hld} {W : Lvs} {d1 d2 : List Str} (p : Prt L W d1) (h : ∀ x ∈ d2, x ∈ d1) : Prt L W d2 := ⟨p.nd, p.wh, fun x hx => p.cov x (h x hx)⟩
section
variable {P : Program} {w : World} {K : PySem.W.Frag} {mg : Str → Option Value} {base : Heap}
theorem ok_ready (T : Txt mg) (c_take : C8.Cal P w K mg base 2 "_law_take" spTake []) (c_names : C8.Cal P w K mg base 4 "_law_names" spNames []) (c_fences : C8.Cal P w K mg base 3 "_law_fences" spFences [])
    (c_levelled : C8.Cal P w K mg base 3 "_law_levelled" spLevelled []) (c_world : C8.Cal P w K mg base 5 "_law_world" spWorld []) {f fd} (D : C8.Def K mg "_law_ready" s_ready f fd) (b : Binds K fd P_ready []) : C8.Cal P w K mg base 6 "_law_ready" spReady [] := by
  refine C8.cal0 D b .nil sc_ready (fun vs H Q E h => ?_) (fun cdv A outer s H vs Q E hr h => ?_)
  · obtain ⟨F, a, g, n, B, rfl, _⟩ := h
    rfl
  · obtain ⟨F, a, g, n, B, rfl, n2, n6, sF, S, hB, k⟩ := h
    have hu := hu_of hr
    refine ⟨_, (pss_cons (ps_if (pt_cmpR op_eq (C8.pe_c c_take hr (by decide) rfl (pa_cons (pv 0) (pa_cons pe_int pa_nil))) pe_int (nomark _))
    (pss_one (ps_ret (C8.pe_c c_world hr (by decide) rfl (pa_cons (pv 0) (pa_cons (pv 1) pa_nil)))))
    pss_nil)
  (pss_cons (ps_par (i := 2) (j := 3) rfl sc_ready.nd rfl rfl (by decide) rfl rfl (pa_cons (C8.pe_c c_names hr (by decide) rfl (pa_cons (pv 0) (pa_cons (pe_op op_add pe_int (C8.pe_c c_take hr (by decide) rfl (pa_cons (pv 0) (pa_cons (pe_op op_sub (pv 1) pe_int) pa_nil)))) pa_nil))) (pa_cons (C8.pe_c c_names hr (by decide) rfl (pa_cons (pv 0) (pa_cons pe_int pa_nil))) pa_nil)) rfl)
  (pss_cons (ps_par3 (i := 4) (j := 5) (l := 6) rfl sc_ready.nd rfl rfl rfl (by decide) (by decide) (by decide) rfl rfl rfl (pa_cons (pe_ix (k_ixL K) (pe_lst (pa_cons pe_int (pa_cons pe_int (pa_cons pe_int (pa_cons pe_int pa_nil))))) (C8.pe_c c_take hr (by decide) rfl (pa_cons (pv 0) (pa_cons pe_int pa_nil))) (fun _ _ => rfl)) (pa_cons (C8.pe_c c_take hr (by decide) rfl (pa_cons (pv 0) (pa_cons pe_int pa_nil))) (pa_cons pe_int pa_nil))) rfl)
  (pss_cons (ps_set (i := 7) sc_ready.nd rfl (Or.inl rfl) (pe_disp (pps_cons pe_str pe_dnewK (pps_cons pe_str pe_dnewK (pps_cons pe_str (C8.pe_c c_fences hr (by decide) rfl (pa_cons (pv 0) (pa_cons (pv 2) pa_nil))) pps_nil))) rfl rfl (by simp) (by decide)))
  (pss_cons (ps_for PassesOwn.never rfl (k_pil K (pv 2)) (pg_name (i := 8) sc_ready.nd rfl (Or.inl rfl))
    (C8.pss_cut (ps_set (i := 9) sc_ready.nd rfl (Or.inl rfl) (pe_ifExp (PW.pt (pw_and (pt_cmpR op_eq (pv 5) pe_int (nomark _)) (pw_and1 (pt_cmpR op_eq (pv 6) pe_int (nomark _))))) (pe_ix (k_ixL K) (pv 3) (pe_op op_sub (pv 6) pe_int) (fun _ _ => rfl)) (pe_ix (k_ixL K) (pv 3) (pv 6) (fun _ _ => rfl))))
  (C8.pss_cut (ps_set (i := 10) sc_ready.nd rfl (Or.inl rfl) (pe_op op_rep (pe_slice (k_slL K) (pv 3) (po_some pe_int) (po_some pe_int)) (pe_callTy call_int1 rfl T.b_int (by decide +kernel) (pa_cons (pe_or (pe_cmpR op_eq (pv 5) pe_int (nomark _)) (pe_one (pe_and (pe_cmpR op_eq (pv 5) pe_int (nomark _)) (pe_one (pe_cmpR op_eq (C8.pe_c c_take hr (by decide) rfl (pa_cons (pv 0) (pa_cons pe_int pa_nil))) pe_int (nomark _)))))) pa_nil))))
  (pss_cons (ps_dput hu (pe_dget hu (pv 7) pe_str (fun _ _ => rfl)) (pv 8) (pe_op op_cat (pe_lst (pa_cons (pv 9) pa_nil)) (pv 10)) rfl)
  (pss_cons (ps_for PassesOwn.never rfl (k_pil K (pe_op op_cat (pe_lst (pa_cons (pv 9) pa_nil)) (pv 10))) (pg_name (i := 11) sc_ready.nd rfl (Or.inl rfl))
    (pss_one (ps_expr (pe_dsetd (pe_dget hu (pv 7) pe_str (fun _ _ => rfl)) (pv 11) (pv 4) ⟨rfl, rfl, rfl, rfl⟩))))
  (pss_one (ps_set (i := 6) sc_ready.nd rfl (Or.inl rfl) (pe_op op_add (pv 6) pe_int))))))))
  (pss_one (ps_ret (C8.pe_c c_levelled hr (by decide) rfl (pa_cons (pv 0) (pa_cons (pv 7) (pa_cons (pv 3) pa_nil))))))))))), ?_⟩
    have Z := Cz.start sF S
    walk_at "zz"
    refine z_takeC Z (by omega) (by omega) (by omega) fun r1 H1 r10 r11 Z1 K1 => ?_
    walk_at "zz"
    refine z_ite (fun _ => ?_) (fun _ => ?_)
    · walk_at "zz"
      exact ⟨F, a, g, n, B + 1, rfl, n2, n6, Z1.sub, Z1.S, by omega, fun wa hd lv br L W bs F2 H2 N2 S2 d1 d2 bn => k wa hd lv br L W bs F2 H2 (Z1.N.trans N2) (S2.mono (by omega)) d1 d2 bn⟩
    walk_at "zz"
    refine z_takeC Z1 (by omega) (by omega) (by omega) fun r2 H2 r20 r21 Z2 K2 => ?_
    walk_at "zz"
    refine z_namesC Z2 (by omega) (by omega) (by omega) fun fl folk F3 H3 Z3 s3 K3 hfl lf fnd fnm => ?_
    walk_at "zz"
    refine z_namesC Z3 (by omega) (by omega) (by omega) fun sh sheets F4 H4 Z4 s4 K4 hsh ls snd snm => ?_
    walk_at "zz"
    refine ⟨sz (by decide), fun q hq => ?_⟩
    have Z5 := Z4.mak hq (.lst [.int 1, .int 1, .int 2, .int 3])
    have hq5 : (upd H4 q (.lst [.int 1, .int 1, .int 2, .int 3])) q = some (.lst [.int 1, .int 1, .int 2, .int 3]) := upd_same
    have q0 := Z4.old hq
    have fq := Z4.sub.none hq
    generalize upd H4 q (.lst [.int 1, .int 1, .int 2, .int 3]) = H5 at Z5 hq5 ⊢
    walk_at "zz"
    refine z_takeC Z5 (by omega) (by omega) (by omega) fun r3 H6 r30 r31 Z6 K6 => ?_
    obtain ⟨hq6, _⟩ := K6 _ _ hq5 q0 fq
    obtain ⟨v, hv, hm⟩ := at_of_mem (xs := [V.int 1, .int 1, .int 2, .int 3]) r30 r31
    obtain ⟨num, rfl, num1, num9⟩ : ∃ n, v = .int n ∧ (1 : Int) ≤ n ∧ n ≤ 9 := by
      simp only [List.mem_cons, List.not_mem_nil, or_false] at hm
      rcases hm with rfl | rfl | rfl | rfl <;> exact ⟨_, rfl, by omega, by omega⟩
    refine z_ixL (SqL.of hq6) hv ?_
    walk_at "zz"
    refine z_takeC Z6 (by omega) (by omega) (by omega) fun way H7 way0 way1 Z7 K7 => ?_
    walk_at "zz"
    refine fun wa hwa => ?_
    have wa0 := Z7.old hwa
    have fwa := Z7.sub.none hwa
    have Z8 := Z7.mak hwa (.dK [])
    have hw8 : (upd H7 wa (.dK [])) wa = some (.dK []) := upd_same
    generalize upd H7 wa (.dK []) = H8 at Z8 hw8 ⊢
    walk_at "zz"
    refine fun hd hhd => ?_
    have hd0 := Z8.old hhd
    have fhd := Z8.sub.none hhd
    have nwh : wa ≠ hd := ne_of_none hw8 hhd
    have Z9 := Z8.mak hhd (.dK [])
    have hw9 := upd_keep (o := .dK []) hw8 hhd
    have hh9 : (upd H8 hd (.dK [])) hd = some (.dK []) := upd_same
    generalize upd H8 hd (.dK []) = H9 at Z9 hw9 hh9 ⊢
    walk_at "zz"
    refine fun lv hlv => ?_
    have lv0 := Z9.old hlv
    have flv := Z9.sub.none hlv
    have nwv : wa ≠ lv := ne_of_none hw9 hlv
    have ne : hd ≠ lv := ne_of_none hh9 hlv
    have Z10 := Z9.mak hlv (.dK [])
    have hw10 := upd_keep (o := .dK []) hw9 hlv
    have hh10 := upd_keep (o := .dK []) hh9 hlv
    have hv10 : (upd H9 lv (.dK [])) lv = some (.dK []) := upd_same
    generalize upd H9 lv (.dK []) = H10 at Z10 hw10 hh10 hv10 ⊢
    walk_at "zz"
    refine z_fencesC Z10 (by omega) (s4 _ _ hfl) (by omega) fun br bs F11 H11 Z11 s11 K11 hb11 ba11 b36 bk bn => ?_
    obtain ⟨hw11, fw11⟩ := K11 _ _ hw10 wa0 fwa
    obtain ⟨hh11, fh11⟩ := K11 _ _ hh10 hd0 fhd
    obtain ⟨hv11, fv11⟩ := K11 _ _ hv10 lv0 flv
    walk_at "zz"
    refine ⟨hw11, wK hd lv br, rfl, (by show 3 ≤ 15; decide), ?_⟩
    show gName 7 _ _ (upd H11 wa (.dK (wK hd lv br))) _
    have Z12 := (Z11.wr wa0 fw11 (.dK (wK hd lv br))).frz wa0 upd_same fw11
    have hh12 : (upd H11 wa (.dK (wK hd lv br))) hd = some (.dK (heldK [])) := by rw [upd_ne nwh.symm]; exact hh11
    have hv12 : (upd H11 wa (.dK (wK hd lv br))) lv = some (.dK (lvK [])) := by rw [upd_ne nwv.symm]; exact hv11
    generalize upd H11 wa (.dK (wK hd lv br)) = H12 at Z12 hh12 hv12 ⊢
    have gw : (upd F11 wa (.dK (wK hd lv br))) wa = some (.dK (wK hd lv br)) := upd_same
    have s12 : Sub F11 (upd F11 wa (.dK (wK hd lv br))) := fun x o h => upd_keep h fw11
    have fh12 : (upd F11 wa (.dK (wK hd lv br))) hd = none := by rw [upd_ne nwh.symm]; exact fh11
    have fv12 : (upd F11 wa (.dK (wK hd lv br))) lv = none := by rw [upd_ne nwv.symm]; exact fv11
    generalize upd F11 wa (.dK (wK hd lv br)) = F12 at Z12 gw s12 fh12 fv12
    have gfl := s12 _ _ (s11 _ _ (s4 _ _ hfl))
    have gsh := s12 _ _ (s11 _ _ hsh)
    have gb := s12 _ _ hb11
    have gba : BarsA F12 bs := fun t ht => s12 _ _ (ba11 t ht)
    have Z13 := Z12.mono (show _ ≤ B + 400 by omega)
    clear Z Z1 Z2 Z3 Z4 Z5 Z6 Z7 Z8 Z9 Z10 Z11 Z12 K1 K2 K3 K4 K6 K7 K11
    have sl : sheets.length = 12 := by omega
    have dis : ∀ x ∈ sheets.take 6, ∀ y ∈ sheets.drop 6, x ≠ y := by
      have := snd
      rw [← List.take_append_drop 6 sheets] at this
      exact fun x hx y hy => (List.nodup_append.mp this).2.2 x hx y hy
    walk_at "zz"
    refine z_loopL (xs := folk.map V.str) (Z13.sub.sql gfl) (fun i σ' H' => ∃ (F' : Hp) (L : Hld) (W : Lvs) (v8 v9 v10 v11 : Option V), σ' = [some (.ref a), some (.int n), some (.ref fl), some (.ref sh), some (.int num), some (.int way), some (.int i), some (.ref wa), v8, v9, v10, v11] ∧
      Cz a g F H F' H' (B + 400 + i) ∧ Sub F12 F' ∧ F' hd = none ∧ F' lv = none ∧ H' hd = some (.dK (heldK L)) ∧ H' lv = some (.dK (lvK W)) ∧ HeldA F' L ∧ L.map (·.1) = folk.take i ∧ (∀ t ∈ L, Ok sheets t.2.2) ∧ Prt L W (alls L))
      ⟨F12, [], [], none, none, none, none, rfl, Z13.mono (by omega), fun _ _ e => e, fh12, fv12, hh12, hv12, fun t ht => (by cases ht), rfl, fun t ht => (by cases ht), Prt.nil⟩ (fun i σ' H' _ ⟨F', _, _, _, _, _, _, _, Z, s, _⟩ => Z.sub.sql (s _ _ gfl)) ?_ ?_
    · rintro i x σ' H14 hi ⟨F14, L, W, v8, v9, v10, v11, rfl, Z14, s14, fh14, fv14, hh14, hv14, hA14, eL, okL, pr⟩
      obtain ⟨person, hper, rfl⟩ := at_str hi
      have hif : i < folk.length := (List.getElem?_eq_some_iff.mp hper).1
      have hLl : L.length = i := by
        have := congrArg List.length eL
        rw [List.length_map, List.length_take] at this
        omega
      have pnew : person ∉ L.map (·.1) := by
        rw [eL]
        intro z
        obtain ⟨j, hj, ej⟩ := List.getElem_of_mem z
        rw [List.length_take] at hj
        rw [List.getElem_take] at ej
        have e2 := (List.getElem?_eq_some_iff.mp hper).2
        have := (List.getElem_inj fnd).mp (ej.trans e2.symm)
        omega
      walk_at "zz"
      refine z_cut (fun σ' H' => H' = H14 ∧ ∃ own : Str, σ' = [some (.ref a), some (.int n), some (.ref fl), some (.ref sh), some (.int num), some (.int way), some (.int i), some (.ref wa), some (.str person), some (.str own), v10, v11] ∧ own ∈ sheets.take 6) ?_ ?_
      · have at' : ∀ j : Nat, j < 6 → ∃ own, atI (sheets.map V.str) (j : Int) = some (.str own) ∧ own ∈ sheets.take 6 := fun j hj => by
          have hjs : j < sheets.length := by omega
          exact ⟨sheets[j], atI_nat (by rw [List.getElem?_map, List.getElem?_eq_getElem hjs]; rfl), by rw [List.mem_take_iff_getElem]; exact ⟨j, by omega, rfl⟩⟩
        have here : ∀ σ2 : L2.St, σ2 = [some (.ref a), some (.int n), some (.ref fl), some (.ref sh), some (.int num), some (.int way), some (.int i), some (.ref wa), some (.str person), v9, v10, v11] →
          tOp (rIxL K) (tVar 3) (tVar 6) σ2 H14 fun x H1 => gName 9 x σ2 H1 fun σ' H' => H' = H14 ∧ ∃ own : Str, σ' = [some (.ref a), some (.int n), some (.ref fl), some (.ref sh), some (.int num), some (.int way), some (.int i), some (.ref wa), some (.str person), some (.str own), v10, v11] ∧ own ∈ sheets.take 6 := by
          rintro σ2 rfl
          walk_at "zz"
          obtain ⟨own, e, m⟩ := at' i (by omega)
          refine z_ixL (Z14.sub.sql (s14 _ _ gsh)) e ?_
          walk_at "zz"
          exact ⟨rfl, own, rfl, m⟩
        walk_at "zz"
        refine z_ite (fun _ => ?_) (fun _ => ?_)
        · walk_at "zz"
          refine z_ite (fun e1 => ?_) (fun _ => ?_)
          · walk_at "zz"
            have e1' : (i : Int) = 1 := V.int.inj e1
            obtain ⟨own, e, m⟩ := at' 0 (by omega)
            refine z_ixL (Z14.sub.sql (s14 _ _ gsh)) (by rw [e1']; exact e) ?_
            walk_at "zz"
            exact ⟨rfl, own, rfl, m⟩
          · exact here _ rfl
        · exact here _ rfl
      · rintro σ' H15 ⟨rfl, own, rfl, hown⟩
        let Mid : L2.St → Hp → Prop := fun σ' H' => ∃ (c : Addr) (qs : List Str), σ' = [some (.ref a), some (.int n), some (.ref fl), some (.ref sh), some (.int num), some (.int way), some (.int i), some (.ref wa), some (.str person), some (.str own), some (.ref c), v11] ∧
          Cz a g F H F14 H' (B + 400 + i + 1) ∧ H' hd = some (.dK (heldK L)) ∧ H' lv = some (.dK (lvK W)) ∧ H' c = some (.lst (qs.map V.str)) ∧ qs.Nodup ∧ ∀ x ∈ qs, x ∈ sheets.drop 6
        refine z_cut Mid ?_ ?_
        · walk_at "zz"
          refine z_slL (Z14.sub.sql (s14 _ _ gsh)) fun q hq => ?_
          rw [show (6 : Int) = ((6 : Nat) : Int) from rfl, show (7 : Int) = ((7 : Nat) : Int) from rfl, cut_at, sl]
          have hq0 := Z14.old hq
          have fq := Z14.sub.none hq
          have Z15 := Z14.mak hq (.lst (((sheets.drop (min 6 12)).take (min 7 12 - min 6 12)).map V.str))
          have hh15 := upd_keep (o := .lst (((sheets.drop (min 6 12)).take (min 7 12 - min 6 12)).map V.str)) hh14 hq
          have hv15 := upd_keep (o := .lst (((sheets.drop (min 6 12)).take (min 7 12 - min 6 12)).map V.str)) hv14 hq
          have hq15 : (upd H15 q (.lst (((sheets.drop (min 6 12)).take (min 7 12 - min 6 12)).map V.str))) q = some (.lst (((sheets.drop (min 6 12)).take (min 7 12 - min 6 12)).map V.str)) := upd_same
          generalize upd H15 q (.lst (((sheets.drop (min 6 12)).take (min 7 12 - min 6 12)).map V.str)) = H16 at Z15 hh15 hv15 hq15 ⊢
          have cnd : ((sheets.drop (min 6 12)).take (min 7 12 - min 6 12)).Nodup := (snd.sublist (List.drop_sublist _ _)).sublist (List.take_sublist _ _)
          have cin : ∀ x ∈ (sheets.drop (min 6 12)).take (min 7 12 - min 6 12), x ∈ sheets.drop 6 := fun x hx => List.mem_of_mem_take hx
          have cl : ((sheets.drop (min 6 12)).take (min 7 12 - min 6 12)).length ≤ 1 := by rw [List.length_take]; omega
          generalize (sheets.drop (min 6 12)).take (min 7 12 - min 6 12) = cs at hq15 cnd cin cl
          have cont : ∀ (b : Bool) H17, Cz a g F H F14 H17 (B + 400 + i + 1) → H17 hd = some (.dK (heldK L)) → H17 lv = some (.dK (lvK W)) → H17 q = some (.lst (cs.map V.str)) →
            rRep (.ref q) (.int (if b = true then 1 else 0)) H17 fun x H1 => gName 10 x [some (.ref a), some (.int n), some (.ref fl), some (.ref sh), some (.int num), some (.int way), some (.int i), some (.ref wa), some (.str person), some (.str own), v10, v11] H1 Mid := by
            intro b H17 Z17 hh17 hv17 hq17
            have two : ∃ (m : Nat) (qs : List Str), (if b = true then (1 : Int) else 0) = (m : Int) ∧ m ≤ 1 ∧ (List.replicate m (cs.map V.str)).flatten = qs.map V.str ∧ qs.Nodup ∧ ∀ x ∈ qs, x ∈ sheets.drop 6 := by
              cases b with
              | true => exact ⟨1, cs, rfl, by omega, by simp, cnd, cin⟩
              | false => exact ⟨0, [], rfl, by omega, rfl, List.nodup_nil, fun x h => by cases h⟩
            obtain ⟨m, qs, em, m1, eq, qnd, qin⟩ := two
            rw [em]
            refine ⟨q, m, _, rfl, rfl, hq17, by omega, by omega, sz (by rw [List.length_map, Int.toNat_natCast]; exact Nat.le_trans (Nat.mul_le_mul cl m1) (by decide)), fun c hc => ?_⟩
            rw [Int.toNat_natCast, eq]
            walk_at "zz"
            exact ⟨c, qs, rfl, Z17.mak hc _, upd_keep hh17 hc, upd_keep hv17 hc, upd_same, qnd, qin⟩
          walk_at "zz"
          refine z_ite (fun _ => ?_) (fun _ => ?_)
          · exact .inr ⟨true, rfl, cont true _ (Z15.mono (by omega)) hh15 hv15 hq15⟩
          · walk_at "zz"
            refine z_ite (fun _ => ?_) (fun _ => ?_)
            · walk_at "zz"
              refine z_takeC Z15 (by omega) (by omega) (by omega) fun r H17 r0 r1 Z17 K17 => ?_
              obtain ⟨hh17, _⟩ := K17 _ _ hh15 hd0 fh14
              obtain ⟨hv17, _⟩ := K17 _ _ hv15 lv0 fv14
              obtain ⟨hq17, _⟩ := K17 _ _ hq15 hq0 fq
              walk_at "zz"
              exact .inr ⟨_, rfl, cont _ _ (Z17.mono (by omega)) hh17 hv17 hq17⟩
            · exact .inr ⟨false, rfl, cont false _ (Z15.mono (by omega)) hh15 hv15 hq15⟩
        · rintro σ' H16 ⟨c, qs, rfl, Z16, hh16, hv16, hc16, qnd, qin⟩
          have qno : own ∉ qs := fun h => dis own hown own (qin own h) rfl
          have okq : Ok sheets (own :: qs) := ⟨List.nodup_cons.mpr ⟨qno, qnd⟩, fun x hx => by
            rcases List.mem_cons.mp hx with rfl | hx
            · exact List.mem_of_mem_take hown
            · exact List.mem_of_mem_drop (qin x hx)⟩
          have ql := okq.len
          rw [List.length_cons] at ql
          walk_at "zz"
          refine ⟨sz (by show 1 ≤ 100000; decide), fun q1 hq1 => ?_⟩
          have Z17 := Z16.mak hq1 (.lst [.str own])
          have hh17 := upd_keep (o := .lst [.str own]) hh16 hq1
          have hv17 := upd_keep (o := .lst [.str own]) hv16 hq1
          have hc17 := upd_keep (o := .lst [.str own]) hc16 hq1
          have hq17 : (upd H16 q1 (.lst [.str own])) q1 = some (.lst [.str own]) := upd_same
          generalize upd H16 q1 (.lst [.str own]) = H17 at Z17 hh17 hv17 hc17 hq17 ⊢
          walk_at "zz"
          refine z_cat hq17 hc17 (by rw [List.length_map]; show 1 + qs.length ≤ _; omega) fun q2 hq2 => ?_
          show tDGet _ _ _ (upd H17 q2 (.lst ((own :: qs).map V.str))) _
          have f2 := Z17.sub.none hq2
          have Z18 := Z17.lay hq2 (.lst ((own :: qs).map V.str))
          have hh18 := upd_keep (o := .lst ((own :: qs).map V.str)) hh17 hq2
          have hv18 := upd_keep (o := .lst ((own :: qs).map V.str)) hv17 hq2
          have hc18 := upd_keep (o := .lst ((own :: qs).map V.str)) hc17 hq2
          have g2 : (upd F14 q2 (.lst ((own :: qs).map V.str))) q2 = some (.lst ((own :: qs).map V.str)) := upd_same
          have s18 : Sub F14 (upd F14 q2 (.lst ((own :: qs).map V.str))) := fun x o h => upd_keep h f2
          have fh18 : (upd F14 q2 (.lst ((own :: qs).map V.str))) hd = none := by rw [upd_ne (ne_of_none hh17 hq2)]; exact fh14
          have fv18 : (upd F14 q2 (.lst ((own :: qs).map V.str))) lv = none := by rw [upd_ne (ne_of_none hv17 hq2)]; exact fv14
          generalize upd F14 q2 (.lst ((own :: qs).map V.str)) = F18 at Z18 g2 s18 fh18 fv18
          generalize upd H17 q2 (.lst ((own :: qs).map V.str)) = H18 at Z18 hh18 hv18 hc18 ⊢
          walk_at "zz"
          refine z_dgetR (Z18.sub.rd (s18 _ _ (s14 _ _ gw))) w_held ?_
          walk_at "zz"
          refine z_dputS hh18 (szl (by rw [held_len]; omega)) (held_put (ps := own :: qs) pnew) ?_
          have Z19 := Z18.wr hd0 fh18 (.dK (heldK (L ++ [(person, q2, own :: qs)])))
          have hh19 : (upd H18 hd (.dK (heldK (L ++ [(person, q2, own :: qs)])))) hd = some (.dK (heldK (L ++ [(person, q2, own :: qs)]))) := upd_same
          have hv19 : (upd H18 hd (.dK (heldK (L ++ [(person, q2, own :: qs)])))) lv = some (.dK (lvK W)) := by rw [upd_ne ne.symm]; exact hv18
          have hc19 : (upd H18 hd (.dK (heldK (L ++ [(person, q2, own :: qs)])))) c = some (.lst (qs.map V.str)) := by rw [upd_ne (ne_of hc18 hh18 (fun z => nomatch z))]; exact hc18
          generalize upd H18 hd (.dK (heldK (L ++ [(person, q2, own :: qs)]))) = H19 at Z19 hh19 hv19 hc19 ⊢
          walk_at "zz"
          refine ⟨sz (by show 1 ≤ 100000; decide), fun q3 hq3 => ?_⟩
          have Z20 := Z19.mak hq3 (.lst [.str own])
          have hh20 := upd_keep (o := .lst [.str own]) hh19 hq3
          have hv20 := upd_keep (o := .lst [.str own]) hv19 hq3
          have hc20 := upd_keep (o := .lst [.str own]) hc19 hq3
          have hq20 : (upd H19 q3 (.lst [.str own])) q3 = some (.lst [.str own]) := upd_same
          generalize upd H19 q3 (.lst [.str own]) = H20 at Z20 hh20 hv20 hc20 hq20 ⊢
          walk_at "zz"
          refine z_cat hq20 hc20 (by rw [List.length_map]; show 1 + qs.length ≤ _; omega) fun q4 hq4 => ?_
          have f4 := Z20.sub.none hq4
          have Z21 := Z20.lay hq4 (.lst ((own :: qs).map V.str))
          have hh21 := upd_keep (o := .lst ((own :: qs).map V.str)) hh20 hq4
          have hv21 := upd_keep (o := .lst ((own :: qs).map V.str)) hv20 hq4
          have g4 : (upd F18 q4 (.lst ((own :: qs).map V.str))) q4 = some (.lst ((own :: qs).map V.str)) := upd_same
          have s21 : Sub F18 (upd F18 q4 (.lst ((own :: qs).map V.str))) := fun x o h => upd_keep h f4
          have fh21 : (upd F18 q4 (.lst ((own :: qs).map V.str))) hd = none := by rw [upd_ne (ne_of_none hh20 hq4)]; exact fh18
          have fv21 : (upd F18 q4 (.lst ((own :: qs).map V.str))) lv = none := by rw [upd_ne (ne_of_none hv20 hq4)]; exact fv18
          have g24 := s21 _ _ g2
          generalize upd F18 q4 (.lst ((own :: qs).map V.str)) = F21 at Z21 g4 s21 fh21 fv21 g24
          generalize hH21 : upd H20 q4 (.lst ((own :: qs).map V.str)) = H21 at Z21 hh21 hv21
          rw [show upd H20 q4 (.lst ([V.str own] ++ qs.map V.str)) = H21 from hH21]
          have okL' : ∀ t ∈ L ++ [(person, q2, own :: qs)], Ok sheets t.2.2 := fun t ht => by
            rcases List.mem_append.mp ht with ht | ht
            · exact okL t ht
            · rw [List.mem_singleton.mp ht]; exact okq
          have last : (person, q2, own :: qs) ∈ L ++ [(person, q2, own :: qs)] := List.mem_append_right _ (by simp)
          refine z_loopL (xs := (own :: qs).map V.str) (Z21.sub.sql g4) (fun j σ' H' => ∃ (W : Lvs) (v11 : Option V), σ' = [some (.ref a), some (.int n), some (.ref fl), some (.ref sh), some (.int num), some (.int way), some (.int i), some (.ref wa), some (.str person), some (.str own), some (.ref c), v11] ∧
            Cz a g F H F21 H' (B + 400 + i + 1) ∧ H' hd = some (.dK (heldK (L ++ [(person, q2, own :: qs)]))) ∧ H' lv = some (.dK (lvK W)) ∧ Prt (L ++ [(person, q2, own :: qs)]) W (alls L ++ (own :: qs).take j))
            ⟨W, v11, rfl, Z21, hh21, hv21, by rw [List.take_zero, List.append_nil]; exact pr.weak fun t ht => List.mem_append_left _ ht⟩ (fun i σ' H' _ ⟨_, _, _, Z, _⟩ => Z.sub.sql g4) ?_ ?_
          · rintro j x σ' H22 hj ⟨W, v11, rfl, Z22, hh22, hv22, pr⟩
            obtain ⟨pg, hpg, rfl⟩ := at_str hj
            have wl := pr.wl okL'
            walk_at "zz"
            refine z_dgetR (Z22.sub.rd (s21 _ _ (s18 _ _ (s14 _ _ gw)))) w_leaves ?_
            refine ⟨lv, rfl, .inl ⟨_, .inl hv22⟩, ?_⟩
            walk_at "zz"
            refine z_setd hv22 (by omega) (fun hx => ?_) (fun no => ?_)
            · walk_at "zz"
              exact ⟨W, _, rfl, Z22, hh22, hv22, by rw [take_step hpg, ← List.append_assoc]; exact pr.old hx⟩
            · walk_at "zz"
              exact ⟨W ++ [(pg, num)], _, rfl, Z22.wr lv0 fv21 _, by rw [upd_ne ne]; exact hh22, upd_same, by rw [take_step hpg, ← List.append_assoc]; exact pr.new last (List.mem_of_getElem? hpg) num1 num9 no⟩
          · rintro σ' H22 ⟨W, v11, rfl, Z22, hh22, hv22, pr⟩
            rw [List.length_map, List.take_length] at pr
            walk_at "zz"
            refine ⟨F21, L ++ [(person, q2, own :: qs)], W, _, _, _, _, rfl, Z22.mono (by omega), fun x o h => s21 _ _ (s18 _ _ (s14 _ _ h)), fh21, fv21, hh22, hv22, ?_, ?_, okL', ?_⟩
            · intro t ht
              rcases List.mem_append.mp ht with ht | ht
              · exact s21 _ _ (s18 _ _ (hA14 t ht))
              · rw [List.mem_singleton.mp ht]; exact g24
            · rw [List.map_append, eL, take_step hper]; rfl
            · have e : alls (L ++ [(person, q2, own :: qs)]) = alls L ++ own :: qs := by
                unfold alls
                rw [List.map_append, List.flatten_append]; simp
              rw [e]; exact pr
    · rintro σ' H14 ⟨F14, L, W, v8, v9, v10, v11, rfl, Z14, s14, fh14, fv14, hh14, hv14, hA14, eL, okL, pr⟩
      rw [List.length_map] at Z14 eL
      rw [List.take_length] at eL
      have und : (L.map (·.1)).Nodup := by rw [eL]; exact fnd
      have Ll : L.length = folk.length := by rw [← eL, List.length_map]
      have ok := pr.whole und okL
      have data : ∀ (L' : Hld) (W' : Lvs), L'.map (·.1) = L.map (·.1) → WOk sheets L' W' → WD L' W' bs := fun L' W' e o => by
        have le : L'.length = L.length := by have := congrArg List.length e; simpa using this
        exact ⟨by omega, by omega, fun t ht => fnm _ (by rw [← eL, ← e]; exact List.mem_map_of_mem ht), ⟨sheets, by omega, snm, o⟩, b36, fun t ht => by rw [e, eL]; exact bk t ht⟩
      walk_at "zz"
      refine z_levelledC Z14 (by omega) (s14 _ _ gw) fh14 fv14 hd0 lv0 ne hh14 hv14 hA14 (s14 _ _ gsh) (by omega) (fun x hx => (snm x hx).ok) (by omega) (by omega) ok fun L' W' F16 H16 Z16 s16 hh16 hv16 fh16 fv16 hA16 eL16 ok16 => ?_
      refine fin_world (B := B + 100) Z16 (by omega) (s16 _ _ (s14 _ _ gw)) hd0 lv0 ne fh16 fv16 hh16 hv16 (s16 _ _ (s14 _ _ gb)) (fun t ht => s16 _ _ (s14 _ _ (gba t ht))) hA16 (data L' W' eL16 ok16) (bn fnd) ?_
      exact fun wa hd lv br L W bs F2 H2 N2 S2 d1 d2 bn => k wa hd lv br L W bs F2 H2 N2 (S2.mono (by omega)) d1 d2 bn
end
end EV
end

section
set_option maxHeartbeats 2000000
/-! ### lists of texts in order, sums: no heap in here -/
namespace EV
open PySem PySem.Spec PyProof.Rows L2
theorem ltC : ∀ a b : List Nat, ltCps a b = decide (a < b)
  | [], [] => by decide
  | [], _ :: _ => by rw [ltCps]; simp
  | _ :: _, [] => by rw [ltCps]; simp
  | x :: a, y :: b => by
    rw [ltCps, ltC a b]
    by_cases h : x < y
    · have : x :: a < y :: b := List.cons_lt_cons_iff.mpr (.inl h)
      simp [h, this]
    · by_cases e : x = y
      · subst e
        have : (x :: a < x :: b) ↔ a < b := by rw [List.cons_lt_cons_iff]; simp
        simp [this]
      · have : ¬ x :: a < y :: b := fun z => by
          rcases List.cons_lt_cons_iff.mp z with z | z
          · exact h z
          · exact e z.1
        simp [h, e, this]
theorem str_ext {x y : Str} (h : x.cps.toList = y.cps.toList) : x = y := by
  cases x; cases y
  exact congrArg Str.mk (Array.toList_inj.mp h)
abbrev sle (x y : Str) : Prop := x.cps.toList ≤ y.cps.toList
theorem sle_anti {x y : Str} (h : sle x y) (g : sle y x) : x = y := str_ext (List.le_antisymm h g)
theorem sle_trans {x y z : Str} (h : sle x y) (g : sle y z) : sle x z := List.le_trans h g
theorem slt_trans {x y z : Str} (h : slt x y) (g : slt y z) : slt x z := List.lt_trans h g
theorem slt_irr (x : Str) : ¬ slt x x := List.lt_irrefl _
theorem slt_ne {x y : Str} (h : slt x y) : x ≠ y := fun e => slt_irr x (by rw [← e] at h; exact h)
theorem slt_asymm {x y : Str} (h : slt x y) : ¬ slt y x := List.lt_asymm h
theorem slt_tri {x y : Str} (h : x ≠ y) : slt x y ∨ slt y x := by
  by_cases a : slt x y
  · exact .inl a
  · by_cases b : slt y x
    · exact .inr b
    · exact absurd (sle_anti (List.not_lt.mp b) (List.not_lt.mp a)) h
theorem slt_le {x y : Str} (h : slt x y) : sle x y := List.not_lt.mp (slt_asymm h)
theorem sle_lt {x y : Str} (h : sle x y) (n : x ≠ y) : slt x y := (slt_tri n).resolve_right (List.not_lt.mpr h)
/-- in order -/
def Srt (l : List Str) : Prop := l.Pairwise sle
theorem rising_srt : ∀ (p : Str) (l : List Str), risingS p l = true → (p :: l).Pairwise sle
  | p, [], _ => List.pairwise_singleton _ _
  | p, x :: r, h => by
    have h1 : (!ltCps x.cps.toList p.cps.toList && risingS x r) = true := h
    rw [Bool.and_eq_true, ltC, Bool.not_eq_true', decide_eq_false_iff_not] at h1
    have h2 := rising_srt x r h1.2
    refine List.pairwise_cons.mpr ⟨fun y hy => ?_, h2⟩
    have px : sle p x := List.not_lt.mp h1.1
    rcases List.mem_cons.mp hy with rfl | hy
    · exact px
    · exact sle_trans px (List.rel_of_pairwise_cons h2 hy)
theorem srt_of : ∀ {l : List Str}, sortedS l = true → Srt l
  | [], _ => List.Pairwise.nil
  | x :: r, h => rising_srt x r h
theorem Srt.eq {l m : List Str} (h : Srt l) (g : Srt m) (p : l.Perm m) : l = m := p.eq_of_pairwise (fun _ _ _ _ => sle_anti) h g
/-! ### sums -/
theorem sum_perm {α : Type} (f : α → Int) {l m : List α} (p : l.Perm m) : (l.map f).sum = (m.map f).sum := by
  induction p with
  | nil => rfl
  | cons x _ ih => rw [List.map_cons, List.map_cons, List.sum_cons, List.sum_cons, ih]
  | swap x y l => simp only [List.map_cons, List.sum_cons]; omega
  | trans _ _ a b => rw [a, b]
theorem sum_congr {α : Type} {f g : α → Int} : ∀ {l : List α}, (∀ x ∈ l, f x = g x) → (l.map f).sum = (l.map g).sum
  | [], _ => rfl
  | x :: l, h => by rw [List.map_cons, List.map_cons, List.sum_cons, List.sum_cons, h x List.mem_cons_self, sum_congr fun y hy => h y (List.mem_cons_of_mem _ hy)]
theorem sum_split {α : Type} (f : α → Int) (q : α → Bool) : ∀ l : List α, (l.map f).sum = ((l.filter q).map f).sum + ((l.filter fun x => !q x).map f).sum
  | [] => rfl
  | x :: l => by
    rw [List.map_cons, List.sum_cons, sum_split f q l]
    cases h : q x with
    | true => simp only [List.filter_cons, h, if_true, Bool.not_true, List.map_cons, List.sum_cons]; simp; omega
    | false => simp only [List.filter_cons, h, Bool.not_false, if_true, List.map_cons, List.sum_cons]; simp; omega
/-- what these have beyond those -/
def byd (f : Str → Int) (ps qs : List Str) : Int := ((ps.filter fun x => !decide (x ∈ qs)).map f).sum
def com (f : Str → Int) (ps qs : List Str) : Int := ((ps.filter fun x => decide (x ∈ qs)).map f).sum
theorem com_comm {f : Str → Int} {ps qs : List Str} (hp : ps.Nodup) (hq : qs.Nodup) : com f ps qs = com f qs ps := by
  refine sum_perm f ((List.perm_ext_iff_of_nodup (hp.filter _) (hq.filter _)).mpr fun x => ?_)
  simp only [List.mem_filter, decide_eq_true_eq]
  exact And.comm
theorem sum_byd {f : Str → Int} (ps qs : List Str) : (ps.map f).sum = com f ps qs + byd f ps qs := sum_split f _ ps
theorem even_byd {f : Str → Int} {ps qs : List Str} (hp : ps.Nodup) (hq : qs.Nodup) : (ps.map f).sum = (qs.map f).sum ↔ byd f ps qs = byd f qs ps := by
  have a := sum_byd (f := f) ps qs
  have b := sum_byd (f := f) qs ps
  have c := com_comm (f := f) hp hq
  omega
theorem sum_pos {α : Type} {f : α → Int} : ∀ {l : List α}, (∀ x ∈ l, 1 ≤ f x) → (l.length : Int) ≤ (l.map f).sum
  | [], _ => by simp
  | x :: l, h => by
    have a := h x List.mem_cons_self
    have b := sum_pos fun y hy => h y (List.mem_cons_of_mem _ hy)
    rw [List.map_cons, List.sum_cons, List.length_cons]
    omega
theorem byd_nn {f : Str → Int} {ps qs : List Str} (h : ∀ x ∈ ps, 1 ≤ f x) : 0 ≤ byd f ps qs := by
  have := sum_pos (l := ps.filter fun x => !decide (x ∈ qs)) fun x hx => h x (List.mem_filter.mp hx).1
  unfold byd
  omega
theorem byd_zero {f : Str → Int} {ps qs : List Str} (h : ∀ x ∈ ps, 1 ≤ f x) : byd f ps qs = 0 ↔ ∀ x ∈ ps, x ∈ qs := by
  constructor
  · intro e x hx
    by_cases z : x ∈ qs
    · exact z
    · have m : x ∈ ps.filter fun x => !decide (x ∈ qs) := List.mem_filter.mpr ⟨hx, by simp [z]⟩
      have a := sum_pos (l := ps.filter fun x => !decide (x ∈ qs)) fun x hx => h x (List.mem_filter.mp hx).1
      have b := List.length_pos_of_mem m
      unfold byd at e
      omega
  · intro s
    have : ps.filter (fun x => !decide (x ∈ qs)) = [] := List.filter_eq_nil_iff.mpr fun x hx => by simp [s x hx]
    rw [byd, this]; rfl
theorem byd_congr {f g : Str → Int} {ps ps' qs qs' : List Str} (p : ps.Perm ps') (q : qs.Perm qs') (h : ∀ x ∈ ps, f x = g x) : byd f ps qs = byd g ps' qs' := by
  have e : (fun x => !decide (x ∈ qs)) = fun x => !decide (x ∈ qs') := by
    funext x
    rw [decide_eq_decide.mpr (q.mem_iff)]
  unfold byd
  rw [e, sum_congr (g := g) fun x hx => h x (List.mem_filter.mp hx).1]
  exact sum_perm g (p.filter _)
theorem byd_len {ps qs : List Str} : byd (fun _ => 1) ps qs = ((ps.filter fun x => !decide (x ∈ qs)).length : Int) := by
  unfold byd
  generalize (ps.filter fun x => !decide (x ∈ qs)) = l
  induction l with
  | nil => rfl
  | cons x l ih => rw [List.map_cons, List.sum_cons, ih, List.length_cons]; omega
end EV
end

section
set_option maxHeartbeats 2000000
local macro_rules | `(tactic| walk_at "za") => `(tactic| (first | exact Or.inl ⟨by omega, by omega⟩ | exact Or.inr ⟨by omega, by omega⟩ | exact ⟨by omega, by omega⟩ | exact ⟨by omega, by omega, by omega⟩ | omega))
local macro_rules | `(tactic| walk_at "z") => `(tactic| (first
  | with_reducible refine EV.z_seq ?_ | with_reducible refine EV.z_next ?_ | with_reducible refine EV.z_nx ?_ | with_reducible refine EV.z_rt ?_ | with_reducible refine EV.z_asg ?_ | with_reducible refine EV.z_name ?_
  | with_reducible refine EV.z_drop ?_ | with_reducible refine EV.z_ret ?_ | with_reducible refine EV.z_if ?_
  | ((with_reducible refine EV.z_var (v := ?vv) ?hv ?_); (case hv => exact rfl)) | with_reducible refine EV.z_c ?_ | with_reducible refine EV.z_op ?_ | with_reducible refine EV.z_un ?_ | with_reducible refine EV.z_I0 ?_ | with_reducible refine EV.z_U ?_ | ((with_reducible refine EV.z_I ?hc ?_); (case hc => walk_at "za"))
  | ((with_reducible refine EV.z_eq ?hv ?_); (case hv => exact rfl)) | ((with_reducible refine EV.z_ne ?hv ?_); (case hv => exact rfl))
  | with_reducible refine EV.z_test ?_ | with_reducible refine EV.z_bl ?_ | with_reducible refine EV.z_B ?_ | with_reducible refine EV.z_and ?_ | with_reducible refine EV.z_or ?_ | with_reducible refine EV.z_not ?_ | with_reducible refine EV.z_andV ?_
  | with_reducible refine EV.z_orV ?_ | with_reducible refine EV.z_notV ?_ | with_reducible refine EV.z_ifE ?_ | with_reducible refine EV.z_nil ?_ | with_reducible refine EV.z_cons ?_ | with_reducible refine EV.z_tup ?_ | with_reducible refine EV.z_lst ?_
  | with_reducible refine EV.z_cb ?_ | with_reducible refine EV.z_call ?_ | with_reducible refine EV.z_dget ?_ | with_reducible refine EV.z_dput ?_ | with_reducible refine EV.z_chain ?_ | with_reducible refine EV.z_then ?_ | with_reducible refine EV.z_fld ?_ | with_reducible refine EV.z_bm ?_
  | with_reducible refine EV.z_par ?_ | with_reducible refine EV.z_par3 ?_ | with_reducible refine EV.z_ex2 ?_ | with_reducible refine EV.z_ex3 ?_ | with_reducible refine EV.z_tyes ?_ | ((with_reducible refine EV.z_wipe ?hv ?_); (case hv => exact rfl))
  | with_reducible refine EV.z_lc ?_ | with_reducible refine EV.z_ltS ?_ | with_reducible refine EV.z_disp ?_ | with_reducible refine EV.z_pc ?_ | with_reducible refine EV.z_pn ?_ | with_reducible refine EV.z_m1 ?_ | with_reducible refine EV.z_isS ?_ | with_reducible refine EV.z_sl ?_ | with_reducible refine EV.z_np ?_ | with_reducible refine EV.z_pt ?_ | with_reducible refine EV.z_exI ?_ | with_reducible refine EV.z_is ?_ | with_reducible refine EV.z_istr ?_ | with_reducible refine EV.z_no ?_ | with_reducible refine EV.z_yes ?_ | with_reducible refine EV.z_for ?_ | with_reducible refine EV.z_il ?_ | with_reducible refine EV.z_it ?_ | with_reducible refine EV.z_r1 ?_ | with_reducible refine EV.z_ik ?_ | with_reducible refine EV.z_din ?_ | with_reducible refine EV.z_dnin ?_ | with_reducible refine EV.z_dsd ?_ | with_reducible refine EV.z_gs ?_ | with_reducible refine EV.z_gc ?_ | with_reducible refine EV.z_gn ?_ | with_reducible refine EV.z_turn ?_))
local macro_rules | `(tactic| walk_at "zz") => `(tactic| repeat walk_at "z")
namespace EV
open PySem PySem.Spec PyProof.Rows L2
/-! ### what a world means -/
def hLf : Hld → Str → List Str
  | [], _ => []
  | t :: L, x => if t.1 = x then t.2.2 else hLf L x
theorem hLf_of {L : Hld} {t} (nd : (L.map (·.1)).Nodup) (h : t ∈ L) : hLf L t.1 = t.2.2 := by
  induction L with
  | nil => cases h
  | cons u L ih =>
    rw [List.map_cons, List.nodup_cons] at nd
    rcases List.mem_cons.mp h with rfl | h
    · rw [hLf, if_pos rfl]
    · rw [hLf, if_neg]
      · exact ih nd.2 h
      · intro e; exact nd.1 (by rw [e]; exact List.mem_map_of_mem h)
def wt (L : Hld) (W : Lvs) (x : Str) : Int := ((hLf L x).map (lfn W)).sum
abbrev Bars := List (Addr × Str × Str)
def barP (bs : Bars) (x y : Str) : Prop := ∃ t ∈ bs, t.2 = (x, y) ∨ t.2 = (y, x)
theorem barP_comm {bs : Bars} {x y : Str} : barP bs x y ↔ barP bs y x :=
  ⟨fun ⟨t, h, e⟩ => ⟨t, h, e.symm⟩, fun ⟨t, h, e⟩ => ⟨t, h, e.symm⟩⟩
def evenP (L : Hld) (W : Lvs) (bs : Bars) (x y : Str) : Prop := x ≠ y ∧ ¬ barP bs x y ∧ ¬ (hLf L x).Perm (hLf L y) ∧ wt L W x = wt L W y
theorem evenP_comm {L : Hld} {W : Lvs} {bs : Bars} {x y : Str} : evenP L W bs x y ↔ evenP L W bs y x :=
  ⟨fun ⟨a, b, c, d⟩ => ⟨a.symm, fun z => b (barP_comm.mp z), fun z => c z.symm, d.symm⟩, fun ⟨a, b, c, d⟩ => ⟨a.symm, fun z => b (barP_comm.mp z), fun z => c z.symm, d.symm⟩⟩
theorem Wd.sub {F H : Hp} {wa hd lv br : Addr} {L : Hld} {W : Lvs} {bs : Bars} (d : Wd F wa hd lv br L W bs) (s : Sub F H) : Wd H wa hd lv br L W bs :=
  ⟨s _ _ d.hw, s _ _ d.hh, s _ _ d.hv, s _ _ d.hb, fun t ht => s _ _ (d.ba t ht), fun t ht => s _ _ (d.ha t ht)⟩
theorem Wd.same {H H' : Hp} {wa hd lv br : Addr} {L : Hld} {W : Lvs} {bs : Bars} (d : Wd H wa hd lv br L W bs) (s : Same H H') : Wd H' wa hd lv br L W bs := d.sub s
section
variable {L : Hld} {W : Lvs} {bs : Bars}
theorem WD.nd (d : WD L W bs) : (L.map (·.1)).Nodup := d.sh.choose_spec.2.2.nd
theorem WD.ok (d : WD L W bs) {t} (h : t ∈ L) : t.2.2.Nodup ∧ ∀ x ∈ t.2.2, x ∈ W.map (·.1) := d.sh.choose_spec.2.2.ok t h
theorem WD.pl (d : WD L W bs) {t} (h : t ∈ L) : t.2.2.length ≤ 12 := Nat.le_trans (d.sh.choose_spec.2.2.pl h) d.sh.choose_spec.1
theorem WD.wl (d : WD L W bs) : W.length ≤ 12 := Nat.le_trans d.sh.choose_spec.2.2.wl d.sh.choose_spec.1
theorem WD.wn (d : WD L W bs) : (W.map (·.1)).Nodup := d.sh.choose_spec.2.2.wnd
theorem WD.w19 (d : WD L W bs) {q} (h : q ∈ W) : 1 ≤ q.2 ∧ q.2 ≤ 9 := (d.sh.choose_spec.2.2.wsh q h).2
theorem WD.wNm (d : WD L W bs) {x} (h : x ∈ W.map (·.1)) : Nm x := by
  obtain ⟨q, hq, rfl⟩ := List.mem_map.mp h
  exact d.sh.choose_spec.2.1 _ (d.sh.choose_spec.2.2.wsh q hq).1
theorem WD.wh (d : WD L W bs) {q} (h : q ∈ W) : ∃ t ∈ L, q.1 ∈ t.2.2 := d.sh.choose_spec.2.2.wh q h
theorem WD.pNm (d : WD L W bs) {t} (h : t ∈ L) {x} (hx : x ∈ t.2.2) : Nm x := d.wNm ((d.ok h).2 x hx)
theorem WD.lf1 (d : WD L W bs) {x} (h : x ∈ W.map (·.1)) : 1 ≤ lfn W x := by
  obtain ⟨q, hq, rfl⟩ := List.mem_map.mp h
  rw [lfn_mem d.wn hq]
  exact (d.w19 hq).1
theorem WD.at (d : WD L W bs) {x : Str} (h : x ∈ L.map (·.1)) : ∃ t ∈ L, t.1 = x ∧ hLf L x = t.2.2 := by
  obtain ⟨t, ht, rfl⟩ := List.mem_map.mp h
  exact ⟨t, ht, rfl, hLf_of d.nd ht⟩
end
/-! ### pairs as data -/
section
variable {K : PySem.W.Frag} {H : Hp} {Q : VK}
def dP (p : Str × Str) : PyData := .tuple [.str p.1, .str p.2]
theorem eqv_dP (p q : Str × Str) : PyData.eqv (dP p) (dP q) = decide (p = q) := by
  show ((p.1 == q.1) && ((p.2 == q.2) && true)) = _
  obtain ⟨a, b⟩ := p
  obtain ⟨c, d⟩ := q
  by_cases h : a = c <;> by_cases g : b = d <;> simp [h, g]
theorem dp_pair {t : Addr} {a b : Str} (h : SqT K H t [.str a, .str b]) : Dp K H (.ref t) (dP (a, b)) := .tup h (.cons (.str a) (.cons (.str b) .nil))
theorem dp_pairs {bs : Bars} (h : ∀ t ∈ bs, SqT K H t.1 [.str t.2.1, .str t.2.2]) : DpAll K H (bs.map fun t => V.ref t.1) (bs.map fun t => dP t.2) := by
  induction bs with
  | nil => exact .nil
  | cons t bs ih => exact .cons (dp_pair (h t List.mem_cons_self)) (ih fun u hu => h u (List.mem_cons_of_mem _ hu))
theorem lay_dP {p : Str × Str} (h1 : PyData.strOk p.1 = true) (h2 : PyData.strOk p.2 = true) : PyData.canLay0 (dP p) = true := by
  show (PyData.strOk p.1 && (PyData.strOk p.2 && true)) = true
  rw [h1, h2]; rfl
theorem lay_dPs : ∀ {bs : Bars}, (∀ t ∈ bs, PyData.strOk t.2.1 = true ∧ PyData.strOk t.2.2 = true) → PyData.canLayAll0 (bs.map fun t => dP t.2) = true
  | [], _ => rfl
  | t :: bs, h => by
    show (PyData.canLay0 (dP t.2) && PyData.canLayAll0 (bs.map fun t => dP t.2)) = true
    rw [lay_dP (h t List.mem_cons_self).1 (h t List.mem_cons_self).2, lay_dPs fun u hu => h u (List.mem_cons_of_mem _ hu)]; rfl
theorem dep_dP (p : Str × Str) : PyData.depth (dP p) ≤ 2 := by simp [dP, PyData.depth, PyData.depthAll]
theorem dep_dPs : ∀ bs : Bars, PyData.depthAll (bs.map fun t => dP t.2) ≤ 2
  | [] => by simp [PyData.depthAll]
  | t :: bs => by
    have a := dep_dPs bs
    have b := dep_dP t.2
    simp only [List.map_cons, PyData.depthAll]
    omega
theorem sh_dP {p : Str × Str} (h1 : PyData.strOk p.1 = true) (h2 : PyData.strOk p.2 = true) : SeqAt.shaped (dP p) = true := by
  have := dep_dP p
  rw [SeqAt.shaped, lay_dP h1 h2, Bool.true_and, decide_eq_true_eq]
  omega
theorem sh_dPs {bs : Bars} (h : ∀ t ∈ bs, PyData.strOk t.2.1 = true ∧ PyData.strOk t.2.2 = true) : SeqAt.shaped (.list (bs.map fun t => dP t.2)) = true := by
  have := dep_dPs bs
  rw [SeqAt.shaped, PyData.canLay0, lay_dPs h, Bool.true_and, decide_eq_true_eq, PyData.depth]
  omega
theorem any_dP {bs : Bars} {p : Str × Str} : ((bs.map fun t => dP t.2).any fun z => PyData.eqv z (dP p)) = decide (p ∈ bs.map (·.2)) := by
  induction bs with
  | nil => rfl
  | cons t bs ih =>
    rw [List.map_cons, List.any_cons, eqv_dP, ih]
    by_cases h : t.2 = p
    · simp [h]
    · have h' : ¬ p = t.2 := fun e => h e.symm
      by_cases g : p ∈ bs.map (·.2) <;> simp [h, h', g]
theorem z_inP {q l : Addr} {a b : Str} {bs : Bars} (hq : SqT K H q [.str a, .str b]) (hl : SqL K H l (bs.map fun t => V.ref t.1)) (hb : ∀ t ∈ bs, SqT K H t.1 [.str t.2.1, .str t.2.2]) (oa : PyData.strOk a = true) (ob : PyData.strOk b = true)
    (oo : ∀ t ∈ bs, PyData.strOk t.2.1 = true ∧ PyData.strOk t.2.2 = true) (k : Q (.bl (decide ((a, b) ∈ bs.map (·.2)))) H) : rInD K (.ref q) (.ref l) H Q :=
  ⟨dP (a, b), bs.map fun t => dP t.2, dp_pair hq, .lst hl (dp_pairs hb), sh_dP oa ob, sh_dPs oo, by rw [any_dP]; exact k⟩
theorem z_nePe {l e : Addr} {bs : Bars} (hl : SqL K H l (bs.map fun t => V.ref t.1)) (hb : ∀ t ∈ bs, SqT K H t.1 [.str t.2.1, .str t.2.2]) (he : SqL K H e [])
    (oo : ∀ t ∈ bs, PyData.strOk t.2.1 = true ∧ PyData.strOk t.2.2 = true) (k : Q (.bl (!decide (bs = []))) H) : rNeD K (.ref l) (.ref e) H Q := by
  refine ⟨.list (bs.map fun t => dP t.2), .list [], .lst hl (dp_pairs hb), .lst he .nil, sh_dPs oo, rfl, ?_⟩
  have : PyData.eqv (.list (bs.map fun t => dP t.2)) (.list []) = decide (bs = []) := by
    cases bs with
    | nil => rfl
    | cons t bs => rfl
  rw [this]
  exact k
theorem z_eqS {p q : Addr} {xs ys : List Str} {Q : VK} (o1 : ∀ x ∈ xs, PyData.strOk x = true) (o2 : ∀ x ∈ ys, PyData.strOk x = true) (h1 : SqL K H p (xs.map V.str)) (h2 : SqL K H q (ys.map V.str)) (k : Q (.bl (decide (xs = ys))) H) : rEqD K (.ref p) (.ref q) H Q :=
  ⟨.list (xs.map .str), .list (ys.map .str), .lst h1 (dpS xs), .lst h2 (dpS ys), shS o1, shS o2, by show Q (.bl (PyData.eqvAll _ _)) H; rw [eqvS]; exact k⟩
end
/-- the lesser one ahead -/
theorem two_srt {x y : Str} {ys : List Str} (p : ys.Perm [x, y]) (s : sortedS ys = true) (n : x ≠ y) : (slt x y ∧ ys = [x, y]) ∨ (slt y x ∧ ys = [y, x]) := by
  rcases slt_tri n with h | h
  · exact .inl ⟨h, (srt_of s).eq (List.pairwise_cons.mpr ⟨fun z hz => by rw [List.mem_singleton.mp hz]; exact slt_le h, List.pairwise_singleton _ _⟩) p⟩
  · exact .inr ⟨h, (srt_of s).eq (List.pairwise_cons.mpr ⟨fun z hz => by rw [List.mem_singleton.mp hz]; exact slt_le h, List.pairwise_singleton _ _⟩) (p.trans (.swap y x []))⟩
theorem bar_srt {bs : Bars} (bk : ∀ t ∈ bs, slt t.2.1 t.2.2) {x y a b : Str} (h : slt a b) (e : (a = x ∧ b = y) ∨ (a = y ∧ b = x)) : (a, b) ∈ bs.map (·.2) ↔ barP bs x y := by
  constructor
  · intro m
    obtain ⟨t, ht, et⟩ := List.mem_map.mp m
    rcases e with ⟨rfl, rfl⟩ | ⟨rfl, rfl⟩
    · exact ⟨t, ht, .inl et⟩
    · exact ⟨t, ht, .inr et⟩
  · rintro ⟨t, ht, et⟩
    have := bk t ht
    refine List.mem_map.mpr ⟨t, ht, ?_⟩
    rcases e with ⟨rfl, rfl⟩ | ⟨rfl, rfl⟩ <;> rcases et with et | et
    · exact et
    · rw [et] at this; exact absurd this (slt_asymm h)
    · rw [et] at this; exact absurd this (slt_asymm h)
    · exact et
end EV
end

section
set_option maxHeartbeats 2000000
local macro_rules | `(tactic| walk_at "za") => `(tactic| (first | exact Or.inl ⟨by omega, by omega⟩ | exact Or.inr ⟨by omega, by omega⟩ | exact ⟨by omega, by omega⟩ | exact ⟨by omega, by omega, by omega⟩ | omega))
local macro_rules | `(tactic| walk_at "z") => `(tactic| (first
  | with_reducible refine EV.z_seq ?_ | with_reducible refine EV.z_next ?_ | with_reducible refine EV.z_nx ?_ | with_reducible refine EV.z_rt ?_ | with_reducible refine EV.z_asg ?_ | with_reducible refine EV.z_name ?_
  | with_reducible refine EV.z_drop ?_ | with_reducible refine EV.z_ret ?_ | with_reducible refine EV.z_if ?_
  | ((with_reducible refine EV.z_var (v := ?vv) ?hv ?_); (case hv => exact rfl)) | with_reducible refine EV.z_c ?_ | with_reducible refine EV.z_op ?_ | with_reducible refine EV.z_un ?_ | with_reducible refine EV.z_I0 ?_ | with_reducible refine EV.z_U ?_ | ((with_reducible refine EV.z_I ?hc ?_); (case hc => walk_at "za"))
  | ((with_reducible refine EV.z_eq ?hv ?_); (case hv => exact rfl)) | ((with_reducible refine EV.z_ne ?hv ?_); (case hv => exact rfl))
  | with_reducible refine EV.z_test ?_ | with_reducible refine EV.z_bl ?_ | with_reducible refine EV.z_B ?_ | with_reducible refine EV.z_and ?_ | with_reducible refine EV.z_or ?_ | with_reducible refine EV.z_not ?_ | with_reducible refine EV.z_andV ?_
  | with_reducible refine EV.z_orV ?_ | with_reducible refine EV.z_notV ?_ | with_reducible refine EV.z_ifE ?_ | with_reducible refine EV.z_nil ?_ | with_reducible refine EV.z_cons ?_ | with_reducible refine EV.z_tup ?_ | with_reducible refine EV.z_lst ?_
  | with_reducible refine EV.z_cb ?_ | with_reducible refine EV.z_call ?_ | with_reducible refine EV.z_dget ?_ | with_reducible refine EV.z_dput ?_ | with_reducible refine EV.z_chain ?_ | with_reducible refine EV.z_then ?_ | with_reducible refine EV.z_fld ?_ | with_reducible refine EV.z_bm ?_
  | with_reducible refine EV.z_par ?_ | with_reducible refine EV.z_par3 ?_ | with_reducible refine EV.z_ex2 ?_ | with_reducible refine EV.z_ex3 ?_ | with_reducible refine EV.z_tyes ?_ | ((with_reducible refine EV.z_wipe ?hv ?_); (case hv => exact rfl))
  | with_reducible refine EV.z_lc ?_ | with_reducible refine EV.z_ltS ?_ | with_reducible refine EV.z_disp ?_ | with_reducible refine EV.z_pc ?_ | with_reducible refine EV.z_pn ?_ | with_reducible refine EV.z_m1 ?_ | with_reducible refine EV.z_isS ?_ | with_reducible refine EV.z_sl ?_ | with_reducible refine EV.z_np ?_ | with_reducible refine EV.z_pt ?_ | with_reducible refine EV.z_exI ?_ | with_reducible refine EV.z_is ?_ | with_reducible refine EV.z_istr ?_ | with_reducible refine EV.z_no ?_ | with_reducible refine EV.z_yes ?_ | with_reducible refine EV.z_for ?_ | with_reducible refine EV.z_il ?_ | with_reducible refine EV.z_it ?_ | with_reducible refine EV.z_r1 ?_ | with_reducible refine EV.z_ik ?_ | with_reducible refine EV.z_din ?_ | with_reducible refine EV.z_dnin ?_ | with_reducible refine EV.z_dsd ?_ | with_reducible refine EV.z_gs ?_ | with_reducible refine EV.z_gc ?_ | with_reducible refine EV.z_gn ?_ | with_reducible refine EV.z_turn ?_))
local macro_rules | `(tactic| walk_at "zz") => `(tactic| repeat walk_at "z")
namespace EV
open PySem PySem.Spec PyProof.Rows L2
abbrev s_even : Stmt := top 37
abbrev N_even : List Str := ["world", "first", "second"]
abbrev P_even : List Str := ["world", "first", "second"]
theorem sc_even : FnScope N_even P_even (defScope s_even) := ⟨rfl, rfl, rfl, by decide +kernel, rfl, by decide +kernel, by decide +kernel⟩
abbrev s_met : Stmt := top 38
abbrev N_met : List Str := ["world", "first", "second", "held", "sheet", "both"]
abbrev P_met : List Str := ["world", "first", "second"]
theorem sc_met : FnScope N_met P_met (defScope s_met) := ⟨rfl, rfl, rfl, by decide +kernel, rfl, by decide +kernel, by decide +kernel⟩
abbrev s_open : Stmt := top 39
abbrev N_open : List Str := ["world", "folk", "pairs", "first", "second"]
abbrev P_open : List Str := ["world"]
theorem sc_open : FnScope N_open P_open (defScope s_open) := ⟨rfl, rfl, rfl, by decide +kernel, rfl, by decide +kernel, by decide +kernel⟩
abbrev s_row : Stmt := top 40
abbrev N_row : List Str := ["state", "world", "cap", "calls", "pairs", "pair"]
abbrev P_row : List Str := ["state", "world", "cap"]
theorem sc_row : FnScope N_row P_row (defScope s_row) := ⟨rfl, rfl, rfl, by decide +kernel, rfl, by decide +kernel, by decide +kernel⟩
theorem hu65_of {A : Around} {k : Nat} (hr : Room k A) : A.units + 65 < cLine := by have := hr.un; omega
def spEven (K : PySem.W.Frag) : Sp := fun vs H Q _ => ∃ (wa hd lv br : Addr) (L : Hld) (W : Lvs) (bs : Bars) (x y : Str), vs = [.ref wa, .str x, .str y] ∧ Wd H wa hd lv br L W bs ∧ WD L W bs ∧ x ∈ L.map (·.1) ∧ y ∈ L.map (·.1) ∧
  ∀ (b : Bool) H', Same H H' → (b = true ↔ evenP L W bs x y) → Q (.bl b) H'
theorem SqT.same {K : PySem.W.Frag} {H H' : Hp} {p : Addr} {xs : List V} (h : SqT K H p xs) (s : Same H H') : SqT K H' p xs := sqt_same s h
section
variable {P : Program} {w : World} {K : PySem.W.Frag} {mg : Str → Option Value} {base : Heap}
theorem Wd.weigh {H : Hp} {wa hd lv br : Addr} {L : Hld} {W : Lvs} {bs : Bars} {x : Str} {Q : VK} {E : XK} (d : Wd H wa hd lv br L W bs) (D : WD L W bs) (hx : x ∈ L.map (·.1)) (k : ∀ H', Same H H' → Q (.int (wt L W x)) H') : spWeight K [.ref wa, .str x] H Q E := by
  obtain ⟨t, ht, rfl, e⟩ := D.at hx
  have := D.pl ht
  refine z_weight (.inl d.hw) (.inl d.hh) (.inl d.hv) D.nd ht (SqL.of (d.ha t ht)) (by omega) (D.ok ht).2 fun H' s => ?_
  have k' := k H' s
  rwa [wt, e] at k'
theorem ok_even (T : Txt mg) (c_weight : C8.Cal P w K mg base 1 "_law_weight" (spWeight K) []) {f fd} (D : C8.Def K mg "_law_even" s_even f fd) (b : Binds K fd P_even []) : C8.Cal P w K mg base 2 "_law_even" (spEven K) [] := by
  refine C8.cal0 D b .nil sc_even (fun vs H Q E h => ?_) (fun cdv A outer s H vs Q E hr h => ?_)
  · obtain ⟨wa, hd, lv, br, L, W, bs, x, y, rfl, _⟩ := h
    rfl
  · obtain ⟨wa, hd, lv, br, L, W, bs, x, y, rfl, d, D, hx, hy, k⟩ := h
    have hu := hu_of hr
    have hu65 := hu65_of hr
    refine ⟨_, (pss_cons (ps_if (PW.pt (pw_or (pt_cmpR op_eq (pv 1) (pv 2) (nomark _)) (pw_or1 (pt_cmpR (k_inD K hu65) (k_tupleOf K rfl T.b_tuple (pe_callB (k_sortedS K) rfl T.b_sorted (by decide +kernel) (pa_cons (pe_lst (pa_cons (pv 1) (pa_cons (pv 2) pa_nil))) pa_nil))) (pe_dget hu (pv 0) pe_str (fun _ _ => rfl)) rfl))))
    (pss_one (ps_ret pe_bl))
    pss_nil)
  (pss_cons (ps_if (pt_cmpR (k_eqD K hr.units) (pe_callB (k_sortedS K) rfl T.b_sorted (by decide +kernel) (pa_cons (pe_dget hu (pe_dget hu (pv 0) pe_str (fun _ _ => rfl)) (pv 1) (fun _ _ => rfl)) pa_nil)) (pe_callB (k_sortedS K) rfl T.b_sorted (by decide +kernel) (pa_cons (pe_dget hu (pe_dget hu (pv 0) pe_str (fun _ _ => rfl)) (pv 2) (fun _ _ => rfl)) pa_nil)) (nomark _))
    (pss_one (ps_ret pe_bl))
    pss_nil)
  (pss_one (ps_ret (pe_cmpR op_eq (C8.pe_c c_weight hr (by decide) rfl (pa_cons (pv 0) (pa_cons (pv 1) pa_nil))) (C8.pe_c c_weight hr (by decide) rfl (pa_cons (pv 0) (pa_cons (pv 2) pa_nil))) (nomark _)))))), ?_⟩
    obtain ⟨t, ht, et, ex⟩ := D.at hx
    obtain ⟨u, hu', eu, ey⟩ := D.at hy
    have tl := D.pl ht
    have ul := D.pl hu'
    walk_at "zz"
    refine z_ite (fun exy => ?_) (fun nxy => ?_)
    · walk_at "zz"
      have exy' : x = y := V.str.inj exy
      exact k false H (fun _ _ e => e) ⟨(fun z => nomatch z), fun z => absurd exy' z.1⟩
    · have nxy' : x ≠ y := fun e => nxy (by rw [e])
      walk_at "zz"
      refine ⟨sz (by show 2 ≤ 100000; decide), fun p hp => ?_⟩
      have s1 : Same H (upd H p (.lst [.str x, .str y])) := same_new hp
      have h1 : (upd H p (.lst [.str x, .str y])) p = some (.lst ([x, y].map V.str)) := upd_same
      generalize upd H p (.lst [.str x, .str y]) = H1 at s1 h1 ⊢
      walk_at "zz"
      refine z_sorted (xs := [x, y]) (SqL.of h1) (by show 2 < 64; decide) fun ys q pm srt hq => ?_
      have s2 := s1.trans (same_new (o := .lst (ys.map V.str)) hq)
      have h2 : (upd H1 q (.lst (ys.map V.str))) q = some (.lst (ys.map V.str)) := upd_same
      generalize upd H1 q (.lst (ys.map V.str)) = H2 at s2 h2 ⊢
      obtain ⟨a, b2, lt, ey2, eab⟩ : ∃ a b, slt a b ∧ ys = [a, b] ∧ ((a = x ∧ b = y) ∨ (a = y ∧ b = x)) := by
        rcases two_srt pm srt nxy' with ⟨l, rfl⟩ | ⟨l, rfl⟩
        · exact ⟨x, y, l, rfl, .inl ⟨rfl, rfl⟩⟩
        · exact ⟨y, x, l, rfl, .inr ⟨rfl, rfl⟩⟩
      subst ey2
      refine z_tupL (SqL.of h2) fun r hr' => ?_
      have s3 := s2.trans (same_new (o := .tup [.str a, .str b2]) hr')
      have h3 : (upd H2 r (.tup [.str a, .str b2])) r = some (.tup [.str a, .str b2]) := upd_same
      generalize hH3 : upd H2 r (.tup [.str a, .str b2]) = H3 at s3 h3
      rw [show upd H2 r (.tup (List.map V.str [a, b2])) = H3 from hH3]
      have d3 := d.same s3
      walk_at "zz"
      refine z_dgetR (.inl d3.hw) w_bars ?_
      have oka : PyData.strOk a = true ∧ PyData.strOk b2 = true := by
        have ox := (D.nm t ht).ok
        have oy := (D.nm u hu').ok
        rw [et] at ox
        rw [eu] at oy
        rcases eab with ⟨rfl, rfl⟩ | ⟨rfl, rfl⟩
        · exact ⟨ox, oy⟩
        · exact ⟨oy, ox⟩
      have okb : ∀ t ∈ bs, PyData.strOk t.2.1 = true ∧ PyData.strOk t.2.2 = true := fun t ht => by
        obtain ⟨m1, m2, _⟩ := D.bk t ht
        obtain ⟨t1, h1, e1⟩ := List.mem_map.mp m1
        obtain ⟨t2, h2, e2⟩ := List.mem_map.mp m2
        rw [← e1, ← e2]
        exact ⟨(D.nm _ h1).ok, (D.nm _ h2).ok⟩
      refine z_inP (SqT.of h3) (SqL.of d3.hb) (fun t ht => SqT.of (d3.ba t ht)) oka.1 oka.2 okb ?_
      have eb := bar_srt (fun t ht => (D.bk t ht).2.2) lt eab
      walk_at "zz"
      refine z_ite (fun inb => ?_) (fun ninb => ?_)
      · walk_at "zz"
        exact k false H3 s3 ⟨(fun z => nomatch z), fun z => absurd (eb.mp inb) z.2.1⟩
      · walk_at "zz"
        refine z_dgetR (.inl d3.hw) w_held ?_
        walk_at "zz"
        rw [← et]
        refine z_dgetR (.inl d3.hh) (held_val D.nd ht) ?_
        walk_at "zz"
        refine z_sorted (xs := t.2.2) (SqL.of (d3.ha t ht)) (by omega) fun ys p4 pm4 srt4 hp4 => ?_
        have s4 := s3.trans (same_new (o := .lst (ys.map V.str)) hp4)
        have h4 : (upd H3 p4 (.lst (ys.map V.str))) p4 = some (.lst (ys.map V.str)) := upd_same
        generalize upd H3 p4 (.lst (ys.map V.str)) = H4 at s4 h4 ⊢
        have d4 := d.same s4
        walk_at "zz"
        refine z_dgetR (.inl d4.hw) w_held ?_
        walk_at "zz"
        rw [← eu]
        refine z_dgetR (.inl d4.hh) (held_val D.nd hu') ?_
        walk_at "zz"
        refine z_sorted (xs := u.2.2) (SqL.of (d4.ha u hu')) (by omega) fun zs p5 pm5 srt5 hp5 => ?_
        have s5 := s4.trans (same_new (o := .lst (zs.map V.str)) hp5)
        have h5 : (upd H4 p5 (.lst (zs.map V.str))) p5 = some (.lst (zs.map V.str)) := upd_same
        have h4' := upd_keep (o := .lst (zs.map V.str)) h4 hp5
        generalize upd H4 p5 (.lst (zs.map V.str)) = H5 at s5 h5 h4' ⊢
        refine z_eqS (fun x hx => (D.pNm ht (pm4.mem_iff.mp hx)).ok) (fun x hx => (D.pNm hu' (pm5.mem_iff.mp hx)).ok) (SqL.of h4') (SqL.of h5) ?_
        have same : ys = zs ↔ (hLf L x).Perm (hLf L y) := by
          rw [ex, ey]
          constructor
          · rintro rfl
            exact pm4.symm.trans pm5
          · intro p
            exact (srt_of srt4).eq (srt_of srt5) (pm4.trans (p.trans pm5.symm))
        have d5 := d.same s5
        walk_at "zz"
        refine z_ite (fun e => ?_) (fun ne => ?_)
        · walk_at "zz"
          exact k false H5 s5 ⟨(fun z => nomatch z), fun z => absurd (same.mp e) z.2.2.1⟩
        · walk_at "zz"
          rw [et]
          refine d5.weigh D hx fun H6 s6 => ?_
          walk_at "zz"
          rw [eu]
          refine (d5.same s6).weigh D hy fun H7 s7 => ?_
          walk_at "zz"
          refine k _ H7 (s5.trans (s6.trans s7)) ?_
          rw [decide_eq_true_eq]
          constructor
          · intro e
            exact ⟨nxy', fun z => ninb (eb.mpr z), fun z => ne (same.mpr z), V.int.inj e⟩
          · intro z
            rw [z.2.2.2]
end
/-! ### behind a call, in the world -/
def setH (L : Hld) (x : Str) (l : Addr) (ps : List Str) : Hld := L.map fun u => if u.1 = x then (u.1, l, ps) else u
theorem setH_keys {L : Hld} {x : Str} {l : Addr} {ps : List Str} : (setH L x l ps).map (·.1) = L.map (·.1) := by
  rw [setH, List.map_map]
  refine List.map_congr_left fun u _ => ?_
  show (if u.1 = x then (u.1, l, ps) else u).1 = u.1
  by_cases z : u.1 = x
  · rw [if_pos z]
  · rw [if_neg z]
theorem setH_mem {L : Hld} {x : Str} {l : Addr} {ps : List Str} {t} (h : t ∈ setH L x l ps) : (t.1 = x ∧ t.2.1 = l ∧ t.2.2 = ps) ∨ (t.1 ≠ x ∧ t ∈ L) := by
  obtain ⟨u, hu, rfl⟩ := List.mem_map.mp h
  by_cases z : u.1 = x
  · rw [if_pos z]; exact .inl ⟨z, rfl, rfl⟩
  · rw [if_neg z]; exact .inr ⟨z, hu⟩
theorem setH_hLf {L : Hld} {x : Str} {l : Addr} {ps : List Str} (hx : x ∈ L.map (·.1)) (z : Str) : hLf (setH L x l ps) z = if z = x then ps else hLf L z := by
  induction L with
  | nil => cases hx
  | cons u L ih =>
    rw [setH, List.map_cons]
    by_cases e : u.1 = x
    · rw [if_pos e, hLf]
      by_cases ez : z = x
      · rw [if_pos ez, if_pos (by rw [ez]; exact e)]
      · rw [if_neg ez, if_neg (by show ¬ u.1 = z; intro h; exact ez (by rw [← h, e])), hLf, if_neg (by intro h; exact ez (by rw [← h, e]))]
        by_cases hx2 : x ∈ L.map (·.1)
        · have := ih hx2
          rw [if_neg ez] at this
          exact this
        · have : (L.map fun u => if u.1 = x then (u.1, l, ps) else u) = L := by
            conv => rhs; rw [← List.map_id L]
            refine List.map_congr_left fun v hv => ?_
            rw [if_neg]; rfl
            intro h; exact hx2 (by rw [← h]; exact List.mem_map_of_mem hv)
          rw [this]
    · rw [if_neg e, hLf, hLf]
      have hx2 : x ∈ L.map (·.1) := by
        rcases List.mem_cons.mp hx with h | h
        · exact absurd h.symm e
        · exact h
      by_cases ez : u.1 = z
      · rw [if_pos ez, if_pos ez, if_neg (by intro h; exact e (by rw [ez, h]))]
      · rw [if_neg ez, if_neg ez]
        exact ih hx2
def uni (L : Hld) (x y : Str) : List Str := hLf L x ++ (hLf L y).filter fun z => !decide (z ∈ hLf L x)
theorem mem_uni {L : Hld} {x y z : Str} : z ∈ uni L x y ↔ z ∈ hLf L x ∨ z ∈ hLf L y := by
  unfold uni
  rw [List.mem_append, List.mem_filter]
  by_cases h : z ∈ hLf L x <;> simp [h]
theorem uni_nodup {L : Hld} {x y : Str} (hx : (hLf L x).Nodup) (hy : (hLf L y).Nodup) : (uni L x y).Nodup :=
  List.nodup_append.mpr ⟨hx, hy.filter _, fun a ha b hb e => by
    have := (List.mem_filter.mp hb).2
    rw [← e] at this
    simp [ha] at this⟩
def metL (L : Hld) (x y : Str) (l1 l2 : Addr) : Hld := setH (setH L x l1 (uni L x y)) y l2 (uni L x y)
theorem metL_keys {L : Hld} {x y : Str} {l1 l2 : Addr} : (metL L x y l1 l2).map (·.1) = L.map (·.1) := setH_keys.trans setH_keys
theorem metL_hLf {L : Hld} {x y : Str} {l1 l2 : Addr} (hx : x ∈ L.map (·.1)) (hy : y ∈ L.map (·.1)) (z : Str) : hLf (metL L x y l1 l2) z = if z = x ∨ z = y then uni L x y else hLf L z := by
  rw [metL, setH_hLf (by rw [setH_keys]; exact hy), setH_hLf hx]
  by_cases ey : z = y
  · rw [if_pos ey, if_pos (.inr ey)]
  · by_cases ex : z = x
    · rw [if_neg ey, if_pos ex, if_pos (.inl ex)]
    · rw [if_neg ey, if_neg ex, if_neg (fun h => h.elim ex ey)]
theorem metL_mem {L : Hld} {x y : Str} {l1 l2 : Addr} {t} (h : t ∈ metL L x y l1 l2) : ((t.1 = x ∨ t.1 = y) ∧ t.2.2 = uni L x y ∧ (t.2.1 = l1 ∨ t.2.1 = l2)) ∨ (t.1 ≠ x ∧ t.1 ≠ y ∧ t ∈ L) := by
  rcases setH_mem h with ⟨e, e1, e2⟩ | ⟨n, h⟩
  · exact .inl ⟨.inr e, e2, .inr e1⟩
  · rcases setH_mem h with ⟨e, e1, e2⟩ | ⟨n2, h⟩
    · exact .inl ⟨.inl e, e2, .inl e1⟩
    · exact .inr ⟨n2, n, h⟩
theorem WD.met {L : Hld} {W : Lvs} {bs : Bars} (D : WD L W bs) {x y : Str} (hx : x ∈ L.map (·.1)) (hy : y ∈ L.map (·.1)) (l1 l2 : Addr) : WD (metL L x y l1 l2) W bs := by
  have ll : (metL L x y l1 l2).length = L.length := by have := congrArg List.length (metL_keys (L := L) (x := x) (y := y) (l1 := l1) (l2 := l2)); simpa using this
  obtain ⟨t, ht, et, ex⟩ := D.at hx
  obtain ⟨u, hu, eu, ey⟩ := D.at hy
  obtain ⟨sheets, s12, snm, ok⟩ := D.sh
  have nd : (uni L x y).Nodup := uni_nodup (by rw [ex]; exact (D.ok ht).1) (by rw [ey]; exact (D.ok hu).1)
  have cov : ∀ z ∈ uni L x y, z ∈ W.map (·.1) := fun z hz => by
    rcases mem_uni.mp hz with h | h
    · rw [ex] at h; exact (D.ok ht).2 z h
    · rw [ey] at h; exact (D.ok hu).2 z h
  refine ⟨by rw [ll]; exact D.n1, by rw [ll]; exact D.n6, fun v hv => ?_, ⟨sheets, s12, snm, ⟨by rw [metL_keys]; exact ok.nd, fun v hv => ?_, ok.wnd, ok.wsh, fun q hq => ?_⟩⟩, D.b36, fun v hv => by rw [metL_keys]; exact D.bk v hv⟩
  · have : v.1 ∈ L.map (·.1) := by rw [← metL_keys (x := x) (y := y) (l1 := l1) (l2 := l2)]; exact List.mem_map_of_mem hv
    obtain ⟨r, hr, er, _⟩ := D.at this
    rw [← er]; exact D.nm r hr
  · rcases metL_mem hv with ⟨_, e, _⟩ | ⟨_, _, h⟩
    · rw [e]; exact ⟨nd, cov⟩
    · exact ok.ok v h
  · obtain ⟨v, hv, hq'⟩ := ok.wh q hq
    have hvm : v.1 ∈ (metL L x y l1 l2).map (·.1) := by rw [metL_keys]; exact List.mem_map_of_mem hv
    obtain ⟨r, hr, er⟩ := List.mem_map.mp hvm
    refine ⟨r, hr, ?_⟩
    have nd2 : ((metL L x y l1 l2).map (·.1)).Nodup := by rw [metL_keys]; exact ok.nd
    have e2 := hLf_of nd2 hr
    rw [← e2, er, metL_hLf hx hy]
    have ev := hLf_of ok.nd hv
    by_cases z : v.1 = x ∨ v.1 = y
    · rw [if_pos z]
      rcases z with z | z
      · exact mem_uni.mpr (.inl (by rw [← z, ev]; exact hq'))
      · exact mem_uni.mpr (.inr (by rw [← z, ev]; exact hq'))
    · rw [if_neg z, ev]; exact hq'
def spMet : Sp := fun vs H Q _ => ∃ (F : Hp) (wa hd lv br : Addr) (L : Hld) (W : Lvs) (bs : Bars) (x y : Str), vs = [.ref wa, .str x, .str y] ∧ Sub F H ∧ Wd F wa hd lv br L W bs ∧ WD L W bs ∧ x ∈ L.map (·.1) ∧ y ∈ L.map (·.1) ∧
  ∀ (wa' hd' l1 l2 : Addr) F' H', Nx No F H F' H' → Wd F' wa' hd' lv br (metL L x y l1 l2) W bs → Q (.ref wa') H'
section
variable {P : Program} {w : World} {K : PySem.W.Frag} {mg : Str → Option Value} {base : Heap}
theorem ok_met (T : Txt mg) {f fd} (D : C8.Def K mg "_law_met" s_met f fd) (b : Binds K fd P_met []) : C8.Cal P w K mg base 1 "_law_met" spMet [] := by
  refine C8.cal0 D b .nil sc_met (fun vs H Q E h => ?_) (fun cdv A outer s H vs Q E hr h => ?_)
  · obtain ⟨F, wa, hd, lv, br, L, W, bs, x, y, rfl, _⟩ := h
    rfl
  · obtain ⟨F, wa, hd, lv, br, L, W, bs, x, y, rfl, sF, d, D, hx, hy, k⟩ := h
    have hu := hu_of hr
    refine ⟨_, (pss_cons (ps_set (i := 3) sc_met.nd rfl (Or.inr rfl) (pe_callTy call_dictD rfl T.b_dict (by decide +kernel) (pa_cons (pe_dget hu (pv 0) pe_str (fun _ _ => rfl)) pa_nil)))
  (pss_cons (ps_set (i := 5) sc_met.nd rfl (Or.inl rfl) (pe_op op_cat (pe_dget hu (pv 3) (pv 1) (fun _ _ => rfl)) (pe_lc (own := [("sheet", 4)]) rfl sc_met.nd (k_pil K (pe_dget hu (pv 3) (pv 2) (fun _ _ => rfl))) (blkOk_by (N := N_met) (sc := defScope s_met) (by decide +kernel)) (fun _ _ _ _ _ => (pg_name (i := 4) sc_met.nd rfl (Or.inl rfl))) (fun _ _ _ _ _ => (pts_one (pt_cmpR (k_notIn K) (pv 4) (pe_dget hu (pv 3) (pv 1) (fun _ _ => rfl)) rfl))) (fun _ _ _ _ _ => (pv 4)))))
  (pss_cons (ps_asg (pe_tup (pa_cons (pe_callTy (k_listOf K) rfl T.b_list (by decide +kernel) (pa_cons (pv 5) pa_nil)) (pa_cons (pe_callTy (k_listOf K) rfl T.b_list (by decide +kernel) (pa_cons (pv 5) pa_nil)) pa_nil))) (k_pgt K 2 rfl (pgs_cons (pg_sub (pv 3) (pv 1) (set_dict hu)) (pgs_cons (pg_sub (pv 3) (pv 2) (set_dict hu)) pgs_nil))))
  (pss_one (ps_ret (pe_disp (pps_cons pe_str (pv 3) (pps_cons pe_str (pe_dget hu (pv 0) pe_str (fun _ _ => rfl)) (pps_cons pe_str (pe_dget hu (pv 0) pe_str (fun _ _ => rfl)) pps_nil))) rfl rfl (by simp) (by decide))))))), ?_⟩
    obtain ⟨t, ht, et, ex⟩ := D.at hx
    obtain ⟨u, hu', eu, ey⟩ := D.at hy
    subst et eu
    have tl := D.pl ht
    have ul := D.pl hu'
    have l6 := D.n6
    have Z : Nx No F H F H := Nx.refl sF
    walk_at "zz"
    refine z_dgetR (sF.rd d.hw) w_held ?_
    walk_at "zz"
    refine ⟨hd, _, rfl, sF.rd d.hh, fun p hp => ?_⟩
    have Z1 := Z.trans (Nx.mak (o := .dK (heldK L)) sF hp)
    have fp := sF.none hp
    have h1 : (upd H p (.dK (heldK L))) p = some (.dK (heldK L)) := upd_same
    generalize upd H p (.dK (heldK L)) = H1 at Z1 h1 ⊢
    walk_at "zz"
    refine z_dgetR (.inl h1) (held_val D.nd ht) ?_
    walk_at "zz"
    refine z_dgetR (.inl h1) (held_val D.nd hu') ?_
    refine ⟨u.2.1, rfl, ⟨_, Z1.sub.sql (d.ha u hu')⟩, fun e he => ?_⟩
    have pe : p ≠ e := ne_of_none h1 he
    have fe := Z1.sub.none he
    have he0 : H e = none := by
      cases z : H e with
      | none => rfl
      | some o => exact absurd he (Z1.alive e (some_ne z))
    refine lc_it (walk_list (xs := u.2.2.map V.str)) (fun i H' => Nx No F H F H' ∧ H' p = some (.dK (heldK L)) ∧ H' e = some (.lst (((u.2.2.take i).filter fun z => !decide (z ∈ t.2.2)).map V.str)))
      ⟨Z1.trans (Nx.mak Z1.sub he), by rw [upd_ne pe]; exact h1, upd_same⟩ (fun i H' _ h => h.1.sub.sql (d.ha u hu')) ?_ ?_
    · rintro i z H2 H3 hi ⟨Z2, h2, he2⟩ ⟨rfl, hz⟩
      obtain ⟨n, hn, rfl⟩ := at_str hz
      rw [List.length_map] at hi
      walk_at "zz"
      refine z_dgetR (.inl h2) (held_val D.nd ht) ?_
      refine z_ninS (Z2.sub.sql (d.ha t ht)) ?_
      walk_at "zz"
      refine z_iteN (fun no => ?_) (fun yes => ?_)
      · walk_at "zz"
        refine ⟨_, he2, szl (by rw [List.length_map]; exact Nat.le_trans (List.length_filter_le _ _) (Nat.le_trans (List.length_take_le _ _) (by omega))), Z2.wr (.inl he0) fe, by rw [upd_ne pe]; exact h2, ?_⟩
        rw [upd_same, take_step hn, List.filter_append, List.map_append]
        simp [no]
      · refine ⟨Z2, h2, ?_⟩
        rw [he2, take_step hn, List.filter_append, List.map_append]
        simp [yes]
    · rintro H2 ⟨Z2, h2, he2⟩
      rw [List.length_map, List.take_length] at he2
      have fl := List.length_filter_le (fun z => !decide (z ∈ t.2.2)) u.2.2
      refine z_cat (Z2.sub _ _ (d.ha t ht)) he2 (by rw [List.length_map, List.length_map]; omega) fun q hq => ?_
      rw [← List.map_append]
      have eun : t.2.2 ++ u.2.2.filter (fun z => !decide (z ∈ t.2.2)) = uni L t.1 u.1 := by rw [uni, ex, ey]
      rw [eun]
      have ulen : (uni L t.1 u.1).length ≤ 24 := by rw [← eun, List.length_append]; omega
      clear eun fl
      have Z3 := Z2.trans (Nx.mak (M := No) (o := .lst ((uni L t.1 u.1).map V.str)) Z2.sub hq)
      have h3 := upd_keep (o := .lst ((uni L t.1 u.1).map V.str)) h2 hq
      have hq3 : (upd H2 q (.lst ((uni L t.1 u.1).map V.str))) q = some (.lst ((uni L t.1 u.1).map V.str)) := upd_same
      generalize upd H2 q (.lst ((uni L t.1 u.1).map V.str)) = H3 at Z3 h3 hq3 ⊢
      walk_at "zz"
      refine z_list (.inl (SqL.of hq3)) fun l1 hl1 => ?_
      have f1 := Z3.sub.none hl1
      have Z4 := Z3.trans (Nx.lay (M := No) (o := .lst ((uni L t.1 u.1).map V.str)) Z3.sub hl1)
      have h4 := upd_keep (o := .lst ((uni L t.1 u.1).map V.str)) h3 hl1
      have hq4 := upd_keep (o := .lst ((uni L t.1 u.1).map V.str)) hq3 hl1
      have g4 : (upd F l1 (.lst ((uni L t.1 u.1).map V.str))) l1 = some (.lst ((uni L t.1 u.1).map V.str)) := upd_same
      have fp4 : (upd F l1 (.lst ((uni L t.1 u.1).map V.str))) p = none := by rw [upd_ne (ne_of_none h3 hl1)]; exact fp
      generalize upd F l1 (.lst ((uni L t.1 u.1).map V.str)) = F4 at Z4 g4 fp4
      generalize upd H3 l1 (.lst ((uni L t.1 u.1).map V.str)) = H4 at Z4 h4 hq4 ⊢
      walk_at "zz"
      refine z_list (.inl (SqL.of hq4)) fun l2 hl2 => ?_
      have f2 := Z4.sub.none hl2
      have Z5 := Z4.trans (Nx.lay (M := No) (o := .lst ((uni L t.1 u.1).map V.str)) Z4.sub hl2)
      have h5 := upd_keep (o := .lst ((uni L t.1 u.1).map V.str)) h4 hl2
      have g5 := upd_keep (o := .lst ((uni L t.1 u.1).map V.str)) g4 f2
      have g5' : (upd F4 l2 (.lst ((uni L t.1 u.1).map V.str))) l2 = some (.lst ((uni L t.1 u.1).map V.str)) := upd_same
      have fp5 : (upd F4 l2 (.lst ((uni L t.1 u.1).map V.str))) p = none := by rw [upd_ne (ne_of_none h4 hl2)]; exact fp4
      generalize upd F4 l2 (.lst ((uni L t.1 u.1).map V.str)) = F5 at Z5 g5 g5' fp5
      generalize upd H4 l2 (.lst ((uni L t.1 u.1).map V.str)) = H5 at Z5 h5 ⊢
      walk_at "zz"
      refine ⟨sz (by show 2 ≤ 100000; decide), fun r hr' => ?_⟩
      have Z6 := Z5.trans (Nx.mak (M := No) (o := .tup [.ref l1, .ref l2]) Z5.sub hr')
      have h6 := upd_keep (o := .tup [.ref l1, .ref l2]) h5 hr'
      have hr6 : (upd H5 r (.tup [.ref l1, .ref l2])) r = some (.tup [.ref l1, .ref l2]) := upd_same
      generalize upd H5 r (.tup [.ref l1, .ref l2]) = H6 at Z6 h6 hr6 ⊢
      refine z_gt (SqT.of hr6) rfl ?_
      have xin : t.1 ∈ L.map (·.1) := hx
      have yin : u.1 ∈ (setH L t.1 l1 (uni L t.1 u.1)).map (·.1) := by rw [setH_keys]; exact hy
      have hp0 : H p = none := hp
      walk_at "zz"
      refine z_rsd h6 (szl (by rw [held_len]; omega)) (show putK _ _ _ = heldK (setH L t.1 l1 (uni L t.1 u.1)) from held_set xin) ?_
      walk_at "zz"
      refine z_rsd (upd_same) (szl (by rw [held_len, setH, List.length_map]; omega)) (show putK _ _ _ = heldK (metL L t.1 u.1 l1 l2) from held_set yin) ?_
      have Z7 := (Z6.wr (o := .dK (heldK (setH L t.1 l1 (uni L t.1 u.1)))) (.inl hp0) fp5).wr (o := .dK (heldK (metL L t.1 u.1 l1 l2))) (.inl hp0) fp5
      have h7 : (upd (upd H6 p (.dK (heldK (setH L t.1 l1 (uni L t.1 u.1))))) p (.dK (heldK (metL L t.1 u.1 l1 l2)))) p = some (.dK (heldK (metL L t.1 u.1 l1 l2))) := upd_same
      generalize upd (upd H6 p (.dK (heldK (setH L t.1 l1 (uni L t.1 u.1))))) p (.dK (heldK (metL L t.1 u.1 l1 l2))) = H7 at Z7 h7 ⊢
      have Z8 := Z7.trans ((Nx.refl Z7.sub).weak (M' := No) fun _ h => h)
      walk_at "zz"
      refine fun wa' hwa' => ?_
      have Z9 := Z7.trans (Nx.mak (M := No) (o := .dK []) Z7.sub hwa')
      have h9 := upd_keep (o := .dK []) h7 hwa'
      have hw9 : (upd H7 wa' (.dK [])) wa' = some (.dK []) := upd_same
      have fw9 := Z7.sub.none hwa'
      have wa0 : H wa' = none := by
        cases z : H wa' with
        | none => rfl
        | some o => exact absurd hwa' (Z7.alive wa' (some_ne z))
      generalize upd H7 wa' (.dK []) = H9 at Z9 h9 hw9 ⊢
      walk_at "zz"
      refine z_dgetR (Z9.sub.rd (Z9.mono _ _ d.hw)) w_leaves ?_
      walk_at "zz"
      refine z_dgetR (Z9.sub.rd (Z9.mono _ _ d.hw)) w_bars ?_
      walk_at "zz"
      refine ⟨hw9, wK p lv br, rfl, (by show 3 ≤ 15; decide), ?_⟩
      show Q (.ref wa') (upd H9 wa' (.dK (wK p lv br)))
      have pw : p ≠ wa' := ne_of_none h7 hwa'
      have Z10 := ((Z9.wr (o := .dK (wK p lv br)) (.inl wa0) fw9).frz wa0 upd_same fw9)
      have h10 : (upd H9 wa' (.dK (wK p lv br))) p = some (.dK (heldK (metL L t.1 u.1 l1 l2))) := by rw [upd_ne pw]; exact h9
      have fp10 : (upd F5 wa' (.dK (wK p lv br))) p = none := by rw [upd_ne pw]; exact fp5
      have Z11 := Z10.frz hp0 h10 fp10
      have s11 : Sub F5 (upd (upd F5 wa' (.dK (wK p lv br))) p (.dK (heldK (metL L t.1 u.1 l1 l2)))) := fun a o h => upd_keep (upd_keep h fw9) fp10
      refine k wa' p l1 l2 _ _ Z11 ⟨?_, upd_same, s11 _ _ (Z9.mono _ _ d.hv), s11 _ _ (Z9.mono _ _ d.hb), fun v hv => s11 _ _ (Z9.mono _ _ (d.ba v hv)), fun v hv => ?_⟩
      · rw [upd_ne pw.symm]; exact upd_same
      · rcases metL_mem hv with ⟨_, e, e1 | e1⟩ | ⟨_, _, hv⟩
        · rw [e, e1]; exact s11 _ _ g5
        · rw [e, e1]; exact s11 _ _ g5'
        · exact s11 _ _ (Z9.mono _ _ (d.ha v hv))
end
end EV
end

section
set_option maxHeartbeats 2000000
/-! ### rows of even calls, by what each holds -/
namespace EV
open PySem PySem.Spec PyProof.Rows L2
abbrev Hs := Str → List Str
def evenF (h : Hs) (f : Str → Int) (bs : Bars) (x y : Str) : Prop := x ≠ y ∧ ¬ barP bs x y ∧ ¬ (h x).Perm (h y) ∧ ((h x).map f).sum = ((h y).map f).sum
theorem evenP_F {L : Hld} {W : Lvs} {bs : Bars} {x y : Str} : evenP L W bs x y ↔ evenF (hLf L) (lfn W) bs x y := Iff.rfl
def uniS (ps qs : List Str) : List Str := ps ++ qs.filter fun z => !decide (z ∈ ps)
theorem mem_uniS {ps qs : List Str} {z : Str} : z ∈ uniS ps qs ↔ z ∈ ps ∨ z ∈ qs := by
  unfold uniS
  rw [List.mem_append, List.mem_filter]
  by_cases h : z ∈ ps <;> simp [h]
theorem uniS_nodup {ps qs : List Str} (hp : ps.Nodup) (hq : qs.Nodup) : (uniS ps qs).Nodup :=
  List.nodup_append.mpr ⟨hp, hq.filter _, fun a ha b hb e => by
    have := (List.mem_filter.mp hb).2
    rw [← e] at this
    simp [ha] at this⟩
theorem uniS_perm {ps qs ps' qs' : List Str} (hp : ps.Nodup) (hq : qs.Nodup) (a : ps.Perm ps') (b : qs.Perm qs') : (uniS ps qs).Perm (uniS ps' qs') :=
  (List.perm_ext_iff_of_nodup (uniS_nodup hp hq) (uniS_nodup (a.nodup_iff.mp hp) (b.nodup_iff.mp hq))).mpr fun z => by rw [mem_uniS, mem_uniS, a.mem_iff, b.mem_iff]
theorem uniS_comm {ps qs : List Str} (hp : ps.Nodup) (hq : qs.Nodup) : (uniS ps qs).Perm (uniS qs ps) :=
  (List.perm_ext_iff_of_nodup (uniS_nodup hp hq) (uniS_nodup hq hp)).mpr fun z => by rw [mem_uniS, mem_uniS]; exact Or.comm
def stp (h : Hs) (x y : Str) : Hs := fun z => if z = x ∨ z = y then uniS (h x) (h y) else h z
/-- alike, one by one, of these people -/
def Alk (N : List Str) (h g : Hs) : Prop := ∀ z ∈ N, (h z).Perm (g z)
def Nds (N : List Str) (h : Hs) : Prop := ∀ z ∈ N, (h z).Nodup
theorem Alk.refl (N : List Str) (h : Hs) : Alk N h h := fun _ _ => .refl _
theorem Alk.symm {N : List Str} {h g : Hs} (a : Alk N h g) : Alk N g h := fun z hz => (a z hz).symm
theorem Alk.trans {N : List Str} {h g k : Hs} (a : Alk N h g) (b : Alk N g k) : Alk N h k := fun z hz => (a z hz).trans (b z hz)
theorem Nds.alk {N : List Str} {h g : Hs} (n : Nds N h) (a : Alk N h g) : Nds N g := fun z hz => (a z hz).nodup_iff.mp (n z hz)
section
variable {N : List Str} {h g : Hs} {f : Str → Int} {bs : Bars} {x y : Str}
theorem evenF_comm : evenF h f bs x y ↔ evenF h f bs y x :=
  ⟨fun ⟨a, b, c, d⟩ => ⟨a.symm, fun z => b (barP_comm.mp z), fun z => c z.symm, d.symm⟩, fun ⟨a, b, c, d⟩ => ⟨a.symm, fun z => b (barP_comm.mp z), fun z => c z.symm, d.symm⟩⟩
theorem evenF_alk (a : Alk N h g) (hx : x ∈ N) (hy : y ∈ N) (e : evenF h f bs x y) : evenF g f bs x y :=
  ⟨e.1, e.2.1, fun z => e.2.2.1 ((a x hx).trans (z.trans (a y hy).symm)), by rw [← sum_perm f (a x hx), ← sum_perm f (a y hy)]; exact e.2.2.2⟩
theorem stp_alk (n : Nds N h) (a : Alk N h g) (hx : x ∈ N) (hy : y ∈ N) : Alk N (stp h x y) (stp g x y) := fun z hz => by
  unfold stp
  by_cases e : z = x ∨ z = y
  · rw [if_pos e, if_pos e]; exact uniS_perm (n x hx) (n y hy) (a x hx) (a y hy)
  · rw [if_neg e, if_neg e]; exact a z hz
theorem stp_comm (n : Nds N h) (hx : x ∈ N) (hy : y ∈ N) : Alk N (stp h x y) (stp h y x) := fun z hz => by
  unfold stp
  by_cases e : z = x ∨ z = y
  · rw [if_pos e, if_pos e.symm]; exact uniS_comm (n x hx) (n y hy)
  · rw [if_neg e, if_neg (fun k => e k.symm)]
theorem stp_nds (n : Nds N h) (hx : x ∈ N) (hy : y ∈ N) : Nds N (stp h x y) := fun z hz => by
  unfold stp
  by_cases e : z = x ∨ z = y
  · rw [if_pos e]; exact uniS_nodup (n x hx) (n y hy)
  · rw [if_neg e]; exact n z hz
end
/-- a row of even calls, from what is held at first to what is held at last -/
inductive Run (N : List Str) (f : Str → Int) (bs : Bars) : Hs → List (Str × Str) → Hs → Prop where
  | nil {h g : Hs} : Alk N h g → Run N f bs h [] g
  | cons {h g : Hs} {x y : Str} {cs : List (Str × Str)} : x ∈ N → y ∈ N → evenF h f bs x y → Run N f bs (stp h x y) cs g → Run N f bs h ((x, y) :: cs) g
section
variable {N : List Str} {f : Str → Int} {bs : Bars} {h g : Hs} {x y : Str} {cs : List (Str × Str)}
theorem Run.more (r : Run N f bs h cs g) (n : Nds N h) (hx : x ∈ N) (hy : y ∈ N) (e : evenF g f bs x y) : Run N f bs h (cs ++ [(x, y)]) (stp g x y) := by
  induction r with
  | nil a => exact .cons hx hy (evenF_alk a.symm hx hy e) (.nil (stp_alk n a hx hy))
  | cons x1 y1 e1 _ ih => exact .cons x1 y1 e1 (ih (stp_nds n x1 y1) e)
theorem Run.end' {g' : Hs} (r : Run N f bs h cs g) (a : Alk N g g') : Run N f bs h cs g' := by
  induction r with
  | nil b => exact .nil (b.trans a)
  | cons x1 y1 e1 _ ih => exact .cons x1 y1 e1 (ih a)
theorem Run.turned (r : Run N f bs h cs g) (n : Nds N h) (ng : Nds N g) (hx : x ∈ N) (hy : y ∈ N) (e : evenF g f bs x y) : Run N f bs h (cs ++ [(y, x)]) (stp g x y) :=
  (r.more n hy hx (evenF_comm.mp e)).end' (stp_comm ng hy hx)
end
/-! ### no row goes on for ever -/
def pot (N : List Str) (h : Hs) : Nat := (N.map fun z => (h z).length).sum
theorem sum_two {a b : Str → Nat} {x y : Str} : ∀ {N : List Str}, N.Nodup → x ≠ y → x ∈ N → y ∈ N → (∀ z ∈ N, a z ≤ b z) → a x + 1 ≤ b x → a y + 1 ≤ b y → (N.map a).sum + 2 ≤ (N.map b).sum := by
  intro N
  have one : ∀ {x : Str} {N : List Str}, N.Nodup → x ∈ N → (∀ z ∈ N, a z ≤ b z) → a x + 1 ≤ b x → (N.map a).sum + 1 ≤ (N.map b).sum := by
    intro x N
    have none : ∀ {N : List Str}, (∀ z ∈ N, a z ≤ b z) → (N.map a).sum ≤ (N.map b).sum := by
      intro N
      induction N with
      | nil => intro _; exact Nat.le_refl _
      | cons z N ih =>
        intro h
        have := h z List.mem_cons_self
        have := ih fun u hu => h u (List.mem_cons_of_mem _ hu)
        simp only [List.map_cons, List.sum_cons]
        omega
    induction N with
    | nil => intro _ h; cases h
    | cons z N ih =>
      intro nd hx le hl
      have nd' := List.nodup_cons.mp nd
      have le0 := le z List.mem_cons_self
      have leN : ∀ u ∈ N, a u ≤ b u := fun u hu => le u (List.mem_cons_of_mem _ hu)
      simp only [List.map_cons, List.sum_cons]
      rcases List.mem_cons.mp hx with rfl | hx
      · have := none leN; omega
      · have := ih nd'.2 hx leN hl; omega
  induction N with
  | nil => intro _ _ h; cases h
  | cons z N ih =>
    intro nd ne hx hy le lx ly
    have nd' := List.nodup_cons.mp nd
    have le0 := le z List.mem_cons_self
    have leN : ∀ u ∈ N, a u ≤ b u := fun u hu => le u (List.mem_cons_of_mem _ hu)
    simp only [List.map_cons, List.sum_cons]
    rcases List.mem_cons.mp hx with rfl | hx
    · rcases List.mem_cons.mp hy with rfl | hy
      · exact absurd rfl ne
      · have := one nd'.2 hy leN ly; omega
    · rcases List.mem_cons.mp hy with rfl | hy
      · have := one nd'.2 (by assumption) leN lx; omega
      · have := ih nd'.2 ne (by assumption) (by assumption) leN lx ly; omega
theorem uniS_len {ps qs : List Str} : (uniS ps qs).length = ps.length + (qs.filter fun z => !decide (z ∈ ps)).length := List.length_append
/-- of two who may call evenly each holds something that the other one lacks -/
theorem even_both {h : Hs} {f : Str → Int} {bs : Bars} {x y : Str} (nx : (h x).Nodup) (ny : (h y).Nodup) (fx : ∀ z ∈ h x, 1 ≤ f z) (fy : ∀ z ∈ h y, 1 ≤ f z) (e : evenF h f bs x y) :
    (∃ z ∈ h x, z ∉ h y) ∧ ∃ z ∈ h y, z ∉ h x := by
  have ev := (even_byd (f := f) nx ny).mp e.2.2.2
  have nx0 : byd f (h x) (h y) ≠ 0 := fun z => by
    have s1 := (byd_zero fx).mp z
    have s2 := (byd_zero (qs := h x) fy).mp (by rw [← ev]; exact z)
    exact e.2.2.1 ((List.perm_ext_iff_of_nodup nx ny).mpr fun u => ⟨s1 u, s2 u⟩)
  have ny0 : byd f (h y) (h x) ≠ 0 := by rw [← ev]; exact nx0
  constructor
  · by_cases q : ∃ z ∈ h x, z ∉ h y
    · exact q
    · exact absurd ((byd_zero fx).mpr fun z hz => Classical.byContradiction fun k => q ⟨z, hz, k⟩) nx0
  · by_cases q : ∃ z ∈ h y, z ∉ h x
    · exact q
    · exact absurd ((byd_zero fy).mpr fun z hz => Classical.byContradiction fun k => q ⟨z, hz, k⟩) ny0
theorem pot_up {N : List Str} {h : Hs} {f : Str → Int} {bs : Bars} {x y : Str} (nN : N.Nodup) (n : Nds N h) (fp : ∀ z ∈ N, ∀ u ∈ h z, 1 ≤ f u) (hx : x ∈ N) (hy : y ∈ N) (e : evenF h f bs x y) : pot N h + 2 ≤ pot N (stp h x y) := by
  obtain ⟨⟨u, hu, nu⟩, v, hv, nv⟩ := even_both (n x hx) (n y hy) (fp x hx) (fp y hy) e
  have l1 : (h x).length + 1 ≤ (uniS (h x) (h y)).length := by
    have := List.length_pos_of_mem (List.mem_filter.mpr ⟨hv, by simp [nv]⟩ : v ∈ (h y).filter fun z => !decide (z ∈ h x))
    rw [uniS_len]; omega
  have l2 : (h y).length + 1 ≤ (uniS (h x) (h y)).length := by
    rw [(uniS_comm (n x hx) (n y hy)).length_eq]
    have := List.length_pos_of_mem (List.mem_filter.mpr ⟨hu, by simp [nu]⟩ : u ∈ (h x).filter fun z => !decide (z ∈ h y))
    rw [uniS_len]; omega
  refine sum_two nN e.1 hx hy (fun z hz => ?_) ?_ ?_
  · unfold stp
    by_cases q : z = x ∨ z = y
    · rw [if_pos q]
      rcases q with rfl | rfl
      · omega
      · omega
    · rw [if_neg q]; exact Nat.le_refl _
  · show _ ≤ (stp h x y x).length
    rw [stp, if_pos (.inl rfl)]; exact l1
  · show _ ≤ (stp h x y y).length
    rw [stp, if_pos (.inr rfl)]; exact l2
theorem pot_le {h : Hs} {b : Nat} : ∀ {N : List Str}, (∀ z ∈ N, (h z).length ≤ b) → pot N h ≤ b * N.length
  | [], _ => Nat.zero_le _
  | x :: N, k => by
    have a := k x List.mem_cons_self
    have c := pot_le (N := N) fun z hz => k z (List.mem_cons_of_mem _ hz)
    show (h x).length + pot N h ≤ b * (N.length + 1)
    rw [Nat.mul_succ]; omega
end EV
end

section
set_option maxHeartbeats 2000000
local macro_rules | `(tactic| walk_at "za") => `(tactic| (first | exact Or.inl ⟨by omega, by omega⟩ | exact Or.inr ⟨by omega, by omega⟩ | exact ⟨by omega, by omega⟩ | exact ⟨by omega, by omega, by omega⟩ | omega))
local macro_rules | `(tactic| walk_at "z") => `(tactic| (first
  | with_reducible refine EV.z_seq ?_ | with_reducible refine EV.z_next ?_ | with_reducible refine EV.z_nx ?_ | with_reducible refine EV.z_rt ?_ | with_reducible refine EV.z_asg ?_ | with_reducible refine EV.z_name ?_
  | with_reducible refine EV.z_drop ?_ | with_reducible refine EV.z_ret ?_ | with_reducible refine EV.z_if ?_
  | ((with_reducible refine EV.z_var (v := ?vv) ?hv ?_); (case hv => exact rfl)) | with_reducible refine EV.z_c ?_ | with_reducible refine EV.z_op ?_ | with_reducible refine EV.z_un ?_ | with_reducible refine EV.z_I0 ?_ | with_reducible refine EV.z_U ?_ | ((with_reducible refine EV.z_I ?hc ?_); (case hc => walk_at "za"))
  | ((with_reducible refine EV.z_eq ?hv ?_); (case hv => exact rfl)) | ((with_reducible refine EV.z_ne ?hv ?_); (case hv => exact rfl))
  | with_reducible refine EV.z_test ?_ | with_reducible refine EV.z_bl ?_ | with_reducible refine EV.z_B ?_ | with_reducible refine EV.z_and ?_ | with_reducible refine EV.z_or ?_ | with_reducible refine EV.z_not ?_ | with_reducible refine EV.z_andV ?_
  | with_reducible refine EV.z_orV ?_ | with_reducible refine EV.z_notV ?_ | with_reducible refine EV.z_ifE ?_ | with_reducible refine EV.z_nil ?_ | with_reducible refine EV.z_cons ?_ | with_reducible refine EV.z_tup ?_ | with_reducible refine EV.z_lst ?_
  | with_reducible refine EV.z_cb ?_ | with_reducible refine EV.z_call ?_ | with_reducible refine EV.z_dget ?_ | with_reducible refine EV.z_dput ?_ | with_reducible refine EV.z_chain ?_ | with_reducible refine EV.z_then ?_ | with_reducible refine EV.z_fld ?_ | with_reducible refine EV.z_bm ?_
  | with_reducible refine EV.z_par ?_ | with_reducible refine EV.z_par3 ?_ | with_reducible refine EV.z_ex2 ?_ | with_reducible refine EV.z_ex3 ?_ | with_reducible refine EV.z_tyes ?_ | ((with_reducible refine EV.z_wipe ?hv ?_); (case hv => exact rfl))
  | with_reducible refine EV.z_lc ?_ | with_reducible refine EV.z_ltS ?_ | with_reducible refine EV.z_disp ?_ | with_reducible refine EV.z_pc ?_ | with_reducible refine EV.z_pn ?_ | with_reducible refine EV.z_m1 ?_ | with_reducible refine EV.z_isS ?_ | with_reducible refine EV.z_sl ?_ | with_reducible refine EV.z_np ?_ | with_reducible refine EV.z_pt ?_ | with_reducible refine EV.z_exI ?_ | with_reducible refine EV.z_is ?_ | with_reducible refine EV.z_istr ?_ | with_reducible refine EV.z_no ?_ | with_reducible refine EV.z_yes ?_ | with_reducible refine EV.z_for ?_ | with_reducible refine EV.z_il ?_ | with_reducible refine EV.z_it ?_ | with_reducible refine EV.z_r1 ?_ | with_reducible refine EV.z_ik ?_ | with_reducible refine EV.z_din ?_ | with_reducible refine EV.z_dnin ?_ | with_reducible refine EV.z_dsd ?_ | with_reducible refine EV.z_gs ?_ | with_reducible refine EV.z_gc ?_ | with_reducible refine EV.z_gn ?_ | with_reducible refine EV.z_turn ?_))
local macro_rules | `(tactic| walk_at "zz") => `(tactic| repeat walk_at "z")
namespace EV
open PySem PySem.Spec PyProof.Rows L2
def spOpen : Sp := fun vs H Q _ => ∃ (F : Hp) (wa hd lv br : Addr) (L : Hld) (W : Lvs) (bs : Bars), vs = [.ref wa] ∧ Sub F H ∧ Wd F wa hd lv br L W bs ∧ WD L W bs ∧
  ∀ (p : Addr) (ps : Bars) F' H', Nx No F H F' H' → F' p = some (.lst (ps.map fun t => V.ref t.1)) → BarsA F' ps → ps.length ≤ 36 → (∀ t ∈ ps, t.2.1 ∈ L.map (·.1) ∧ t.2.2 ∈ L.map (·.1) ∧ evenP L W bs t.2.1 t.2.2) →
    (∀ x ∈ L.map (·.1), ∀ y ∈ L.map (·.1), evenP L W bs x y → ps ≠ []) → (∀ t ∈ ps, slt t.2.1 t.2.2) → Q (.ref p) H'
theorem same_nx {M : Addr → Prop} {F H F' H' H2 : Hp} (z : Nx M F H F' H') (s : Same H' H2) : Nx M F H F' H2 :=
  ⟨fun x o e => s _ _ (z.sub x o e), z.mono, z.new, fun x o e m => s _ _ (z.keep x o e m), fun x h => by
    cases e : H' x with
    | none => exact absurd e (z.alive x h)
    | some o => exact some_ne (s x o e)⟩
theorem Nx.old {M : Addr → Prop} {F H F' H' : Hp} {p : Addr} (z : Nx M F H F' H') (hp : H' p = none) : H p = none := by
  cases e : H p with
  | none => rfl
  | some o => exact absurd hp (z.alive p (some_ne e))
theorem Nx.same {F H F' H' : Hp} (z : Nx No F H F' H') : Same H H' := fun x o e => z.keep x o e fun k => k
section
variable {P : Program} {w : World} {K : PySem.W.Frag} {mg : Str → Option Value} {base : Heap}
theorem ok_open (T : Txt mg) (c_even : C8.Cal P w K mg base 2 "_law_even" (spEven K) []) {f fd} (D : C8.Def K mg "_law_open" s_open f fd) (b : Binds K fd P_open []) : C8.Cal P w K mg base 3 "_law_open" spOpen [] := by
  refine C8.cal0 D b .nil sc_open (fun vs H Q E h => ?_) (fun cdv A outer s H vs Q E hr h => ?_)
  · obtain ⟨F, wa, hd, lv, br, L, W, bs, rfl, _⟩ := h
    rfl
  · obtain ⟨F, wa, hd, lv, br, L, W, bs, rfl, sF, d, D, k⟩ := h
    have hu := hu_of hr
    refine ⟨_, (pss_cons (ps_par (i := 1) (j := 2) rfl sc_open.nd rfl rfl (by decide) rfl rfl (pa_cons (pe_callB (call_sortedD rfl) rfl T.b_sorted (by decide +kernel) (pa_cons (pe_dget hu (pv 0) pe_str (fun _ _ => rfl)) pa_nil)) (pa_cons (pe_lst pa_nil) pa_nil)) rfl)
  (pss_cons (ps_for PassesOwn.never rfl (k_pil K (pv 1)) (pg_name (i := 3) sc_open.nd rfl (Or.inl rfl))
    (pss_one (ps_for PassesOwn.never rfl (k_pil K (pv 1)) (pg_name (i := 4) sc_open.nd rfl (Or.inl rfl))
    (pss_one (ps_if (PW.pt (pw_and (pt_cmpR k_ltS (pv 3) (pv 4) (nomark _)) (pw_and1 (pt_val (C8.pe_c c_even hr (by decide) rfl (pa_cons (pv 0) (pa_cons (pv 3) (pa_cons (pv 4) pa_nil))))))))
    (pss_one (ps_expr (k_append K (pv 2) (pa_cons (pe_tup (pa_cons (pv 3) (pa_cons (pv 4) pa_nil))) pa_nil))))
    pss_nil)))))
  (pss_one (ps_ret (pv 2))))), ?_⟩
    have Z : Nx No F H F H := Nx.refl sF
    have l6 := D.n6
    walk_at "zz"
    refine z_dgetR (sF.rd d.hw) w_held ?_
    walk_at "zz"
    refine ⟨hd, _, L.map (·.1), rfl, sF.rd d.hh, by rw [heldK, List.map_map, List.map_map]; rfl, by rw [List.length_map]; omega, fun ys l pm srt hl => ?_⟩
    have Z1 := Z.trans (Nx.lay (M := No) (o := .lst (ys.map V.str)) sF hl)
    have fl := sF.none hl
    have g1 : (upd F l (.lst (ys.map V.str))) l = some (.lst (ys.map V.str)) := upd_same
    have d1 : Wd (upd F l (.lst (ys.map V.str))) wa hd lv br L W bs := d.sub fun x o h => upd_keep h fl
    generalize upd F l (.lst (ys.map V.str)) = F1 at Z1 g1 d1
    generalize upd H l (.lst (ys.map V.str)) = H1 at Z1 ⊢
    have yl : ys.length = L.length := by rw [pm.length_eq, List.length_map]
    walk_at "zz"
    refine ⟨sz (by decide), fun p hp => ?_⟩
    have hp0 := Z1.old hp
    have fp := Z1.sub.none hp
    have Z2 := Z1.trans (Nx.mak (M := No) (o := .lst []) Z1.sub hp)
    have h2 : (upd H1 p (.lst [])) p = some (.lst []) := upd_same
    generalize upd H1 p (.lst []) = H2 at Z2 h2 ⊢
    walk_at "zz"
    refine z_loopL (xs := ys.map V.str) (Z2.sub.sql g1) (fun i σ' H' => ∃ (F' : Hp) (ps : Bars) (v3 v4 : Option V), σ' = [some (.ref wa), some (.ref l), some (.ref p), v3, v4] ∧ Nx No F H F' H' ∧ Sub F1 F' ∧ F' p = none ∧ H' p = some (.lst (ps.map fun t => V.ref t.1)) ∧ BarsA F' ps ∧ ps.length ≤ 6 * i ∧
      (∀ t ∈ ps, t.2.1 ∈ L.map (·.1) ∧ t.2.2 ∈ L.map (·.1) ∧ evenP L W bs t.2.1 t.2.2 ∧ slt t.2.1 t.2.2) ∧ ∀ x ∈ ys.take i, ∀ y ∈ ys, slt x y → evenP L W bs x y → ps ≠ [])
      ⟨F1, [], none, none, rfl, Z2, fun _ _ e => e, fp, h2, fun t ht => (by cases ht), by simp, fun t ht => (by cases ht), fun t ht => (by cases ht)⟩ (fun i σ' H' _ ⟨F', _, _, _, _, Z, s, _⟩ => Z.sub.sql (s _ _ g1)) ?_ ?_
    · rintro i x σ' H3 hi ⟨F3, ps, v3, v4, rfl, Z3, s3, fp3, h3, hb3, hn3, hc3, hd3⟩
      obtain ⟨x, hx, rfl⟩ := at_str hi
      have hil : i < ys.length := (List.getElem?_eq_some_iff.mp hx).1
      have xin := pm.mem_iff.mp (List.mem_of_getElem? hx)
      walk_at "zz"
      refine z_loopL (xs := ys.map V.str) (Z3.sub.sql (s3 _ _ g1)) (fun j σ' H' => ∃ (F' : Hp) (ps : Bars) (v4 : Option V), σ' = [some (.ref wa), some (.ref l), some (.ref p), some (.str x), v4] ∧ Nx No F H F' H' ∧ Sub F1 F' ∧ F' p = none ∧ H' p = some (.lst (ps.map fun t => V.ref t.1)) ∧ BarsA F' ps ∧ ps.length ≤ 6 * i + j ∧
        (∀ t ∈ ps, t.2.1 ∈ L.map (·.1) ∧ t.2.2 ∈ L.map (·.1) ∧ evenP L W bs t.2.1 t.2.2 ∧ slt t.2.1 t.2.2) ∧ (∀ x ∈ ys.take i, ∀ y ∈ ys, slt x y → evenP L W bs x y → ps ≠ []) ∧ ∀ y ∈ ys.take j, slt x y → evenP L W bs x y → ps ≠ [])
        ⟨F3, ps, v4, rfl, Z3, s3, fp3, h3, hb3, by omega, hc3, hd3, fun t ht => (by cases ht)⟩ (fun i σ' H' _ ⟨F', _, _, _, Z, s, _⟩ => Z.sub.sql (s _ _ g1)) ?_ ?_
      · rintro j x' σ' H4 hj ⟨F4, ps, v4, rfl, Z4, s4, fp4, h4, hb4, hn4, hc4, hd4, he4⟩
        obtain ⟨y, hy, rfl⟩ := at_str hj
        have hjl : j < ys.length := (List.getElem?_eq_some_iff.mp hy).1
        have yin := pm.mem_iff.mp (List.mem_of_getElem? hy)
        have stay : ∀ H5, Nx No F H F4 H5 → H5 p = some (.lst (ps.map fun t => V.ref t.1)) → ¬ (slt x y ∧ evenP L W bs x y) → ∃ (F' : Hp) (ps : Bars) (v4 : Option V), [some (V.ref wa), some (.ref l), some (.ref p), some (.str x), some (.str y)] = [some (.ref wa), some (.ref l), some (.ref p), some (.str x), v4] ∧ Nx No F H F' H5 ∧ Sub F1 F' ∧ F' p = none ∧ H5 p = some (.lst (ps.map fun t => V.ref t.1)) ∧ BarsA F' ps ∧ ps.length ≤ 6 * i + (j + 1) ∧
          (∀ t ∈ ps, t.2.1 ∈ L.map (·.1) ∧ t.2.2 ∈ L.map (·.1) ∧ evenP L W bs t.2.1 t.2.2 ∧ slt t.2.1 t.2.2) ∧ (∀ x ∈ ys.take i, ∀ y ∈ ys, slt x y → evenP L W bs x y → ps ≠ []) ∧ ∀ y ∈ ys.take (j + 1), slt x y → evenP L W bs x y → ps ≠ [] := by
          intro H5 Z5 h5 no
          refine ⟨F4, ps, _, rfl, Z5, s4, fp4, h5, hb4, by omega, hc4, hd4, fun z hz lt e => ?_⟩
          rw [take_step hy] at hz
          rcases List.mem_append.mp hz with hz | hz
          · exact he4 z hz lt e
          · rw [List.mem_singleton.mp hz] at lt e
            exact absurd ⟨lt, e⟩ no
        walk_at "zz"
        refine z_ite (fun lt => ?_) (fun nlt => ?_)
        · walk_at "zz"
          refine ⟨wa, hd, lv, br, L, W, bs, x, y, rfl, d1.sub (fun a o h => Z4.sub _ _ (s4 _ _ h)), D, xin, yin, fun b H5 s5 hb => ?_⟩
          have Z5 := same_nx Z4 s5
          have h5 := s5 _ _ h4
          walk_at "zz"
          refine z_iteB (fun eb => ?_) (fun eb => ?_)
          · have ev := hb.mp eb
            walk_at "zz"
            refine ⟨.inl ⟨rfl, _, SqL.of h5⟩, ?_⟩
            walk_at "zz"
            refine ⟨sz (by show 2 ≤ 100000; decide), fun t ht => ?_⟩
            have Z6 := Z5.trans (Nx.lay (M := No) (o := .tup [.str x, .str y]) Z5.sub ht)
            have h6 := upd_keep (o := .tup [.str x, .str y]) h5 ht
            have ft := Z5.sub.none ht
            have g6 : (upd F4 t (.tup [.str x, .str y])) t = some (.tup [.str x, .str y]) := upd_same
            have s6 : Sub F4 (upd F4 t (.tup [.str x, .str y])) := fun a o h => upd_keep h ft
            have fp6 : (upd F4 t (.tup [.str x, .str y])) p = none := by rw [upd_ne (ne_of_none h5 ht)]; exact fp4
            generalize upd F4 t (.tup [.str x, .str y]) = F6 at Z6 g6 s6 fp6
            generalize upd H5 t (.tup [.str x, .str y]) = H6 at Z6 h6 ⊢
            walk_at "zz"
            refine z_app h6 (by rw [List.length_map]; omega) ?_
            refine ⟨F6, ps ++ [(t, x, y)], _, rfl, Z6.wr (.inl hp0) fp6, fun a o h => s6 _ _ (s4 _ _ h), fp6, by rw [upd_same, List.map_append]; rfl, ?_, by simp; omega, ?_, fun z hz u hu lt e => by simp, fun z hz lt e => by simp⟩
            · intro u hu
              rcases List.mem_append.mp hu with hu | hu
              · exact s6 _ _ (hb4 u hu)
              · rw [List.mem_singleton.mp hu]; exact g6
            · intro u hu
              rcases List.mem_append.mp hu with hu | hu
              · exact hc4 u hu
              · rw [List.mem_singleton.mp hu]; exact ⟨xin, yin, ev, lt⟩
          · walk_at "zz"
            exact stay H5 Z5 h5 fun z => by have := hb.mpr z.2; rw [eb] at this; cases this
        · walk_at "zz"
          exact stay H4 Z4 h4 fun z => nlt z.1
      · rintro σ' H4 ⟨F4, ps, v4, rfl, Z4, s4, fp4, h4, hb4, hn4, hc4, hd4, he4⟩
        rw [List.length_map] at hn4 he4
        rw [List.take_length] at he4
        walk_at "zz"
        refine ⟨F4, ps, _, _, rfl, Z4, s4, fp4, h4, hb4, by omega, hc4, fun z hz u hu lt e => ?_⟩
        rw [take_step hx] at hz
        rcases List.mem_append.mp hz with hz | hz
        · exact hd4 z hz u hu lt e
        · rw [List.mem_singleton.mp hz] at lt e
          exact he4 u hu lt e
    · rintro σ' H3 ⟨F3, ps, v3, v4, rfl, Z3, s3, fp3, h3, hb3, hn3, hc3, hd3⟩
      rw [List.length_map] at hn3 hd3
      rw [List.take_length] at hd3
      walk_at "zz"
      have Z4 := Z3.frz hp0 h3 fp3
      refine k p ps _ _ Z4 upd_same (fun t ht => upd_keep (hb3 t ht) fp3) (by omega) (fun t ht => ⟨(hc3 t ht).1, (hc3 t ht).2.1, (hc3 t ht).2.2.1⟩) (fun x hx y hy e => ?_) fun t ht => (hc3 t ht).2.2.2
      rcases slt_tri e.1 with lt | lt
      · exact hd3 x (pm.mem_iff.mpr hx) y (pm.mem_iff.mpr hy) lt e
      · exact hd3 y (pm.mem_iff.mpr hy) x (pm.mem_iff.mpr hx) lt (evenP_comm.mp e)
end
theorem metL_stp {L : Hld} {x y : Str} {l1 l2 : Addr} (hx : x ∈ L.map (·.1)) (hy : y ∈ L.map (·.1)) : hLf (metL L x y l1 l2) = stp (hLf L) x y := by
  funext z
  rw [metL_hLf hx hy]; rfl
theorem WD.nds {L : Hld} {W : Lvs} {bs : Bars} (D : WD L W bs) : Nds (L.map (·.1)) (hLf L) := fun z hz => by
  obtain ⟨t, ht, _, e⟩ := D.at hz
  rw [e]; exact (D.ok ht).1
theorem WD.fp {L : Hld} {W : Lvs} {bs : Bars} (D : WD L W bs) : ∀ z ∈ L.map (·.1), ∀ u ∈ hLf L z, 1 ≤ lfn W u := fun z hz u hu => by
  obtain ⟨t, ht, _, e⟩ := D.at hz
  rw [e] at hu; exact D.lf1 ((D.ok ht).2 u hu)
theorem WD.pot {L : Hld} {W : Lvs} {bs : Bars} (D : WD L W bs) : pot (L.map (·.1)) (hLf L) ≤ 72 := by
  have := pot_le (h := hLf L) (b := 12) (N := L.map (·.1)) fun z hz => by
    obtain ⟨t, ht, _, e⟩ := D.at hz
    rw [e]; exact D.pl ht
  have l6 := D.n6
  rw [List.length_map] at this
  omega
def spRow : Sp := fun vs H Q _ => ∃ (F : Hp) (a g wa hd lv br : Addr) (L : Hld) (W : Lvs) (bs : Bars) (B : Int) (cap : Nat), vs = [.ref a, .ref wa, .int (cap : Int)] ∧ Sub F H ∧ Sta F H a g B ∧ B + 200 < 1000000000 ∧ Wd F wa hd lv br L W bs ∧ WD L W bs ∧
  ∀ (r c wa' : Addr) (cs : Bars) (k : Hs) F' H', Nx (MS a g) F H F' H' → Sta F' H' a g (B + 200) → F' r = some (.lst [.ref c, .ref wa']) → F' c = some (.lst (cs.map fun t => V.ref t.1)) → BarsA F' cs → cs.length ≤ 36 → cs.length ≤ cap →
    Run (L.map (·.1)) (lfn W) bs (hLf L) (cs.map (·.2)) k → (cs.length < cap → ∀ x ∈ L.map (·.1), ∀ y ∈ L.map (·.1), ¬ evenF k (lfn W) bs x y) → ∀ hd' L', Wd F' wa' hd' lv br L' W bs → WD L' W bs → L'.map (·.1) = L.map (·.1) → hLf L' = k → Q (.ref r) H'
section
variable {P : Program} {w : World} {K : PySem.W.Frag} {mg : Str → Option Value} {base : Heap}
theorem ok_row (T : Txt mg) (c_take : C8.Cal P w K mg base 2 "_law_take" spTake []) (c_pick : C8.Cal P w K mg base 3 "_law_pick" spPick []) (c_open : C8.Cal P w K mg base 3 "_law_open" spOpen []) (c_met : C8.Cal P w K mg base 1 "_law_met" spMet [])
    {f fd} (D : C8.Def K mg "_law_row" s_row f fd) (b : Binds K fd P_row []) : C8.Cal P w K mg base 4 "_law_row" spRow [] := by
  refine C8.cal0 D b .nil sc_row (fun vs H Q E h => ?_) (fun cdv A outer s H vs Q E hr h => ?_)
  · obtain ⟨F, a, g, wa, hd, lv, br, L, W, bs, B, cap, rfl, _⟩ := h
    rfl
  · obtain ⟨F, a, g, wa, hd, lv, br, L, W, bs, B, cap, rfl, sF, S, hB, d, D, k⟩ := h
    have hu := hu_of hr
    refine ⟨_, (pss_cons (ps_par (i := 3) (j := 4) rfl sc_row.nd rfl rfl (by decide) rfl rfl (pa_cons (pe_lst pa_nil) (pa_cons (C8.pe_c c_open hr (by decide) rfl (pa_cons (pv 1) pa_nil)) pa_nil)) rfl)
  (pss_cons (ps_while PassesOwn.never (PW.pt (pw_and (pt_cmpR (k_neD K hr.units) (pv 4) (pe_lst pa_nil) (nomark _)) (pw_and1 (pt_cmpR op_lt (pe_callB (k_len K) rfl T.b_len PySem.boot_len (pa_cons (pv 3) pa_nil)) (pv 2) (nomark _)))))
    (pss_cons (ps_set (i := 5) sc_row.nd rfl (Or.inl rfl) (C8.pe_c c_pick hr (by decide) rfl (pa_cons (pv 0) (pa_cons (pv 4) pa_nil))))
  (pss_cons (ps_set (i := 1) sc_row.nd rfl (Or.inl rfl) (C8.pe_c c_met hr (by decide) rfl (pa_cons (pv 1) (pa_cons (pe_ix (k_ixT K) (pv 5) pe_int (fun _ _ => rfl)) (pa_cons (pe_ix (k_ixT K) (pv 5) pe_int (fun _ _ => rfl)) pa_nil)))))
  (pss_cons (ps_expr (k_append K (pv 3) (pa_cons (pe_ix (k_ixL K) (pe_lst (pa_cons (pv 5) (pa_cons (pe_turn K (pv 5)) pa_nil))) (C8.pe_c c_take hr (by decide) rfl (pa_cons (pv 0) (pa_cons pe_int pa_nil))) (fun _ _ => rfl)) pa_nil)))
  (pss_one (ps_set (i := 4) sc_row.nd rfl (Or.inl rfl) (C8.pe_c c_open hr (by decide) rfl (pa_cons (pv 1) pa_nil))))))))
  (pss_one (ps_ret (pe_lst (pa_cons (pv 3) (pa_cons (pv 1) pa_nil))))))), ?_⟩
    have Z := Cz.start sF S
    walk_at "zz"
    refine ⟨sz (by decide), fun c hc => ?_⟩
    have hc0 := Z.old hc
    have fc := Z.sub.none hc
    have Z1 := Z.mak hc (.lst [])
    have h1 : (upd H c (.lst [])) c = some (.lst []) := upd_same
    generalize upd H c (.lst []) = H1 at Z1 h1 ⊢
    walk_at "zz"
    refine ⟨F, wa, hd, lv, br, L, W, bs, rfl, Z1.sub, d, D, fun pp ps F2 H2 N2 hpp hbp p36 hev hcm _ => ?_⟩
    have Z2 := Z1.pure N2
    obtain ⟨h2, fc2⟩ : H2 c = some (.lst []) ∧ F2 c = none := ⟨N2.keep _ _ h1 (fun k => k), N2.new _ (some_ne h1) fc⟩
    have d2 := d.sub N2.mono
    walk_at "zz"
    have okbs : ∀ {ps : Bars}, (∀ t ∈ ps, t.2.1 ∈ L.map (·.1) ∧ t.2.2 ∈ L.map (·.1)) → ∀ t ∈ ps, PyData.strOk t.2.1 = true ∧ PyData.strOk t.2.2 = true := fun h t ht => by
      obtain ⟨m1, m2⟩ := h t ht
      obtain ⟨t1, h1, e1⟩ := List.mem_map.mp m1
      obtain ⟨t2, h2, e2⟩ := List.mem_map.mp m2
      rw [← e1, ← e2]
      exact ⟨(D.nm _ h1).ok, (D.nm _ h2).ok⟩
    refine z_while (fun m σ' H' => ∃ (F' : Hp) (wa hd : Addr) (L' : Hld) (cs ps : Bars) (pp : Addr) (v5 : Option V), σ' = [some (.ref a), some (.ref wa), some (.int (cap : Int)), some (.ref c), some (.ref pp), v5] ∧ Cz a g F H F' H' (B + 2 * cs.length) ∧ F' c = none ∧ H' c = some (.lst (cs.map fun t => V.ref t.1)) ∧ BarsA F' cs ∧
      Wd F' wa hd lv br L' W bs ∧ WD L' W bs ∧ L'.map (·.1) = L.map (·.1) ∧ Run (L.map (·.1)) (lfn W) bs (hLf L) (cs.map (·.2)) (hLf L') ∧ 2 * cs.length ≤ pot (L.map (·.1)) (hLf L') ∧ cs.length ≤ cap ∧
      F' pp = some (.lst (ps.map fun t => V.ref t.1)) ∧ BarsA F' ps ∧ ps.length ≤ 36 ∧ (∀ t ∈ ps, t.2.1 ∈ L.map (·.1) ∧ t.2.2 ∈ L.map (·.1) ∧ evenP L' W bs t.2.1 t.2.2) ∧ (∀ x ∈ L.map (·.1), ∀ y ∈ L.map (·.1), evenP L' W bs x y → ps ≠ []) ∧ m + cs.length = 36) 36
      ⟨F2, wa, hd, L, [], ps, pp, none, rfl, Z2.mono (by simp), fc2, h2, fun t ht => (by cases ht), d2, D, rfl, .nil (Alk.refl _ _), by simp, Nat.zero_le _, hpp, hbp, p36, hev, hcm, by simp⟩ ?_ ?_
    · rintro m σ' H3 ⟨F3, wa3, hd3, L3, cs, ps, pp, v5, rfl, Z3, fc3, h3, hb3, d3, D3, e3, r3, p3, cp3, hpp3, hbp3, p363, hev3, hcm3, hm3⟩
      have pt := D3.pot
      rw [e3] at pt
      walk_at "zz"
      refine ⟨sz (by decide), fun e he => ?_⟩
      have Z4 := Z3.mak he (.lst [])
      have h4 := upd_keep (o := .lst []) h3 he
      have he4 : (upd H3 e (.lst [])) e = some (.lst []) := upd_same
      generalize upd H3 e (.lst []) = H4 at Z4 h4 he4 ⊢
      refine z_nePe (Z4.sub.sql hpp3) (fun t ht => Z4.sub.sqt (hbp3 t ht)) (SqL.of he4) (okbs fun t ht => ⟨(hev3 t ht).1, (hev3 t ht).2.1⟩) ?_
      walk_at "zz"
      refine z_iteN (fun ne => ?_) (fun em => ?_)
      · walk_at "zz"
        refine z_lenL (SqL.of h4) ?_
        rw [List.length_map]
        walk_at "zz"
        refine z_ite (fun lt => ?_) (fun big => ?_)
        rotate_left
        · walk_at "zz"
          refine ⟨sz (by show 2 ≤ 100000; decide), fun r hr' => ?_⟩
          have Z5 := Z4.frz hc0 h4 fc3
          have s5 : Sub F3 (upd F3 c (.lst (cs.map fun t => V.ref t.1))) := fun a o h => upd_keep h fc3
          have g5 : (upd F3 c (.lst (cs.map fun t => V.ref t.1))) c = some (.lst (cs.map fun t => V.ref t.1)) := upd_same
          generalize upd F3 c (.lst (cs.map fun t => V.ref t.1)) = F5 at Z5 s5 g5
          have fr := Z5.sub.none hr'
          have Z6 := (Z5.lay hr' (.lst [.ref c, .ref wa3])).mono (show _ ≤ B + 200 by omega)
          exact k r c wa3 cs (hLf L3) _ _ Z6.N Z6.S upd_same (upd_keep g5 fr) (fun t ht => upd_keep (s5 _ _ (hb3 t ht)) fr) (by omega) cp3 r3 (fun lt => absurd lt (by omega)) hd3 L3 (d3.sub fun a o h => upd_keep (s5 _ _ h) fr) D3 e3 rfl
        walk_at "zz"
        have ppos : 0 < ps.length := List.length_pos_iff.mpr ne
        refine z_pickL Z4 hpp3 (by rw [List.length_map]; exact ppos) (by rw [List.length_map]; omega) (by omega) fun v H5 hv Z5 K5 => ?_
        obtain ⟨t, ht, rfl⟩ := List.mem_map.mp hv
        have h5 := K5 _ _ h4 hc0
        obtain ⟨xin, yin, ev⟩ := hev3 t ht
        walk_at "zz"
        refine z_ixT (i := 0) (Z5.sub.sqt (hbp3 t ht)) (atI_nat (j := 0) (by rfl)) ?_
        walk_at "zz"
        refine z_ixT (i := 1) (Z5.sub.sqt (hbp3 t ht)) (atI_nat (j := 1) (by rfl)) ?_
        walk_at "zz"
        refine ⟨F3, wa3, hd3, lv, br, L3, W, bs, t.2.1, t.2.2, rfl, Z5.sub, d3, D3, by rw [e3]; exact xin, by rw [e3]; exact yin, fun wa6 hd6 l1 l2 F6 H6 N6 d6 => ?_⟩
        have Z6 := Z5.pure N6
        have D6 := D3.met (by rw [e3]; exact xin) (by rw [e3]; exact yin) l1 l2
        have e6 : (metL L3 t.2.1 t.2.2 l1 l2).map (·.1) = L.map (·.1) := metL_keys.trans e3
        have st6 : hLf (metL L3 t.2.1 t.2.2 l1 l2) = stp (hLf L3) t.2.1 t.2.2 := metL_stp (by rw [e3]; exact xin) (by rw [e3]; exact yin)
        have h6 := N6.keep _ _ h5 fun k => k
        have fc6 := N6.new _ (some_ne h5) fc3
        have n3 := D3.nds
        have fp3 := D3.fp
        rw [e3] at n3 fp3
        have up := pot_up D.nd n3 fp3 xin yin ev
        have pt6 := D6.pot
        rw [e6, st6] at pt6
        walk_at "zz"
        refine ⟨.inl ⟨rfl, _, SqL.of h6⟩, ?_⟩
        walk_at "zz"
        have gt6 := N6.mono _ _ (hbp3 t ht)
        refine ⟨t.1, .str t.2.1, .str t.2.2, rfl, Z6.sub.sqt gt6, fun q hq => ?_⟩
        have fq := Z6.sub.none hq
        have Z7 := Z6.lay hq (.tup [.str t.2.2, .str t.2.1])
        have h7 := upd_keep (o := .tup [.str t.2.2, .str t.2.1]) h6 hq
        have g7 : (upd F6 q (.tup [.str t.2.2, .str t.2.1])) q = some (.tup [.str t.2.2, .str t.2.1]) := upd_same
        have s7 : Sub F6 (upd F6 q (.tup [.str t.2.2, .str t.2.1])) := fun a o h => upd_keep h fq
        have fc7 : (upd F6 q (.tup [.str t.2.2, .str t.2.1])) c = none := by rw [upd_ne (ne_of_none h6 hq)]; exact fc6
        generalize upd F6 q (.tup [.str t.2.2, .str t.2.1]) = F7 at Z7 g7 s7 fc7
        generalize upd H6 q (.tup [.str t.2.2, .str t.2.1]) = H7 at Z7 h7 ⊢
        walk_at "zz"
        refine ⟨sz (by show 2 ≤ 100000; decide), fun q2 hq2 => ?_⟩
        have hq20 := Z7.old hq2
        have Z8 := Z7.mak hq2 (.lst [.ref t.1, .ref q])
        have h8 := upd_keep (o := .lst [.ref t.1, .ref q]) h7 hq2
        have hq8 : (upd H7 q2 (.lst [.ref t.1, .ref q])) q2 = some (.lst [.ref t.1, .ref q]) := upd_same
        generalize upd H7 q2 (.lst [.ref t.1, .ref q]) = H8 at Z8 h8 hq8 ⊢
        walk_at "zz"
        refine z_take Z8 (by omega) (by omega) (by omega) fun r H9 r0 r1 Z9 K9 => ?_
        have h9 := K9 _ _ h8 hc0
        have hq9 := K9 _ _ hq8 hq20
        obtain ⟨v, av, hm⟩ := at_of_mem (xs := [V.ref t.1, .ref q]) r0 r1
        obtain ⟨u, rfl, gu, run⟩ : ∃ u : Addr × Str × Str, v = .ref u.1 ∧ F7 u.1 = some (.tup [.str u.2.1, .str u.2.2]) ∧ Run (L.map (·.1)) (lfn W) bs (hLf L) ((cs ++ [u]).map (·.2)) (stp (hLf L3) t.2.1 t.2.2) := by
          rcases List.mem_cons.mp hm with rfl | hm
          · exact ⟨t, rfl, s7 _ _ gt6, by rw [List.map_append]; exact r3.more D.nds xin yin ev⟩
          · rw [List.mem_singleton.mp hm]
            exact ⟨(q, t.2.2, t.2.1), rfl, g7, by rw [List.map_append]; exact r3.turned D.nds n3 xin yin ev⟩
        refine z_ixL (SqL.of hq9) av ?_
        walk_at "zz"
        refine z_app h9 (by rw [List.length_map]; omega) ?_
        have Z10 := Z9.wr hc0 fc7 (.lst (cs.map (fun t => V.ref t.1) ++ [.ref u.1]))
        have h10 : (upd H9 c (.lst (cs.map (fun t => V.ref t.1) ++ [.ref u.1]))) c = some (.lst ((cs ++ [u]).map fun t => V.ref t.1)) := by rw [upd_same, List.map_append]; rfl
        generalize upd H9 c (.lst (cs.map (fun t => V.ref t.1) ++ [.ref u.1])) = H10 at Z10 h10 ⊢
        have d7 := d6.sub s7
        walk_at "zz"
        refine ⟨F7, wa6, hd6, lv, br, _, W, bs, rfl, Z10.sub, d7, D6, fun pp11 ps11 F11 H11 N11 hpp11 hbp11 p11 hev11 hcm11 _ => ?_⟩
        rw [e6] at hev11 hcm11
        have Z11 := Z10.pure N11
        have h11 := N11.keep _ _ h10 fun k => k
        have fc11 := N11.new _ (some_ne h10) fc7
        walk_at "zz"
        refine ⟨m - 1, by omega, F11, wa6, hd6, _, cs ++ [u], ps11, pp11, _, rfl, Z11.mono (by simp; omega), fc11, h11, fun z hz => ?_, d7.sub N11.mono, D6, e6, by rw [st6]; exact run, by rw [st6]; simp; omega, by simp; omega, hpp11, hbp11, p11, hev11, hcm11, by simp; omega⟩
        rcases List.mem_append.mp hz with hz | hz
        · exact N11.mono _ _ (s7 _ _ (N6.mono _ _ (hb3 z hz)))
        · rw [List.mem_singleton.mp hz]; exact N11.mono _ _ gu
      · walk_at "zz"
        refine ⟨sz (by show 2 ≤ 100000; decide), fun r hr' => ?_⟩
        have Z5 := Z4.frz hc0 h4 fc3
        have s5 : Sub F3 (upd F3 c (.lst (cs.map fun t => V.ref t.1))) := fun a o h => upd_keep h fc3
        have g5 : (upd F3 c (.lst (cs.map fun t => V.ref t.1))) c = some (.lst (cs.map fun t => V.ref t.1)) := upd_same
        generalize upd F3 c (.lst (cs.map fun t => V.ref t.1)) = F5 at Z5 s5 g5
        have fr := Z5.sub.none hr'
        have Z6 := (Z5.lay hr' (.lst [.ref c, .ref wa3])).mono (show _ ≤ B + 200 by omega)
        exact k r c wa3 cs (hLf L3) _ _ Z6.N Z6.S upd_same (upd_keep g5 fr) (fun t ht => upd_keep (s5 _ _ (hb3 t ht)) fr) (by omega) cp3 r3 (fun _ x hx y hy ev => hcm3 x hx y hy ev em) hd3 L3 (d3.sub fun a o h => upd_keep (s5 _ _ h) fr) D3 e3 rfl
    · intro σ H Q Q' hq h
      obtain ⟨v, hv, sz', q⟩ := h
      refine ⟨v, hv, sz', fun p hp => ?_⟩
      obtain ⟨d1, d2, h1, h2, h3, h4, k, ek, q⟩ := q p hp
      refine ⟨d1, d2, h1, h2, h3, h4, k, ek, ?_⟩
      cases k with
      | false => exact hq _ _ q
      | true =>
        obtain ⟨v, hv, x, n, ex, hl, v2, hv2, i, j, e1, e2, k2, ek2, q⟩ := q
        exact ⟨v, hv, x, n, ex, hl, v2, hv2, i, j, e1, e2, k2, ek2, hq _ _ q⟩
end
end EV
end

section
set_option maxHeartbeats 2000000
/-! ### sets of any plain kind, with tables that can be walked -/
namespace EV.Sets
open PySem PySem.Spec PyProof.Rows L2
section
variable {P : Program} {w : World} {K : Type} [DecidableEq K] {knd : KeyKind P w K}
/-- a set's table: the members S, n of them -/
structure Tbl (knd : KeyKind P w K) (el : Array (Int × Value)) (tb : SetTable) (S : K → Bool) (n : Nat) : Prop where
  els : ElemsOf knd el.toList
  dis : el.toList.Pairwise fun e f => ∀ k, knd.is k e.2 = true → ¬ knd.is k f.2 = true
  mem : ∀ k, S k = true ↔ ∃ e ∈ el.toList, knd.is k e.2 = true
  few : el.size < scanBound
  fit : tb.fits el.size = true
  num : el.size = n
  ris : Ris tb.place.toList
  led : w.params.followText "set-order" = true ∨ tb.led = true
def SetG (knd : KeyKind P w K) (hp : Heap) (D : Addr) (S : K → Bool) (n : Nat) : Prop := ∃ ob el ep tb, hp.get? D = some ob ∧ ob.ExactSet ∧ ob.data = .set el ep tb ∧ Tbl knd el tb S n
theorem SetG.keep {hp hp' : Heap} {D : Addr} {S : K → Bool} {n : Nat} (R : SetG knd hp D S n) (k : ∀ ob, hp.get? D = some ob → hp'.get? D = some ob) : SetG knd hp' D S n :=
  let ⟨ob, el, ep, tb, e, r⟩ := R; ⟨ob, el, ep, tb, k ob e, r⟩
theorem SetG.is {hp : Heap} {D : Addr} {S : K → Bool} {n : Nat} (R : SetG knd hp D S n) : hp.SetOf knd D S n :=
  let ⟨ob, el, ep, tb, e, x, d, T⟩ := R; ⟨ob, el, ep, tb, e, x, d, T.els, T.mem, T.few, T.fit, T.num⟩
theorem none_new {el : Array (Int × Value)} {k : K} (hf : List.findIdx? (fun e => knd.is k e.2) el.toList = none) : ∀ e ∈ el.toList, ¬ knd.is k e.2 = true := fun e he z => by
  have c := List.findIdx?_eq_none_iff.mp hf e he
  rw [z] at c; cases c
/-- the table with one more, as it is laid -/
theorem Tbl.more {el el1 : Array (Int × Value)} {tb tb1 : SetTable} {S : K → Bool} {n : Nat} {k : K} {v : Value} (T : Tbl knd el tb S n) (hk : knd.is k v = true) (hs : v.scannable = true) (no : ∀ e ∈ el.toList, ¬ knd.is k e.2 = true) (pm : el1.toList.Perm ((knd.hash k, v) :: el.toList))
    (room : n + 1 < scanBound) (fit : tb1.fits el1.size = true) (ris : Ris tb1.place.toList) (led : w.params.followText "set-order" = true ∨ tb1.led = true) : Tbl knd el1 tb1 (fun j => S j || decide (j = k)) (n + 1) := by
  have num : el1.size = n + 1 := by rw [← Array.length_toList, pm.length_eq, List.length_cons, Array.length_toList, T.num]
  refine ⟨fun e he => ?_, ?_, fun j => ?_, by rw [num]; exact room, fit, num, ris, led⟩
  · rcases List.mem_cons.mp (pm.mem_iff.mp he) with rfl | he
    · exact ⟨⟨k, hk, rfl⟩, hs⟩
    · exact T.els e he
  · refine (pm.pairwise_iff (fun {e f} q j jf je => q j je jf)).mpr (List.pairwise_cons.mpr ⟨fun e he j je jf => ?_, T.dis⟩)
    have := knd.inj _ _ _ je hk
    rw [this] at jf
    exact no e he jf
  · rw [Bool.or_eq_true, decide_eq_true_eq, T.mem j]
    constructor
    · rintro (⟨e, he, q⟩ | rfl)
      · exact ⟨e, pm.mem_iff.mpr (List.mem_cons_of_mem _ he), q⟩
      · exact ⟨_, pm.mem_iff.mpr List.mem_cons_self, hk⟩
    · rintro ⟨e, he, q⟩
      rcases List.mem_cons.mp (pm.mem_iff.mp he) with rfl | he
      · exact .inr (knd.inj _ _ _ q hk)
      · exact .inl ⟨e, he, q⟩
theorem Tbl.relaid {el el2 : Array (Int × Value)} {tb tb2 : SetTable} {S : K → Bool} {n : Nat} (T : Tbl knd el tb S n) (pm : el2.toList.Perm el.toList) (fit : tb2.fits el2.size = true) (ris : Ris tb2.place.toList) (led : tb2.led = tb.led) : Tbl knd el2 tb2 S n := by
  have sz : el2.size = el.size := by rw [← Array.length_toList, pm.length_eq, Array.length_toList]
  refine ⟨fun e he => T.els e (pm.mem_iff.mp he), (pm.pairwise_iff (fun {e f} q j jf je => q j je jf)).mpr T.dis, fun j => (T.mem j).trans ⟨fun ⟨e, he, q⟩ => ⟨e, pm.mem_iff.mpr he, q⟩, fun ⟨e, he, q⟩ => ⟨e, pm.mem_iff.mp he, q⟩⟩, by rw [sz]; exact T.few, fit, sz.trans T.num, ris, ?_⟩
  rw [led]; exact T.led
section
variable {A : Around} {E : Value → Shared → Prop} {s : Shared} {D : Addr} {S : K → Bool} {n : Nat}
theorem stored {hp : Heap} {ob : Obj} {el el' : Array (Int × Value)} {ep : Nat} {tb tb' : SetTable} (e : hp.get? D = some ob) (d : ob.data = .set el ep tb) : (hp.update D (Obj.putSet el' tb')).get? D = some { ob with data := .set el' (ep + 1) tb' } := by
  have z := Heap.get?_update_self (Obj.putSet el' tb') e (by rw [putSet_of el' tb' d]; rfl)
  rwa [putSet_of el' tb' d] at z
theorem lay_down {gv : Bool → Sem Unit} (hgv : ∀ (b : Bool) (s' : Shared) (Q' : Unit → Shared → Prop), Q' () s' → wpAny (model P w) A (gv b) Q' E s') {ob : Obj} {el el1 : Array (Int × Value)} {ep : Nat} {tb tb1 : SetTable} {S' : K → Bool} {m : Nat} (e : s.heap.get? D = some ob) (x : ob.ExactSet)
    (d : ob.data = .set el ep tb) (T : Tbl knd el1 tb1 S' m) {wd : Bool} {R : Option Bool → Shared → Prop} (hR : ∀ hp, Heap.SameBut D s.heap hp → SetG knd hp D S' m → R (some true) { s with heap := hp }) :
    wpAny (model P w) A (do storeSet D el1 tb1
                            if (!wd && tb1.tooFull) = true then do
                              gv (relayAll tb1 el1 (SetTable.grown el1.size)).2.2; storeSet D (relayAll tb1 el1 (SetTable.grown el1.size)).1 (relayAll tb1 el1 (SetTable.grown el1.size)).2.1; pure (some true)
                            else pure (some true)) R E s := by
  refine wpAny_bind (wpAny_storeSet_of e d ?_ (fits_of_scanBound T.few))
  have e1 := stored (el' := el1) (tb' := tb1) e d
  have sb1 := Heap.SameBut.update s.heap D (Obj.putSet el1 tb1)
  split
  case isFalse => exact wpAny_pure (hR _ sb1 ⟨_, el1, _, tb1, e1, x, rfl, T⟩)
  case isTrue =>
    have T2 := T.relaid (relayAll_perm tb1 el1 (SetTable.grown el1.size)) (relayAll_fits tb1 el1 _) (relayAll_ris tb1 el1 _) (relayAll_led tb1 el1 _)
    generalize relayAll tb1 el1 (SetTable.grown el1.size) = Z at T2 ⊢
    obtain ⟨el2, tb2, gave⟩ := Z
    exact wpAny_bind (hgv _ _ _ (wpAny_bind (wpAny_storeSet_of e1 rfl (wpAny_pure (hR _ (sb1.trans (Heap.SameBut.update _ D _)) ⟨_, el2, _, tb2, stored e1 rfl, x, rfl, T2⟩)) (fits_of_scanBound T2.few))))
theorem add_hashed {k : K} {v : Value} {Q : Bool → Shared → Prop} (R : SetG knd s.heap D S n) (hk : knd.is k v = true) (hs : v.scannable = true) (room : n + 1 < scanBound)
    (hQ : ∀ hp, Heap.SameBut D s.heap hp → SetG knd hp D (fun j => S j || decide (j = k)) (if S k = true then n else n + 1) → Q (!S k) { s with heap := hp }) : wpAny (model P w) A (setAddHashed D v (knd.hash k)) Q E s := by
  obtain ⟨ob, el, ep, tb, e, x, d, T⟩ := R
  unfold setAddHashed setAddHashedIn
  refine wpAny_holding (wpAny_bind (wpAny_setState_of e d T.fit ?_))
  dsimp only
  rw [byScan_of hs T.few T.els, if_pos rfl]
  unfold setAddByScan
  refine wpAny_bind (wpAny_bind (wpAny_rule (wpAny_bind (wpAny_setScan_of hk e d T.fit T.els ?_))))
  cases hf : List.findIdx? (fun q => knd.is k q.2) el.toList with
  | some j =>
    obtain ⟨hj, pj, _⟩ := List.findIdx?_eq_some_iff_getElem.mp hf
    have Sk : S k = true := (T.mem k).mpr ⟨_, List.getElem_mem hj, pj⟩
    have same : (fun i => S i || decide (i = k)) = S := by
      funext i
      by_cases ei : i = k
      · rw [ei, Sk]; rfl
      · rw [decide_eq_false ei, Bool.or_false]
    have q := hQ s.heap (Heap.SameBut.refl D s.heap) ⟨ob, el, ep, tb, e, x, d, by rw [same, if_pos Sk]; exact T⟩
    rw [Sk] at q
    exact wpAny_pure (wpAny_pure q)
  | none =>
    dsimp only
    have no := none_new hf
    have Sk : S k = false := Bool.eq_false_iff.mpr fun z => let ⟨e', he, q⟩ := (T.mem k).mp z; no e' he q
    have pl : ∀ (b : Bool) {s' : Shared} {Q' : Unit → Shared → Prop}, Q' () s' → wpAny (model P w) A (match b with | true => rule "set.scan.the-table-gave-way" | false => pure ()) Q' E s' := fun b s' Q' q => by
      cases b
      · exact wpAny_pure q
      · exact wpAny_rule q
    have pm : (layNew tb el (knd.hash k) v).1.toList.Perm ((knd.hash k, v) :: el.toList) := by
      have q := layNew_perm tb el (knd.hash k) v
      rw [Array.toList_push] at q
      exact q.trans (List.perm_append_singleton (knd.hash k, v) el.toList)
    have ft := layNew_fits tb el (knd.hash k) v
    have rs := layNew_ris tb el (knd.hash k) v T.ris
    have ld := layNew_led tb el (knd.hash k) v
    generalize layNew tb el (knd.hash k) v = Z at pm ft rs ld ⊢
    obtain ⟨el1, tb1, wd, gave⟩ := Z
    dsimp only at pm ft rs ld ⊢
    have ld1 : w.params.followText "set-order" = true ∨ tb1.led = true := by rw [ld]; exact T.led
    have fin : ∀ hp, Heap.SameBut D s.heap hp → SetG knd hp D (fun j => S j || decide (j = k)) (n + 1) → Q true { s with heap := hp } := fun hp sb r => by
      have q := hQ hp sb
      rw [Sk] at q
      exact q r
    refine wpAny_bind (pl _ ?_)
    split
    · refine wpAny_bind ?_
      rw [hashByValue_scannable 8 hs]
      refine wpAny_pure (lay_down (S' := fun j => S j || decide (j = k)) (m := n + 1) ?_ e x d (T.more hk hs no pm room ?_ ?_ ?_) ?_)
      · intro b s' Q' q; cases b
        · exact wpAny_pure q
        · exact wpAny_rule q
      · first | (split <;> first | exact ft | exact SetTable.fits_plain_off ft) | exact ft
      · first | (split <;> exact rs) | exact rs
      · first | (split <;> exact ld1) | exact ld1
      · intro hp sb r; dsimp only; exact wpAny_pure (fin hp sb r)
    · refine wpAny_bind (wpAny_pure ?_)
      simp only [↓reduceIte]
      refine lay_down (S' := fun j => S j || decide (j = k)) (m := n + 1) ?_ e x d (T.more hk hs no pm room ft rs ld1) ?_
      · intro b s' Q' q; cases b
        · exact wpAny_pure q
        · exact wpAny_rule q
      · intro hp sb r; dsimp only; exact wpAny_pure (fin hp sb r)
theorem add {k : K} {v : Value} {Q : Value → Shared → Prop} (R : SetG knd s.heap D S n) (hk : knd.is k v = true) (hs : v.scannable = true) (room : n + 1 < scanBound)
    (hQ : ∀ hp, Heap.SameBut D s.heap hp → SetG knd hp D (fun j => S j || decide (j = k)) (if S k = true then n else n + 1) → Q .none { s with heap := hp, toks := s.toks + 1 }) : wpAny (model P w) A (call (.builtin "set.add") [.ref D, v]) Q E s := by
  refine wpAny_call_entry F.slot_set_add R.is.typeIs F.entry_set_add ?_ (F.args_set_add_2 _ _)
  unfold Builtin.«set.add» Builtin.Frozenset.oneOther Builtin.Frozenset.addrOf setAdd
  simp only [List.isEmpty_nil, bind_assoc]
  refine wpAny_bind (wpAny_pure ?_); try dsimp only
  refine wpAny_bind (wpAny_pure ?_); try dsimp only
  refine wpAny_bind (wpAny_holding (wpAny_bind (knd.pyHash hk (add_hashed (s := { s with toks := s.toks + 1 }) R hk hs room fun hp sb r => ?_))))
  exact wpAny_pure ⟨_, rfl, hQ hp sb r⟩
end
end
end EV.Sets
end

section
set_option maxHeartbeats 2000000
/-! ### sets of texts as tracked things -/
namespace EV.Sets
open PySem PySem.Spec PyProof.Rows L2
abbrev sk (P : Program) (w : World) := PySem.strKind P w
def SetS (P : Program) (w : World) (D : Addr) (S : Str → Bool) (n : Nat) : HO := .ext fun hp => SetG (sk P w) hp D S n
theorem setS_new {P : Program} {w : World} {H : Hp} {hp : Heap} {D : Addr} {S : Str → Bool} {n : Nat} (R : SetG (sk P w) hp D S n) : ObjOk P w H hp D (SetS P w D S n) :=
  ⟨R, (let ⟨ob, _, _, _, e, _⟩ := R; ⟨ob, e⟩), fun _ _ p k => SetG.keep p k⟩
theorem setG_fresh {P : Program} {w : World} {K : Type} [DecidableEq K] {knd : KeyKind P w K} {hp : Heap} : SetG knd (hp.push { cls := .type "set", dict := none, data := .set #[] 0 (.fresh 0 0 (!w.params.followText "set-order")) }) hp.objs.size (fun _ => false) 0 := by
  refine ⟨_, #[], 0, _, Heap.get?_push_size _ rfl, ⟨rfl, rfl, rfl⟩, rfl, ⟨fun e he => by simp at he, List.Pairwise.nil, fun k => by simp, by decide, by rfl, rfl, List.Pairwise.nil, ?_⟩⟩
  show _ ∨ (!w.params.followText "set-order") = true
  cases w.params.followText "set-order" <;> simp
section
variable {X : Cx} {pins : List (Addr × Obj)} {σ : L2.St} {H : Hp} {s : Shared}
theorem setS_get {D : Addr} {S : Str → Bool} {n : Nat} (I : Inv X pins σ H s) (h : H D = some (SetS X.prog X.w D S n)) : SetG (sk X.prog X.w) s.heap D S n := (I.hok D _ h).1
/-- one more text -/
theorem addS_ok {E : Value → Shared → Prop} {D : Addr} {S : Str → Bool} {n : Nat} {y : Str} {t : Tok} {Q : Value → Shared → Prop} (I : Inv X pins σ H s) (h : H D = some (SetS X.prog X.w D S n)) (room : n + 1 < scanBound)
    (q : ∀ s', Inv X pins σ (upd H D (SetS X.prog X.w D (fun j => S j || decide (j = y)) (if S y = true then n else n + 1))) s' → Q .none s') : wpAny (model X.prog X.w) X.A (call (.builtin "set.add") [.ref D, .str y t]) Q E s :=
  add (setS_get I h) (PySem.strKind_is _ _ y t) rfl room fun hp sb R =>
    q _ (I.write (e := D) (t' := s.toks + 1) (by rw [h]; trivial) (.inl rfl) (fun b u hb e => (sb.2 b hb).trans e) (let ⟨ob, _, _, _, e, _⟩ := R; ⟨ob, e⟩) (setS_new R))
/-- len of a set of texts -/
def rLenS (P : Program) (w : World) : List V → Hp → VK → Prop := fun xs H Q => ∃ (D : Addr) (S : Str → Bool) (n : Nat), xs = [V.ref D] ∧ H D = some (SetS P w D S n) ∧ Q (.int n) H
theorem cr_lenS (P : Program) (w : World) (hP : X.prog = P := by rfl) (hw : X.w = w := by rfl) : CallR X (.builtin "len") (rLenS P w) := by
  subst hP hw
  rintro pins s σ H xs us Q I r ⟨D, S, n, rfl, h, q⟩
  rw [Vals.ref1 r]
  obtain ⟨ob, el, ep, tb, e, x, d, T⟩ := setS_get I h
  have few : el.size < 2 ^ 63 := Nat.lt_of_lt_of_le T.few (by decide)
  exact call_len_set e x d T.fit (by omega) ⟨.int n, H, I.tok _, ⟨_, by rw [T.num]⟩, q⟩
/-- the texts of a set, in order -/
def rSortS (P : Program) (w : World) : List V → Hp → VK → Prop := fun xs H Q => ∃ (D : Addr) (S : Str → Bool) (n : Nat), xs = [V.ref D] ∧ H D = some (SetS P w D S n) ∧ n < 64 ∧
  ∀ (ys : List Str) (p : Addr), ys.Nodup → sortedS ys = true → (∀ k, k ∈ ys ↔ S k = true) → ys.length = n → H p = none → Q (.ref p) (upd H p (.lst (ys.map V.str)))
/-- the values of a table of texts, as texts -/
theorem texts_of {P : Program} {w : World} : ∀ {l : List (Int × Value)}, ElemsOf (sk P w) l → ∃ xs : List Str, StrsAre (l.map (·.2)) xs ∧ ∀ k, k ∈ xs ↔ ∃ e ∈ l, (sk P w).is k e.2 = true
  | [], _ => ⟨[], .nil, fun k => by simp⟩
  | e :: l, h => by
    obtain ⟨xs, a, b⟩ := texts_of (l := l) fun u hu => h u (List.mem_cons_of_mem _ hu)
    obtain ⟨⟨k, hk, _⟩, _⟩ := h e List.mem_cons_self
    obtain ⟨t, ev⟩ := Value.isStrOf_shape hk
    refine ⟨k :: xs, by rw [List.map_cons, ev]; exact .cons k t a, fun j => ?_⟩
    rw [List.mem_cons, b j]
    constructor
    · rintro (rfl | ⟨u, hu, q⟩)
      · exact ⟨e, List.mem_cons_self, hk⟩
      · exact ⟨u, List.mem_cons_of_mem _ hu, q⟩
    · rintro ⟨u, hu, q⟩
      rcases List.mem_cons.mp hu with rfl | hu
      · exact .inl ((sk P w).inj _ _ _ q hk)
      · exact .inr ⟨u, hu, q⟩
theorem texts_nodup {P : Program} {w : World} : ∀ {l : List (Int × Value)} {xs : List Str}, StrsAre (l.map (·.2)) xs → (l.Pairwise fun e f => ∀ k, (sk P w).is k e.2 = true → ¬ (sk P w).is k f.2 = true) → xs.Nodup := by
  intro l
  induction l with
  | nil => intro xs a _; cases a; exact List.nodup_nil
  | cons e l ih =>
    intro xs a d
    generalize hz : ((e :: l).map (·.2)) = z at a
    cases a with
    | nil => cases hz
    | cons x t a =>
      rw [List.map_cons] at hz
      obtain ⟨e1, e2⟩ := List.cons.inj hz
      rw [← e2] at a
      obtain ⟨d1, d2⟩ := List.pairwise_cons.mp d
      refine List.nodup_cons.mpr ⟨fun m => ?_, ih a d2⟩
      have mem : ∀ {us : List Value} {ys : List Str}, StrsAre us ys → x ∈ ys → ∃ u ∈ us, (sk P w).is x u = true := by
        intro us ys b
        induction b with
        | nil => intro h; cases h
        | cons y t b ihb =>
          intro h
          rcases List.mem_cons.mp h with rfl | h
          · exact ⟨_, List.mem_cons_self, PySem.strKind_is _ _ _ _⟩
          · obtain ⟨u, hu, q⟩ := ihb h
            exact ⟨u, List.mem_cons_of_mem _ hu, q⟩
      obtain ⟨u, hu, q⟩ := mem a m
      obtain ⟨f, hf, rfl⟩ := List.mem_map.mp hu
      exact d1 f hf x (by rw [e1]; exact PySem.strKind_is _ _ _ _) q
theorem strsAre_perm {us vs : List Value} (p : us.Perm vs) : ∀ {xs : List Str}, StrsAre us xs → ∃ ys, StrsAre vs ys ∧ ys.Perm xs := by
  induction p with
  | nil => intro xs a; exact ⟨xs, a, .refl _⟩
  | cons u _ ih =>
    intro xs a
    cases a with
    | cons x t a =>
      obtain ⟨ys, b, q⟩ := ih a
      exact ⟨x :: ys, .cons x t b, q.cons x⟩
  | swap u v l =>
    intro xs a
    cases a with
    | cons x t a => cases a with
      | cons y t' a => exact ⟨_, .cons y t' (.cons x t a), .swap x y _⟩
  | trans _ _ ih1 ih2 =>
    intro xs a
    obtain ⟨ys, b, q⟩ := ih1 a
    obtain ⟨zs, c, r⟩ := ih2 b
    exact ⟨zs, c, r.trans q⟩
theorem cr_sortS (P : Program) (w : World) (hc : X.calm = true) (hP : X.prog = P := by rfl) (hw : X.w = w := by rfl) : CallR X (.builtin "sorted") (rSortS P w) := by
  subst hP hw
  rintro pins s σ H xs us Q I r ⟨D, S, n, rfl, h, h64, q⟩
  rw [Vals.ref1 r]
  obtain ⟨ob, el, ep, tb, e, x, d, T⟩ := setS_get I h
  refine Calls.call_function_entry kind_sorted plain_sorted entry_sorted (args_sorted1 _) ?_
  unfold Builtin.«sorted»
  refine wpAny_bind (m := checkCount "sorted" 1 1 _) (wpAny_pure (wpAny_bind (collect_set (A := X.A.in1) (I.ok.hd hc) ⟨ob, e, x.1, d⟩ T.fit T.few T.ris T.led fun s1 vs k1 hz g1 o1 pm => ?_)))
  obtain ⟨ts, a1, a2⟩ := texts_of T.els
  have nd := texts_nodup a1 T.dis
  obtain ⟨us, b1, b2⟩ := strsAre_perm pm.symm a1
  have ln : vs.length = n := by rw [pm.length_eq, List.length_map, Array.length_toList]; exact T.num
  have lu : us.length = n := by rw [← ln]; exact (StrsAre.length b1).symm
  refine wpAny_bind (wpAny_newList ?_ (by rw [ln, sizeLine_eq]; omega))
  have at1 : (s1.heap.push (seqObj "list" vs.toArray 0)).get? s1.heap.objs.size = some (seqObj "list" vs.toArray 0) := Heap.get?_push_size _ rfl
  refine wpAny_bind (wpAny_holding (wpAny_call_entry slot_list_sort ⟨_, at1, rfl⟩ entry_list_sort (list_sort_treeK strKind_oneLt at1 b1.keysOf (fun v₁ v₂ rest z => keyKind_strs (by rw [← z]; exact b1)) (by rw [ln]; exact h64) fun st' hp hs => ⟨_, rfl, ?_⟩) (args_list_sort _)))
  obtain ⟨ys, c1, c2, c3⟩ := sorted_out_str b1 hp hs
  obtain ⟨e', at2⟩ := sortedHeap_at (vs := vs) (out := (arrOf st').map (·.2)) at1
  have py : ys.Perm ts := c2.trans b2
  have ly : ys.length = n := by rw [c2.length_eq]; exact lu
  have free : H s1.heap.objs.size = none := I.hok.fresh hz
  have kept : ∀ b u, s.heap.get? b = some u → (sortedHeap (s1.heap.push (seqObj "list" vs.toArray 0)) s1.heap.objs.size vs ((arrOf st').map (·.2))).get? b = some u := fun b u z => by
    have lt := Heap.lt_size (k1 b u z)
    rw [sortedHeap_old (Nat.ne_of_lt lt) (by rw [size_push']; exact Nat.lt_succ_of_lt lt)]
    exact Heap.get?_push_of_some _ (k1 b u z)
  have fits : (ys.map V.str).length ≤ sizeLine := by rw [List.length_map, ly, sizeLine_eq]; omega
  refine wpAny_pure ⟨_, rfl, .ref s1.heap.objs.size, upd H s1.heap.objs.size (.lst (ys.map V.str)), ?_, rfl, q ys _ (py.nodup_iff.mpr nd) c3 (fun k => by rw [py.mem_iff, a2 k, T.mem k]) ly free⟩
  have J : Inv X pins σ (upd H s1.heap.objs.size (.lst (ys.map V.str))) { s with heap := sortedHeap (s1.heap.push (seqObj "list" vs.toArray 0)) s1.heap.objs.size vs ((arrOf st').map (·.2)), gens := s1.gens, drawn := s1.drawn, toks := s1.toks } :=
    I.call (ch := []) (Un.laid kept hz free) (I.hok.laid kept hz ⟨fits, ((arrOf st').map (·.2)).toList, e', vals_of_strs c1, by rw [Array.toArray_toList]; exact at2⟩) (by rw [g1]; exact I.bare) (fun _ z => nomatch z)
  cases s1
  cases s
  cases o1
  exact J
end
end EV.Sets
end

section
set_option maxHeartbeats 4000000
/-! ### set(xs) of texts, xs a list or a tuple -/
namespace EV.Sets
open PySem PySem.Spec PyProof.Rows L2
/-- these, each once: n of them -/
def Once (xs : List Str) (n : Nat) : Prop := ∃ ds : List Str, ds.Nodup ∧ (∀ k, k ∈ ds ↔ k ∈ xs) ∧ ds.length = n
theorem Once.nil : Once [] 0 := ⟨[], List.nodup_nil, fun k => Iff.rfl, rfl⟩
theorem Once.le {xs : List Str} {n : Nat} (o : Once xs n) : n ≤ xs.length := by
  obtain ⟨ds, nd, m, rfl⟩ := o
  exact go ds xs nd fun x hx => (m x).mp hx
where go : ∀ (l D : List Str), l.Nodup → (∀ x ∈ l, x ∈ D) → l.length ≤ D.length
  | [], _, _, _ => Nat.zero_le _
  | x :: l, D, nd, h => by
    have hx := h x List.mem_cons_self
    have q := go l (D.erase x) (List.nodup_cons.mp nd).2 fun y hy => (List.mem_erase_of_ne (fun (e : y = x) => (List.nodup_cons.mp nd).1 (by rw [← e]; exact hy))).mpr (h y (List.mem_cons_of_mem _ hy))
    rw [List.length_erase_of_mem hx] at q
    have := List.length_pos_of_mem hx
    rw [List.length_cons]; omega
theorem Once.all {xs : List Str} {n : Nat} (o : Once xs n) (nd : xs.Nodup) : n = xs.length := by
  have a := o.le
  obtain ⟨ds, d, m, rfl⟩ := o
  have b := Once.le.go xs ds nd fun x hx => (m x).mpr hx
  omega
theorem Once.step {xs : List Str} {x : Str} {n : Nat} (o : Once xs n) : Once (xs ++ [x]) (if decide (x ∈ xs) = true then n else n + 1) := by
  obtain ⟨ds, nd, m, rfl⟩ := o
  by_cases h : x ∈ xs
  · rw [if_pos (decide_eq_true h)]
    refine ⟨ds, nd, fun k => ?_, rfl⟩
    rw [m k, List.mem_append, List.mem_singleton]
    exact ⟨.inl, fun z => z.elim id fun e => e ▸ h⟩
  · rw [if_neg (by rw [decide_eq_false h]; exact Bool.false_ne_true)]
    refine ⟨x :: ds, List.nodup_cons.mpr ⟨fun z => h ((m x).mp z), nd⟩, fun k => ?_, rfl⟩
    rw [List.mem_cons, m k, List.mem_append, List.mem_singleton]
    exact Or.comm
section
variable {P : Program} {w : World} {A : Around} {E : Value → Shared → Prop} {s : Shared}
abbrev Goes (P : Program) (w : World) (D : Addr) (xs : List Str) (hp : Heap) : Prop := ∃ n, SetG (sk P w) hp D (fun k => decide (k ∈ xs)) n ∧ Once xs n
theorem fill {I : Addr} {fp wr : List Addr} {G : Array GenState → Array GenState → Prop} {m : Nat} {Pv : Nat → Value → Prop} {St : Nat → Shared → Prop} {R : Result → Shared → Prop} (W : WalksS P w A.in1 I fp wr G m Pv St) (D : Addr) (nf : D ∉ fp) (xs : List Str) (hm : m = xs.length) (few : xs.length + 1 < scanBound)
    (val : ∀ i v, Pv i v → ∃ x t, xs[i]? = some x ∧ v = .str x t) : ∀ (c i : Nat) (s : Shared), m - i = c → i ≤ m → St i s → Goes P w D (xs.take i) s.heap → (∀ s', Moved (D :: wr) G s s' → Goes P w D xs s'.heap → R (.ok (.ret .none)) s') →
    codeAny (model P w) A (.builtin "set.update.loop" ⟨[.ref D, .ref I], []⟩) R s := by
  have nw : D ∉ wr := fun z => nf (W.sub _ z)
  have up : ∀ b ∈ wr, b ∈ D :: wr := fun b hb => List.mem_cons_of_mem _ hb
  intro c
  induction c with
  | zero =>
    intro i s hc hi st ⟨n, g, o⟩ hR
    obtain rfl : i = m := by omega
    refine codeAny_builtin F.entry_set_update_loop ?_
    rw [Around.under_plainId F.plain_set_update_loop _]
    change wpAny _ A.in1 (pyNext (.ref I) >>= fun x => _) _ _ s
    refine wpAny_bind (W.done s _ _ st fun s' mv => wpAny_pure (hR s' (mv.mono up) ⟨n, ?_, ?_⟩))
    · have := g.keep (hp' := s'.heap) fun ob e => mv.heap D ob nw e
      rwa [hm, List.take_length] at this
    · rwa [hm, List.take_length] at o
  | succ c ih =>
    intro i s hc hi st ⟨n, g, o⟩ hR
    have lt : i < m := by omega
    refine codeAny_builtin F.entry_set_update_loop ?_
    rw [Around.under_plainId F.plain_set_update_loop _]
    change wpAny _ A.in1 (pyNext (.ref I) >>= fun x => _) _ _ s
    refine wpAny_bind (W.item i s _ _ lt st fun v s' pv st' mv => ?_)
    obtain ⟨x, t, hx, rfl⟩ := val i v pv
    have g' := g.keep (hp' := s'.heap) fun ob e => mv.heap D ob nw e
    change wpAny _ A.in1 (holding [Value.str x t] (setAdd D (.str x t)) >>= fun _ => _) _ _ s'
    refine wpAny_bind (wpAny_holding ?_)
    unfold setAdd
    have ole := o.le
    rw [List.length_take] at ole
    refine wpAny_holding (wpAny_bind ((sk P w).pyHash (k := x) (PySem.strKind_is _ _ _ _) (add_hashed (s := { s' with toks := s'.toks + 1 }) (k := x) g' (PySem.strKind_is _ _ x t) rfl (by omega) fun hp sb g2 => ?_)))
    have tk : xs.take (i + 1) = xs.take i ++ [x] := by rw [List.take_succ, hx]; rfl
    have g3 : Goes P w D (xs.take (i + 1)) hp := by
      rw [tk]
      refine ⟨_, ?_, o.step⟩
      have e : (fun j => decide (j ∈ xs.take i) || decide (j = x)) = fun j => decide (j ∈ xs.take i ++ [x]) := by
        funext j
        by_cases h1 : j ∈ xs.take i <;> by_cases h2 : j = x <;> simp [h1, h2]
      rw [← e]; exact g2
    refine wpAny_pure ⟨plainId_quiet F.plain_set_update_loop _, ih (i + 1) _ (by omega) lt (W.frame _ s' _ _ st' (Nat.le_succ _) fun b hb ob e => ?_) g3 fun s'' mv2 g4 => hR s'' (Moved.trans W.gtrans ((mv.mono up).then_heap (Nat.le_succ _) fun b ob hb e => ?_) mv2) g4⟩
    · rw [sb.2 b (fun z : b = D => nf (by rw [← z]; exact hb))]; exact e
    · rw [sb.2 b (fun z : b = D => hb (by rw [z]; exact List.mem_cons_self))]; exact e
abbrev bareSet (w : World) : Obj := { cls := .type "set", dict := none, data := .set #[] 0 (.fresh 0 0 (!w.params.followText "set-order")) }
theorem text_at : ∀ {us : List Value} {xs : List Str}, StrsAre us xs → ∀ {i : Nat} {v : Value}, us[i]? = some v → ∃ x t, xs[i]? = some x ∧ v = .str x t
  | _, _, .nil, i, v, h => by cases h
  | _, _, .cons x t r, 0, v, h => ⟨x, t, rfl, (Option.some.inj h).symm⟩
  | _, _, .cons _ _ r, i + 1, v, h => text_at (i := i) r h

theorem call_set_lst {l : Addr} {items : Array Value} {xs : List Str} {Q : Value → Shared → Prop} (free : A.handled = none) (src : s.heap.IsList l items) (txt : StrsAre items.toList xs) (few : xs.length + 1 < scanBound)
    (hQ : ∀ hp tk, Goes P w s.heap.objs.size xs hp → (∀ b ob, s.heap.get? b = some ob → hp.get? b = some ob) → Q (.ref s.heap.objs.size) { s with heap := hp, toks := tk }) : wpAny (model P w) A (call (.type "set") [.ref l]) Q E s := by
  obtain ⟨hd, tl, mro⟩ := F.called_set.mro; have mk := F.called_set.made; have sb := F.called_set.sub
  refine wpAny_call (codeAny_of_tree ?_)
  change wpAny _ _ (callAny (.type "set") _) _ _ _
  refine wpAny_pure ⟨Code.quiet_builtin _ (by decide +kernel), codeAny_builtin F.entry_type_call ?_⟩; rw [Around.under_plain (weight_type_call_type "set" [.ref l] []) rfl]
  have nt := F.called_set.notType; have cc := F.called_set.canCreate; have tc := F.typeCall_set_1 (.ref l)
  repeat (any_goals (first | assumption | wp_step))
  refine codeAny_mono (code_set_led1 (.ref l) (E := E) (Q₁ := fun r s₁ => r = .ref s.heap.objs.size ∧ s₁ = { s with heap := s.heap.push (bareSet w) }) ⟨rfl, rfl⟩) fun r s₁ hr => ?_
  match r, hr with
  | .error _, hr => exact hr
  | .ok (.ret r), hr =>
    obtain ⟨rfl, rfl⟩ := hr
    have atD : (s.heap.push (bareSet w)).get? s.heap.objs.size = some (bareSet w) := Heap.get?_push_size _ rfl
    have isD : Shared.TypeIs { s with heap := s.heap.push (bareSet w) } (.ref s.heap.objs.size) "set" := ⟨_, atD, rfl⟩
    have lk := F.called_set.init.lookup; have bd := F.called_set.init.bind (.ref s.heap.objs.size)
    repeat (any_goals (first | assumption | wp_step))
    refine codeAny_mono (codeAny_call_builtin (R := wants (fun r s₂ => r = .none ∧ ∃ hp tk, s₂ = { s with heap := hp, toks := tk } ∧ Goes P w s.heap.objs.size xs hp ∧ ∀ b ob, s.heap.get? b = some ob → hp.get? b = some ob) E) F.called_set.init.plain F.entry_set_init (check_set_init_1 isD ?_)) fun r₂ s₂ hr₂ => ?_
    · obtain ⟨ob, at0, cl, nl, da⟩ := src
      obtain ⟨ocl, odi, oda, osl⟩ := ob
      simp only at cl da; subst cl da
      have lt0 : l < s.heap.objs.size := Heap.lt_size at0
      have at1 : (s.heap.push (bareSet w)).get? l = some { cls := .type "list", dict := odi, data := .seq items nl, slots := osl } := Heap.get?_push_of_some _ at0
      have u1 := F.sub_list_set; have u2 := F.sub_list_frozenset; have u3 : (Value.type "list" == Value.type "dict") = false := by decide
      have src1 : (s.heap.push (bareSet w)).IsList l items := ⟨_, at1, rfl, nl, rfl⟩
      unfold Builtin.«set.__init__» noKeywords Builtin.Frozenset.updateFrom
      generalize hit : pyIter = IT
      wp_walk
      subst hit
      refine wpAny_pyIter_list src1 (wpAny_bind (wpAny_runValue ?_))
      have free3 : A.in1.in1.in1.handled = none := by simp [free]
      have ne : l ≠ (s.heap.push (bareSet w)).objs.size := by rw [Heap.size_push]; exact Nat.ne_of_lt (Nat.lt_succ_of_lt lt0)
      have nf : s.heap.objs.size ∉ [(s.heap.push (bareSet w)).objs.size, l] := by rw [Heap.size_push]; simp; exact Nat.ne_of_gt lt0
      have ln : items.size = xs.length := by rw [← StrsAre.len_eq txt, Array.length_toList]
      have go : Goes P w s.heap.objs.size (xs.take 0) ((s.heap.push (bareSet w)).push { cls := .type "list_iterator", data := .fields #[.ref l, .int 0 0] }) := by
        refine ⟨0, ?_, Once.nil⟩
        have g := (setG_fresh (knd := sk P w) (hp := s.heap)).keep (hp' := (s.heap.push (bareSet w)).push { cls := .type "list_iterator", data := .fields #[.ref l, .int 0 0] }) fun ob e => Heap.get?_push_of_some _ e
        exact g
      refine fill ((Walks.list free3 _ l ne items).toS) s.heap.objs.size nf xs ln few (fun i v hv => ?val) (items.size - 0) 0 _ (by omega) (Nat.zero_le _) ⟨⟨_, Heap.get?_push_size _ rfl, rfl, rfl⟩, src1.push _⟩ go ?end'
      case val =>
        have q : items.toList[i]? = some v := by rw [Array.getElem?_toList]; exact hv
        exact text_at txt q
      case end' =>
        rintro ⟨hp, gn, dr, tk, os⟩ mv g
        cases show gn = s.gens from mv.gens
        cases show dr = s.drawn from mv.drawn
        cases show os = s.os from mv.os
        refine wpAny_pure (wpAny_pure ⟨rfl, hp, tk, rfl, g, fun b ob e => ?_⟩)
        have lb := Heap.lt_size e
        refine mv.heap b ob (fun z => ?_) (Heap.get?_push_of_some _ (Heap.get?_push_of_some _ e))
        rcases List.mem_cons.mp z with z | z
        · exact absurd z (Nat.ne_of_lt lb)
        · have z := List.mem_singleton.mp z
          rw [Heap.size_push] at z; exact absurd z (Nat.ne_of_lt (Nat.lt_succ_of_lt lb))
    · match r₂, hr₂ with
      | .error _, hr => exact hr
      | .ok (.ret r), hr =>
        obtain ⟨rfl, hp, tk, rfl, g, kp⟩ := hr
        repeat (any_goals (first | assumption | wp_step))
        exact hQ _ _ g kp

theorem call_set_tup {l : Addr} {items : Array Value} {xs : List Str} {Q : Value → Shared → Prop} (free : A.handled = none) (src : s.heap.IsTuple l items) (txt : StrsAre items.toList xs) (few : xs.length + 1 < scanBound)
    (hQ : ∀ hp tk, Goes P w s.heap.objs.size xs hp → (∀ b ob, s.heap.get? b = some ob → hp.get? b = some ob) → Q (.ref s.heap.objs.size) { s with heap := hp, toks := tk }) : wpAny (model P w) A (call (.type "set") [.ref l]) Q E s := by
  obtain ⟨hd, tl, mro⟩ := F.called_set.mro; have mk := F.called_set.made; have sb := F.called_set.sub
  refine wpAny_call (codeAny_of_tree ?_)
  change wpAny _ _ (callAny (.type "set") _) _ _ _
  refine wpAny_pure ⟨Code.quiet_builtin _ (by decide +kernel), codeAny_builtin F.entry_type_call ?_⟩; rw [Around.under_plain (weight_type_call_type "set" [.ref l] []) rfl]
  have nt := F.called_set.notType; have cc := F.called_set.canCreate; have tc := F.typeCall_set_1 (.ref l)
  repeat (any_goals (first | assumption | wp_step))
  refine codeAny_mono (code_set_led1 (.ref l) (E := E) (Q₁ := fun r s₁ => r = .ref s.heap.objs.size ∧ s₁ = { s with heap := s.heap.push (bareSet w) }) ⟨rfl, rfl⟩) fun r s₁ hr => ?_
  match r, hr with
  | .error _, hr => exact hr
  | .ok (.ret r), hr =>
    obtain ⟨rfl, rfl⟩ := hr
    have atD : (s.heap.push (bareSet w)).get? s.heap.objs.size = some (bareSet w) := Heap.get?_push_size _ rfl
    have isD : Shared.TypeIs { s with heap := s.heap.push (bareSet w) } (.ref s.heap.objs.size) "set" := ⟨_, atD, rfl⟩
    have lk := F.called_set.init.lookup; have bd := F.called_set.init.bind (.ref s.heap.objs.size)
    repeat (any_goals (first | assumption | wp_step))
    refine codeAny_mono (codeAny_call_builtin (R := wants (fun r s₂ => r = .none ∧ ∃ hp tk, s₂ = { s with heap := hp, toks := tk } ∧ Goes P w s.heap.objs.size xs hp ∧ ∀ b ob, s.heap.get? b = some ob → hp.get? b = some ob) E) F.called_set.init.plain F.entry_set_init (check_set_init_1 isD ?_)) fun r₂ s₂ hr₂ => ?_
    · obtain ⟨ob, at0, cl, nl, da⟩ := src
      obtain ⟨ocl, odi, oda, osl⟩ := ob
      simp only at cl da; subst cl da
      have lt0 : l < s.heap.objs.size := Heap.lt_size at0
      have at1 : (s.heap.push (bareSet w)).get? l = some { cls := .type "tuple", dict := odi, data := .seq items nl, slots := osl } := Heap.get?_push_of_some _ at0
      have u1 := F.sub_tuple_set; have u2 := F.sub_tuple_frozenset; have u3 : (Value.type "tuple" == Value.type "dict") = false := by decide
      have src1 : (s.heap.push (bareSet w)).IsTuple l items := ⟨_, at1, rfl, nl, rfl⟩
      unfold Builtin.«set.__init__» noKeywords Builtin.Frozenset.updateFrom
      generalize hit : pyIter = IT
      wp_walk
      subst hit
      refine wpAny_pyIter_tuple src1 (wpAny_bind (wpAny_runValue ?_))
      have free3 : A.in1.in1.in1.handled = none := by simp [free]
      have ne : l ≠ (s.heap.push (bareSet w)).objs.size := by rw [Heap.size_push]; exact Nat.ne_of_lt (Nat.lt_succ_of_lt lt0)
      have nf : s.heap.objs.size ∉ [(s.heap.push (bareSet w)).objs.size, l] := by rw [Heap.size_push]; simp; exact Nat.ne_of_gt lt0
      have ln : items.size = xs.length := by rw [← StrsAre.len_eq txt, Array.length_toList]
      have go : Goes P w s.heap.objs.size (xs.take 0) ((s.heap.push (bareSet w)).push { cls := .type "tuple_iterator", data := .fields #[.ref l, .int 0 0] }) := by
        refine ⟨0, ?_, Once.nil⟩
        have g := (setG_fresh (knd := sk P w) (hp := s.heap)).keep (hp' := (s.heap.push (bareSet w)).push { cls := .type "tuple_iterator", data := .fields #[.ref l, .int 0 0] }) fun ob e => Heap.get?_push_of_some _ e
        exact g
      refine fill ((Walks.tuple free3 _ l ne items).toS) s.heap.objs.size nf xs ln few (fun i v hv => ?val) (items.size - 0) 0 _ (by omega) (Nat.zero_le _) ⟨⟨_, Heap.get?_push_size _ rfl, rfl, rfl⟩, src1.push _⟩ go ?end'
      case val =>
        have q : items.toList[i]? = some v := by rw [Array.getElem?_toList]; exact hv
        exact text_at txt q
      case end' =>
        rintro ⟨hp, gn, dr, tk, os⟩ mv g
        cases show gn = s.gens from mv.gens
        cases show dr = s.drawn from mv.drawn
        cases show os = s.os from mv.os
        refine wpAny_pure (wpAny_pure ⟨rfl, hp, tk, rfl, g, fun b ob e => ?_⟩)
        have lb := Heap.lt_size e
        refine mv.heap b ob (fun z => ?_) (Heap.get?_push_of_some _ (Heap.get?_push_of_some _ e))
        rcases List.mem_cons.mp z with z | z
        · exact absurd z (Nat.ne_of_lt lb)
        · have z := List.mem_singleton.mp z
          rw [Heap.size_push] at z; exact absurd z (Nat.ne_of_lt (Nat.lt_succ_of_lt lb))
    · match r₂, hr₂ with
      | .error _, hr => exact hr
      | .ok (.ret r), hr =>
        obtain ⟨rfl, hp, tk, rfl, g, kp⟩ := hr
        repeat (any_goals (first | assumption | wp_step))
        exact hQ _ _ g kp
end
/-- set(xs) -/
def rSetOfS (K : PySem.W.Frag) (P : Program) (w : World) : List V → Hp → VK → Prop := fun vs H Q => ∃ (l : Addr) (xs : List Str), vs = [V.ref l] ∧ (SqL K H l (xs.map V.str) ∨ SqT K H l (xs.map V.str)) ∧ xs.length ≤ 1000 ∧
  ∀ (D : Addr) (n : Nat), Once xs n → H D = none → Q (.ref D) (upd H D (SetS P w D (fun k => decide (k ∈ xs)) n))
section
variable {X : Cx}
theorem cr_setOfS (K : PySem.W.Frag) (P : Program) (w : World) (hc : X.calm = true) (hK : X.K = K := by rfl) (hP : X.prog = P := by rfl) (hw : X.w = w := by rfl) : CallR X (.type "set") (rSetOfS K P w) := by
  subst hK hP hw
  rintro pins s σ H vs us Q I r ⟨l, xs, rfl, src, few, q⟩
  rw [Vals.ref1 r]
  have few' : xs.length + 1 < scanBound := Nat.lt_of_le_of_lt (Nat.succ_le_succ few) (by decide)
  have fin : ∀ hp tk, Goes X.prog X.w s.heap.objs.size xs hp → (∀ b ob, s.heap.get? b = some ob → hp.get? b = some ob) → EP X pins σ Q (.ref s.heap.objs.size) { s with heap := hp, toks := tk } := fun hp tk ⟨n, g, o⟩ kp =>
    ⟨.ref _, upd H s.heap.objs.size (SetS X.prog X.w s.heap.objs.size (fun k => decide (k ∈ xs)) n), I.laid (t' := tk) kp (Nat.le_refl _) (setS_new g), rfl, q _ n o (I.hok.fresh (Nat.le_refl _))⟩
  rcases src with h | h
  · obtain ⟨its, rv, p, _⟩ := I.list h
    exact call_set_lst (I.ok.hd hc) p.isList (by simpa using strsAre_of rv) few' fin
  · obtain ⟨its, rv, p, _⟩ := I.tuple h
    exact call_set_tup (I.ok.hd hc) p (by simpa using strsAre_of rv) few' fin
end
end EV.Sets
end

section
set_option maxHeartbeats 4000000
/-! ### set comprehensions: one level's loop, whatever is done in its turns -/
namespace EV.Sets
open PySem PySem.Spec PyProof.Rows L2
theorem wipe_nil (σ : L2.St) : wipe σ [] = σ := rfl
abbrev TAct := L2.St → Hp → (Hp → Prop) → Prop
/-- what a turn does behind its tests -/
def AOk (B : Cx) (act : Sem PUnit) (us : List Nat) (ta : TAct) : Prop := ∀ (pins : List (Addr × Obj)) (s : Shared) (σ : L2.St) (H : Hp) (N : Hp → Prop), Inv B pins σ H s → ta σ H N →
  wpAny (model B.prog B.w) B.A act (fun _ s' => ∃ H', Inv B pins (wipe σ us) H' s' ∧ N H') (fun _ _ => False) s
/-- the turns of one level -/
def TurnsOk (J : It) (g : TG) (tt : TT) (ta : TAct) (vs : List Nat) (σ0 : L2.St) (W : Nat → Nat → Hp → Prop) (Qd : Hp → Prop) : Prop := ∀ i m H, W i m H →
  (J.stop i H ∧ Qd H) ∨ (J.go i H ∧ ∃ Nx : Hp → Prop, (∀ H', Nx H' → ∃ m', m' < m ∧ W (i + 1) m' H') ∧ ∀ x H', J.yld i H x H' → g x σ0 H' fun σ2 H2 => wipe σ2 vs = σ0 ∧ tt σ2 H2 fun b H3 => if b = true then ta σ2 H3 Nx else Nx H3)
section
variable {prog : Program} {w : World} {A : Around} {R : Result → Shared → Prop} {s : Shared} {env : Env}
theorem loop_of {elt tg iter : Expr} {gens : List Comprehension} {scope : Scope} {cpos : Pos} {ifs : List Expr} {lev : Nat} {it acc : Value} {act : Sem PUnit}
    (eq : compTurn (.SetComp elt gens scope cpos) lev it acc env = (do
      standAt iter.pos
      match ← pyNext it with
      | none => pure (.done .next)
      | some v => letOwnedTupleGo tg it v
                  assign tg env v
                  let mut ok := true
                  for c in ifs do
                    if ok then ok ← isTrue c env (eval c env)
                  if ok then act
                  again (.compLoop (.SetComp elt gens scope cpos) lev it acc env)))
    (I : Nat → Shared → Prop)
    (turn : ∀ n s, I n s → wpAny (model prog w) A (pyNext it) (fun r s1 => match r with
      | none => R (.ok .next) s1
      | some v => wpAny (model prog w) A (letOwnedTupleGo tg it v) (fun _ s2 => wpAny (model prog w) A (assign tg env v) (fun _ s3 =>
          wpAny (model prog w) A (forIn ifs true fun c r => if r = true then do let ok ← isTrue c env (eval c env); pure (ForInStep.yield ok) else pure (ForInStep.yield r)) (fun ok s4 =>
            if ok = true then wpAny (model prog w) A act (fun _ s5 => ∃ m, m < n ∧ I m s5) (notedBy (model prog w) A env fun e s' => R (.error e) s') s4
            else ∃ m, m < n ∧ I m s4) (notedBy (model prog w) A env fun e s' => R (.error e) s') s3) (notedBy (model prog w) A env fun e s' => R (.error e) s') s2) (notedBy (model prog w) A env fun e s' => R (.error e) s') s1) (notedBy (model prog w) A env fun e s' => R (.error e) s') s)
    (n : Nat) (h : I n s) : codeAny (model prog w) A (.compLoop (.SetComp elt gens scope cpos) lev it acc env) R s := by
  refine codeAny_loop rfl I (fun n s hI => ?_) n h
  change wpAny _ A ((compTurn (.SetComp elt gens scope cpos) lev it acc env).onRaise (fun x => do noteFrame x env; theTreesLotGoes x)) _ _ s
  refine wpAny_noted ?_
  rw [eq]
  refine wpAny_bind (wpAny_standAt (wpAny_bind (wpAny_mono (turn n s hI) (fun r s1 h1 => ?_) fun _ _ z => z)))
  match r, h1 with
  | none, h1 => exact wpAny_pure h1
  | some v, h1 =>
    refine wpAny_bind (wpAny_mono h1 (fun _ s2 h2 => wpAny_bind (wpAny_mono h2 (fun _ s3 h3 => wpAny_bind (wpAny_mono h3 (fun ok s4 h4 => ?_) fun _ _ z => z)) fun _ _ z => z)) fun _ _ z => z)
    match ok, h4 with
    | false, h4 => exact wpAny_pure ⟨rfl, h4⟩
    | true, h4 => exact wpAny_bind (wpAny_mono h4 (fun _ s5 h5 => wpAny_pure ⟨rfl, h5⟩) fun _ _ z => z)
end
section
variable {B : Cx}
/-- the whole loop of a level -/
theorem level {elt tg iter : Expr} {gens : List Comprehension} {scope : Scope} {cpos : Pos} {ifs : List Expr} {lev : Nat} {it : Addr} {acc : Value} {act : Sem PUnit} {g : TG} {tt : TT} {ta : TAct} {vs us : List Nat} {J : It} {fp : List Addr} {tn : Nat → Heap → Prop} {W : Nat → Nat → Hp → Prop} {Qd : Hp → Prop} {pins : List (Addr × Obj)} {σ0 : L2.St} {H : Hp} {s : Shared}
    (eq : compTurn (.SetComp elt gens scope cpos) lev (.ref it) acc B.env = (do
      standAt iter.pos
      match ← pyNext (.ref it) with
      | none => pure (.done .next)
      | some v => letOwnedTupleGo tg (.ref it) v
                  assign tg B.env v
                  let mut ok := true
                  for c in ifs do
                    if ok then ok ← isTrue c B.env (eval c B.env)
                  if ok then act
                  again (.compLoop (.SetComp elt gens scope cpos) lev (.ref it) acc B.env)))
    (hx : B.xe = fun _ _ => False) (hc : B.calm = true) (pg : PG B tg g) (pt : PTs B ifs tt) (ao : AOk B act us ta) (hu : ∀ i ∈ us, i ∈ vs) (T : Turn B.prog B.w B.K tg J fp it tn) (fs : ∀ (σ : L2.St) (H : Hp) (s : Shared), Inv B pins σ H s → (∀ b ∈ fp, H b = none) → ∀ b ∈ fp, FpOk B pins H b)
    (I0 : Inv B pins σ0 H s) (t0 : tn 0 s.heap) (n0 : ∀ b ∈ fp, H b = none) (hW : ∃ m, W 0 m H) (turns : TurnsOk J g tt ta vs σ0 W Qd) :
    codeAny (model B.prog B.w) B.A (.compLoop (.SetComp elt gens scope cpos) lev (.ref it) acc B.env) (fun r s' => r = .ok .next ∧ ∃ H', Inv B pins σ0 H' s' ∧ Qd H') s := by
  obtain ⟨m0, w0⟩ := hW
  refine loop_of eq (fun n s' => ∃ i H', Inv B pins σ0 H' s' ∧ tn i s'.heap ∧ (∀ b ∈ fp, H' b = none) ∧ W i n H') ?_ m0 ⟨0, H, I0, t0, n0, w0⟩
  rintro n s1 ⟨i, H1, I1, t1, n1, w1⟩
  rcases turns i n H1 w1 with ⟨stop, qd⟩ | ⟨go, Nx, hNx, step⟩
  · refine thnF (T.done B rfl rfl rfl hc i pins s1 σ0 H1 (fun _ _ => False) I1 (fs _ _ _ I1 n1) t1 stop) fun r s2 ⟨hr, I2⟩ => ?_
    subst hr
    exact ⟨rfl, H1, I2, qd⟩
  · refine thnF (T.item B rfl rfl rfl hc i pins s1 σ0 H1 (fun _ _ => False) I1 (fs _ _ _ I1 n1) t1 go) fun r s2 ⟨u, hr, h2⟩ => ?_
    subst hr
    refine thnF h2 fun _ s3 ⟨x, H3, I3, r3, y3, t3, n3⟩ => ?_
    have J3 := I3.pinned (fs _ _ _ I3 n3) (T.obj _ _ t3)
    have rg := pg.run _ s3 σ0 H3 x u _ J3 r3 (step x H3 y3)
    rw [hx] at rg
    refine thnF rg fun _ s4 ⟨σ4, H4, I4, e4, q4⟩ => ?_
    have rt := pt.run _ s4 σ4 H4 _ I4 q4
    rw [hx] at rt
    refine thnF rt fun b s5 ⟨H5, I5, q5⟩ => ?_
    have fin : ∀ {σ9 : L2.St} {s' : Shared} {H' : Hp}, Inv B (pins ++ pinsAt fp s3.heap) σ9 H' s' → σ0.length = σ9.length → (∀ (j : Nat) v, σ0[j]? = some (some v) → σ9[j]? = some (some v)) → Nx H' → ∃ m, m < n ∧ ∃ i H', Inv B pins σ0 H' s' ∧ tn i s'.heap ∧ (∀ b ∈ fp, H' b = none) ∧ W i m H' := by
      intro σ9 s' H' I' hl hk nx
      obtain ⟨m', lt, w'⟩ := hNx H' nx
      have pin : ∀ b ∈ fp, ∀ o, s3.heap.get? b = some o → s'.heap.get? b = some o ∧ H' b = none := fun b hb o e =>
        let z := I'.pin (b, o) (List.mem_append_right _ (List.mem_append_right _ (mem_pinsAt hb e))); ⟨z.1, z.2.1⟩
      exact ⟨m', lt, i + 1, H', I'.unpinned.weak hl hk, T.keep _ _ _ t3 fun b hb o e => (pin b hb o e).1, fun b hb => let ⟨o, e, _⟩ := T.obj _ _ t3 b hb; (pin b hb o e).2, w'⟩
    match b, q5 with
    | false, q5 => exact fin I5 (by rw [← e4, wipe_length]) (fun j v e => by rw [← e4] at e; exact (wipe_some e).1) q5
    | true, q5 =>
      refine thnF (ao _ s5 σ4 H5 Nx I5 q5) fun _ s6 ⟨H6, I6, nx⟩ => fin I6 (by rw [← e4, wipe_length, wipe_length]) (fun j v e => ?_) nx
      rw [← e4] at e
      obtain ⟨e1, e2⟩ := wipe_some e
      rw [wipe_out fun z => e2 (hu j z)]
      exact e1
end
end EV.Sets
end

section
set_option maxHeartbeats 4000000
/-! ### set comprehensions of one clause and of two -/
namespace EV.Sets
open PySem PySem.Spec PyProof.Rows L2
/-- how a set takes one more -/
structure Adder where
  new : Addr → HO
  rd : V → Hp → Addr → (Hp → Prop) → Prop
structure AdOk (P : Program) (w : World) (K : PySem.W.Frag) (A : Around) (ad : Adder) : Prop where
  fresh : ∀ (H : Hp) (hp : Heap), ObjOk P w H (hp.push (bareSet w)) hp.objs.size (ad.new hp.objs.size)
  adds : ∀ (B : Cx), B.prog = P → B.w = w → B.K = K → B.A = A → ∀ (pins : List (Addr × Obj)) (σ : L2.St) (H : Hp) (s : Shared) (D : Addr) (y : V) (u : Value) (N : Hp → Prop), Inv B pins σ H s → RelV y u → ad.rd y H D N →
    wpAny (model P w) A (call (.builtin "set.add") [.ref D, u]) (fun _ s' => ∃ H', Inv B pins σ H' s' ∧ N H') (fun _ _ => False) s
/-- texts -/
def adS (P : Program) (w : World) : Adder := ⟨fun D => SetS P w D (fun _ => false) 0, fun y H D N => ∃ (x : Str) (S : Str → Bool) (n : Nat), y = .str x ∧ H D = some (SetS P w D S n) ∧ n + 1 < scanBound ∧ N (upd H D (SetS P w D (fun j => S j || decide (j = x)) (if S x = true then n else n + 1)))⟩
theorem adS_ok (P : Program) (w : World) (K : PySem.W.Frag) (A : Around) : AdOk P w K A (adS P w) where
  fresh := fun H hp => setS_new setG_fresh
  adds := by
    rintro B rfl rfl rfl rfl pins σ H s D y u N I r ⟨x, S, n, rfl, h, room, q⟩
    obtain ⟨t, rfl⟩ := r
    exact addS_ok I h room fun s' I' => ⟨_, I', q⟩
section
variable {B : Cx} {ad : Adder}
theorem act_elt {elt : Expr} {te : TE} {D : Addr} (hx : B.xe = fun _ _ => False) (ok : AdOk B.prog B.w B.K B.A ad) (pe : PE B elt te) :
    AOk B (do let v ← eval elt B.env; standAt elt.pos; let _ ← call (.builtin "set.add") [.ref D, v]) [] (fun σ H N => te σ H fun y H1 => ad.rd y H1 D N) := by
  intro pins s σ H N I h
  have r := pe.run pins s σ H _ I h
  rw [hx] at r
  refine wpAny_bind (thnF r fun u s1 ⟨y, H1, I1, ry, q⟩ => wpAny_bind (wpAny_standAt (wpAny_bind (wpAny_mono (ok.adds B rfl rfl rfl rfl _ σ H1 _ D y u N (I1.kept fun _ _ e => e) ry q) (fun _ s2 h2 => wpAny_pure h2) fun _ _ z => z))))
theorem start1 {prog : Program} {w : World} {A : Around} {R : Result → Shared → Prop} {s : Shared} {elt t0 i0 t1 i1 : Expr} {ifs0 ifs1 : List Expr} {scope : Scope} {pos : Pos} {it acc : Value} {env : Env} (h0 : codeAny (model prog w) A (.compLoop (.SetComp elt [⟨t0, i0, ifs0, 0⟩, ⟨t1, i1, ifs1, 0⟩] scope pos) 1 it acc env) R s)
    (h : wpAny (model prog w) A (pyIter it) (fun j s' => codeAny (model prog w) A (.compLoop (.SetComp elt [⟨t0, i0, ifs0, 0⟩, ⟨t1, i1, ifs1, 0⟩] scope pos) 1 j acc env) R s') (notedBy (model prog w) A env fun x s' => R (.error x) s') s) :
    codeAny (model prog w) A (.compStart (.SetComp elt [⟨t0, i0, ifs0, 0⟩, ⟨t1, i1, ifs1, 0⟩] scope pos) 1 it acc env) R s := by
  refine codeAny_of_tree ?_
  change wpAny _ _ ((compStart (.SetComp elt [⟨t0, i0, ifs0, 0⟩, ⟨t1, i1, ifs1, 0⟩] scope pos) 1 it acc env).onRaise (fun x => do noteFrame x env; standAt theWindowsPlace)) _ _ s
  refine wpAny_notedAt ?_
  unfold compStart
  change wpAny _ _ (ask >>= fun x => _) _ _ s
  refine wpAny_bind (wpAny_askSetting (wpAny_ite ?_))
  split
  case isTrue => first | exact wpAny_bind (wpAny_pure (wpAny_pure ⟨rfl, h0⟩)) | exact wpAny_pure ⟨rfl, h0⟩
  case isFalse =>
    first
      | exact wpAny_bind (wpAny_rule (wpAny_bind (wpAny_standAt (wpAny_bind (wpAny_mono h (fun j s' h' => wpAny_pure ⟨rfl, h'⟩) fun _ _ x => x)))))
      | (refine wpAny_bind (wpAny_rule ?_); exact wpAny_bind (wpAny_standAt (wpAny_bind (wpAny_mono h (fun j s' h' => wpAny_pure ⟨rfl, h'⟩) fun _ _ x => x))))

/-- the second clause, as what a turn of the first one does -/
def tIn (rd : TAct) (wi1 : TI) (g1 : TG) (tt1 : TT) (us : List Nat) : TAct := fun σ H N => wi1 σ H fun J1 H1 => ∃ W1 : Nat → Nat → Hp → Prop, (∃ m, W1 0 m H1) ∧ TurnsOk J1 g1 tt1 rd us (wipe σ us) W1 N
theorem act_in {elt t0 i0 t1 i1 : Expr} {ifs0 ifs1 : List Expr} {scope : Scope} {pos : Pos} {te : TE} {D : Addr} {wi1 : TI} {g1 : TG} {tt1 : TT} {us : List Nat} (hx : B.xe = fun _ _ => False) (hc : B.calm = true) (ok : AdOk B.prog B.w B.K B.A ad) (pe : PE B elt te) (pi : PI B t1 i1 wi1) (pg : PG B t1 g1) (pt : PTs B ifs1 tt1)
    (hs : ∀ x, foldedSetIterable i1 B.env x = pure x) :
    AOk B (do let x ← eval i1 B.env; standAt i1.pos; let x ← foldedSetIterable i1 B.env x; let _ ← runOwn (.compStart (.SetComp elt [⟨t0, i0, ifs0, 0⟩, ⟨t1, i1, ifs1, 0⟩] scope pos) 1 (← holding [x] (pyIter x)) (.ref D) B.env) B.env) us
      (tIn (fun σ H N => te σ H fun y H1 => ad.rd y H1 D N) wi1 g1 tt1 us) := by
  intro pins s σ H N I h
  have r := pi.run pins s σ H _ I h
  rw [hx] at r
  refine wpAny_bind (thnF r fun xv s1 h1 => wpAny_bind (wpAny_standAt (wpAny_bind (wpAny_of_eq (hs xv) (wpAny_bind (wpAny_holding ?_))))))
  refine thnF h1 fun itv s2 h2 => ?_
  obtain ⟨it, fp, tn, J, H2, rfl, I2, T, t2, f2, W1, hW, turns⟩ := h2
  refine wpAny_bind (wpAny_runOwn ?_)
  rw [Around.mark_none]
  have fs : ∀ (σ' : L2.St) (H' : Hp) (s' : Shared), Inv B pins σ' H' s' → (∀ b ∈ fp, H' b = none) → ∀ b ∈ fp, FpOk B pins H' b := fun σ' H' s' _ hn b hb => ⟨hn b hb, (f2 b hb).2⟩
  have loop := level (elt := elt) (gens := [⟨t0, i0, ifs0, 0⟩, ⟨t1, i1, ifs1, 0⟩]) (scope := scope) (cpos := pos) (lev := 1) (acc := .ref D) (by rfl) hx hc pg pt (act_elt hx ok pe) (fun i hi => by cases hi) T fs (I2.weak (wipe_length _ _) (fun j v e => (wipe_some e).1)) t2 (fun b hb => (f2 b hb).1) hW turns
  refine codeAny_mono (start1 loop (T.self B.A 0 _ _ _ t2 loop)) fun r s3 hr => ?_
  obtain ⟨rfl, H3, I3, q⟩ := hr
  exact wpAny_pure ⟨H3, I3, q⟩
end
end EV.Sets
end

section
set_option maxHeartbeats 4000000
/-! ### set comprehensions as values -/
namespace EV.Sets
open PySem PySem.Spec PyProof.Rows L2
def tSc (ad : Adder) (wi : TI) (g : TG) (tt : TT) (ta : Addr → TAct) (vs : List Nat) : TE := fun σ H Q => wi σ H fun J H1 => ∀ D, H1 D = none → ∃ W : Nat → Nat → Hp → Prop, (∃ m, W 0 m (upd H1 D (ad.new D))) ∧ TurnsOk J g tt (ta D) vs (wipe σ vs) W fun H' => Q (.ref D) H'
section
variable {X : Cx} {ad : Adder}
theorem outer {elt tg iter : Expr} {ifs : List Expr} {rest : List Comprehension} {scope : Scope} {own : List (Str × Nat)} {pos : Pos} {wi : TI} {g : TG} {tt : TT} {ta : Addr → TAct} {us : List Nat} {actOf : Env → Value → Sem PUnit}
    (eq : ∀ (env : Env) (it acc : Value), compTurn (.SetComp elt (⟨tg, iter, ifs, 0⟩ :: rest) scope pos) 0 it acc env = (do
      standAt iter.pos
      match ← pyNext it with
      | none => pure (.done .next)
      | some v => letOwnedTupleGo tg it v
                  assign tg env v
                  let mut ok := true
                  for c in ifs do
                    if ok then ok ← isTrue c env (eval c env)
                  if ok then actOf env acc
                  again (.compLoop (.SetComp elt (⟨tg, iter, ifs, 0⟩ :: rest) scope pos) 0 it acc env)))
    (ev : eval (.SetComp elt (⟨tg, iter, ifs, 0⟩ :: rest) scope pos) X.env = comprehension (.SetComp elt (⟨tg, iter, ifs, 0⟩ :: rest) scope pos) scope X.env (firstIterPos (⟨tg, iter, ifs, 0⟩ :: rest) pos) (newSet (.type "set")) false (eval iter X.env))
    (hc : X.calm = true) (hN : X.N.Nodup) (hi : PI X tg iter wi) (ok : BlkOk X.N X.env.scope scope own) (hu : ∀ i ∈ us, i ∈ own.map (·.2)) (ado : AdOk X.prog X.w X.K X.A ad)
    (hg : ∀ (s : Shared) (H : Hp) (C : Addr) (cl : List (Str × Addr)) (fp : List Addr), PG (X.blk s H scope (compEnvC scope cl C X.env) fp) tg g) (ht : ∀ (s : Shared) (H : Hp) (C : Addr) (cl : List (Str × Addr)) (fp : List Addr), PTs (X.blk s H scope (compEnvC scope cl C X.env) fp) ifs tt)
    (ha : ∀ (s : Shared) (H : Hp) (C : Addr) (cl : List (Str × Addr)) (fp : List Addr) (D : Addr), AOk (X.blk s H scope (compEnvC scope cl C X.env) fp) (actOf (compEnvC scope cl C X.env) (.ref D)) us (ta D))
    (hs : ∀ x, foldedSetIterable iter X.env x = pure x) : PE X (.SetComp elt (⟨tg, iter, ifs, 0⟩ :: rest) scope pos) (tSc ad wi g tt ta (own.map (·.2))) := by
  refine ⟨fun pins s σ H Q I h => ?_⟩
  rw [ev]
  have cells : ∀ y ∈ scope.names, y.2 = .free → ∃ c, X.env.cells.lookup y.1 = some c := fun y hy e => (ok.free y hy e).elim (fun k => I.ok.has _ (.inl k)) fun k => I.ok.has _ (.inr k)
  refine wpAny_comprehension_free (use := none) rfl hs (closure_ok cells) ok.kind (fun y hy e => by rw [ok.uniq y hy, e]) (thn (hi.run pins s σ H _ I h) fun xv s1 hx => thn hx fun itv s2 h2 => ?_)
  obtain ⟨it, fp, tn, J, H2, rfl, I2, T, t2, f2, q⟩ := h2
  refine PpSet.newSet_ok (newEnv_comp ?_)
  obtain ⟨W, ⟨m0, w0⟩, turns⟩ := q s2.heap.objs.size (I2.hok.fresh (Nat.le_refl _))
  have J3 : Inv X pins σ (upd H2 s2.heap.objs.size (ad.new s2.heap.objs.size)) { s2 with heap := s2.heap.push (bareSet X.w) } := I2.laid (t' := s2.toks) (fun b o e => Heap.get?_push_of_some _ e) (Nat.le_refl _) (ado.fresh _ _)
  have keep3 : ∀ b o, s2.heap.get? b = some o → (s2.heap.push (bareSet X.w)).get? b = some o := fun b o e => Heap.get?_push_of_some _ e
  generalize hD : s2.heap.objs.size = D at w0 turns J3 ⊢
  generalize hs3 : ({ s2 with heap := s2.heap.push (bareSet X.w) } : Shared) = s3 at J3
  have old : ∀ b ∈ fp, b < s2.heap.objs.size := fun b hb => let ⟨o, e, _⟩ := T.obj _ _ t2 b hb; Heap.lt_size e
  have more : s2.heap.objs.size < s3.heap.objs.size := by rw [← hs3]; show _ < (s2.heap.push _).objs.size; rw [Heap.size_push]; exact Nat.lt_succ_self _
  have f3 : ∀ b ∈ fp, FpOk X pins (upd H2 D (ad.new D)) b ∧ b < s3.heap.objs.size := fun b hb =>
    ⟨⟨by rw [upd_ne (by rw [← hD]; exact Nat.ne_of_lt (old b hb))]; exact (f2 b hb).1, (f2 b hb).2⟩, Nat.lt_trans (old b hb) more⟩
  have t3 : tn 0 s3.heap := T.keep _ _ _ t2 fun b _ o e => by rw [← hs3]; exact keep3 b o e
  have J4 := block_start J3 ok hN f3
  have pg := hg s3 (upd H2 D (ad.new D)) s3.heap.objs.size (cellsFrom (s3.heap.objs.size + 1) scope.names (cloFrom X.env.cells scope.names [])) fp
  have pt := ht s3 (upd H2 D (ad.new D)) s3.heap.objs.size (cellsFrom (s3.heap.objs.size + 1) scope.names (cloFrom X.env.cells scope.names [])) fp
  have ao := ha s3 (upd H2 D (ad.new D)) s3.heap.objs.size (cellsFrom (s3.heap.objs.size + 1) scope.names (cloFrom X.env.cells scope.names [])) fp D
  have goal : ∀ s4 : Shared, s4 = { s3 with heap := pushCells (s3.heap.push { cls := .type "dict", data := .dict #[] }) scope.names } →
      codeAny (model X.prog X.w) X.A (.compStart (.SetComp elt (⟨tg, iter, ifs, 0⟩ :: rest) scope pos) 0 (.ref it) (.ref D) (compEnvC scope (cellsFrom (s3.heap.objs.size + 1) scope.names (cloFrom X.env.cells scope.names [])) s3.heap.objs.size X.env)) (compPost (model X.prog X.w) X.A X.xe none (EP X pins σ Q) (.ref D) s3.heap.objs.size) s4 := by
    intro s4 hs4
    generalize hce : compEnvC scope (cellsFrom (s3.heap.objs.size + 1) scope.names (cloFrom X.env.cells scope.names [])) s3.heap.objs.size X.env = ce at J4 pg pt ao ⊢
    have cL : ce.locals = s3.heap.objs.size := by rw [← hce]; rfl
    have nfp : ∀ b ∈ fp, (upd H2 D (ad.new D)) b = none := fun b hb => (f3 b hb).1.1
    generalize hH3 : upd H2 D (ad.new D) = H3 at J3 J4 pg pt ao w0 nfp f3
    rw [← hs4] at J4
    have t4 : tn 0 s4.heap := T.keep _ _ _ t3 fun b _ o e => by rw [hs4]; exact pushCells_keeps _ _ _ _ (Heap.get?_push_of_some _ e)
    have fs : ∀ (σ' : L2.St) (H' : Hp) (s' : Shared), Inv (X.blk s3 H3 scope ce fp) [] σ' H' s' → (∀ b ∈ fp, H' b = none) → ∀ b ∈ fp, FpOk (X.blk s3 H3 scope ce fp) [] H' b := fun σ' H' s' I' hn b hb =>
      ⟨hn b hb, (I'.ok.exf b hb).1, I'.ok.exfs b hb, .inl hb, fun x c e => (I'.ok.exf b hb).2 x c e, fun p hp => absurd (show p ∈ ([] : List (Addr × Obj)) ++ [] from hp) (by simp)⟩
    have loop := level (B := X.blk s3 H3 scope ce fp) (elt := elt) (gens := ⟨tg, iter, ifs, 0⟩ :: rest) (scope := scope) (cpos := pos) (lev := 0) (acc := .ref D) (eq ce (.ref it) (.ref D)) rfl hc pg pt ao hu T fs J4 t4 nfp ⟨m0, w0⟩ turns
    have loop2 : codeAny (model X.prog X.w) X.A (.compLoop (.SetComp elt (⟨tg, iter, ifs, 0⟩ :: rest) scope pos) 0 (.ref it) (.ref D) ce) (compPost (model X.prog X.w) X.A X.xe none (EP X pins σ Q) (.ref D) s3.heap.objs.size) s4 := by
      refine codeAny_mono loop fun r s5 hr => ?_
      obtain ⟨rfl, H5, I5, q5⟩ := hr
      have I7 : Inv X pins σ H5 s5 := J3.call' (ch := fp) I5.os I5.base I5.hok I5.bare fun b hb => ⟨(f3 b hb).1.2.2.2.1, (f3 b hb).1.2.1, (f3 b hb).1.2.2.2.2.1, (f3 b hb).1.2.2.2.2.2⟩
      have nC : H5 s3.heap.objs.size = none := by rw [← cL]; exact I5.free
      obtain ⟨m, hn, _⟩ := I5.loc
      refine ⟨m, by rw [← cL]; exact hn, fun h'' sb => ?_⟩
      obtain ⟨f0, f1, f2', f3', f4, f5⟩ := J3.fpOk (H' := H5) (Nat.le_refl _) nC
      exact ⟨.ref D, H5, I7.turned (t' := s5.toks) (fun b o hb e => (sb.2 b hb).trans e) f0 f1 f3' f4 f5, rfl, q5⟩
    exact PpSet.codeAny_compStart_set loop2 (T.self X.A 0 _ _ _ t4 loop2)
  subst hD
  subst hs3
  exact goal _ rfl
/-- {elt for tg in iter if ..} -/
theorem pe_sc1 {elt tg iter : Expr} {ifs : List Expr} {scope : Scope} {own : List (Str × Nat)} {pos : Pos} {wi : TI} {g : TG} {tt : TT} {te : TE} (ado : AdOk X.prog X.w X.K X.A ad) (hc : X.calm = true) (hN : X.N.Nodup) (hi : PI X tg iter wi) (ok : BlkOk X.N X.env.scope scope own)
    (hg : ∀ (s : Shared) (H : Hp) (C : Addr) (cl : List (Str × Addr)) (fp : List Addr), PG (X.blk s H scope (compEnvC scope cl C X.env) fp) tg g) (ht : ∀ (s : Shared) (H : Hp) (C : Addr) (cl : List (Str × Addr)) (fp : List Addr), PTs (X.blk s H scope (compEnvC scope cl C X.env) fp) ifs tt)
    (he : ∀ (s : Shared) (H : Hp) (C : Addr) (cl : List (Str × Addr)) (fp : List Addr), PE (X.blk s H scope (compEnvC scope cl C X.env) fp) elt te) (hs : ∀ x, foldedSetIterable iter X.env x = pure x := by intro _; rfl) :
    PE X (.SetComp elt [⟨tg, iter, ifs, 0⟩] scope pos) (tSc ad wi g tt (fun D σ H N => te σ H fun y H1 => ad.rd y H1 D N) (own.map (·.2))) :=
  outer (us := []) (actOf := fun env acc => do let v ← eval elt env; standAt elt.pos; let _ ← call (.builtin "set.add") [acc, v]) (fun _ _ _ => by rfl) (by rfl) hc hN hi ok (fun i h => by cases h) ado hg ht
    (fun s H C cl fp D => act_elt (B := X.blk s H scope (compEnvC scope cl C X.env) fp) rfl ado (he s H C cl fp)) hs
theorem turn2_set (elt tg iter tg1 iter1 : Expr) (ifs ifs1 : List Expr) (scope : Scope) (pos : Pos) (env : Env) (it acc : Value) : compTurn (.SetComp elt [⟨tg, iter, ifs, 0⟩, ⟨tg1, iter1, ifs1, 0⟩] scope pos) 0 it acc env = (do
      standAt iter.pos
      match ← pyNext it with
      | none => pure (.done .next)
      | some v => letOwnedTupleGo tg it v
                  assign tg env v
                  let mut ok := true
                  for c in ifs do
                    if ok then ok ← isTrue c env (eval c env)
                  if ok then (do let x ← eval iter1 env; standAt iter1.pos; let x ← foldedSetIterable iter1 env x; let _ ← runOwn (.compStart (.SetComp elt [⟨tg, iter, ifs, 0⟩, ⟨tg1, iter1, ifs1, 0⟩] scope pos) 1 (← holding [x] (pyIter x)) acc env) env)
                  again (.compLoop (.SetComp elt [⟨tg, iter, ifs, 0⟩, ⟨tg1, iter1, ifs1, 0⟩] scope pos) 0 it acc env)) := by
  have flat : compTurn (.SetComp elt [⟨tg, iter, ifs, 0⟩, ⟨tg1, iter1, ifs1, 0⟩] scope pos) 0 it acc env = (do
      standAt iter.pos
      match ← pyNext it with
      | none => pure (.done .next)
      | some v => letOwnedTupleGo tg it v
                  assign tg env v
                  let mut ok := true
                  for c in ifs do
                    if ok then ok ← isTrue c env (eval c env)
                  if ok then
                    let x ← eval iter1 env
                    standAt iter1.pos
                    let x ← foldedSetIterable iter1 env x
                    let _ ← runOwn (.compStart (.SetComp elt [⟨tg, iter, ifs, 0⟩, ⟨tg1, iter1, ifs1, 0⟩] scope pos) 1 (← holding [x] (pyIter x)) acc env) env
                  again (.compLoop (.SetComp elt [⟨tg, iter, ifs, 0⟩, ⟨tg1, iter1, ifs1, 0⟩] scope pos) 0 it acc env)) := by rfl
  rw [flat]
  simp only [bind_assoc, pure_bind]
/-- .. of two clauses -/
theorem pe_sc2 {elt tg iter tg1 iter1 : Expr} {ifs ifs1 : List Expr} {scope : Scope} {own : List (Str × Nat)} {us : List Nat} {pos : Pos} {wi wi1 : TI} {g g1 : TG} {tt tt1 : TT} {te : TE} (ado : AdOk X.prog X.w X.K X.A ad) (hc : X.calm = true) (hN : X.N.Nodup) (hi : PI X tg iter wi) (ok : BlkOk X.N X.env.scope scope own) (hu : ∀ i ∈ us, i ∈ own.map (·.2))
    (hg : ∀ (s : Shared) (H : Hp) (C : Addr) (cl : List (Str × Addr)) (fp : List Addr), PG (X.blk s H scope (compEnvC scope cl C X.env) fp) tg g) (ht : ∀ (s : Shared) (H : Hp) (C : Addr) (cl : List (Str × Addr)) (fp : List Addr), PTs (X.blk s H scope (compEnvC scope cl C X.env) fp) ifs tt)
    (hi1 : ∀ (s : Shared) (H : Hp) (C : Addr) (cl : List (Str × Addr)) (fp : List Addr), PI (X.blk s H scope (compEnvC scope cl C X.env) fp) tg1 iter1 wi1) (hg1 : ∀ (s : Shared) (H : Hp) (C : Addr) (cl : List (Str × Addr)) (fp : List Addr), PG (X.blk s H scope (compEnvC scope cl C X.env) fp) tg1 g1)
    (ht1 : ∀ (s : Shared) (H : Hp) (C : Addr) (cl : List (Str × Addr)) (fp : List Addr), PTs (X.blk s H scope (compEnvC scope cl C X.env) fp) ifs1 tt1) (he : ∀ (s : Shared) (H : Hp) (C : Addr) (cl : List (Str × Addr)) (fp : List Addr), PE (X.blk s H scope (compEnvC scope cl C X.env) fp) elt te)
    (hs : ∀ x, foldedSetIterable iter X.env x = pure x := by intro _; rfl) (hs1 : ∀ env x, foldedSetIterable iter1 env x = pure x := by intro _ _; rfl) :
    PE X (.SetComp elt [⟨tg, iter, ifs, 0⟩, ⟨tg1, iter1, ifs1, 0⟩] scope pos) (tSc ad wi g tt (fun D => tIn (fun σ H N => te σ H fun y H1 => ad.rd y H1 D N) wi1 g1 tt1 us) (own.map (·.2))) :=
  outer (us := us) (actOf := fun env acc => do let x ← eval iter1 env; standAt iter1.pos; let x ← foldedSetIterable iter1 env x; let _ ← runOwn (.compStart (.SetComp elt [⟨tg, iter, ifs, 0⟩, ⟨tg1, iter1, ifs1, 0⟩] scope pos) 1 (← holding [x] (pyIter x)) acc env) env) (fun env it acc => turn2_set elt tg iter tg1 iter1 ifs ifs1 scope pos env it acc) (by rfl) hc hN hi ok hu ado hg ht
    (fun s H C cl fp D => act_in (B := X.blk s H scope (compEnvC scope cl C X.env) fp) rfl hc ado (he s H C cl fp) (hi1 s H C cl fp) (hg1 s H C cl fp) (ht1 s H C cl fp) (hs1 _)) hs
end
end EV.Sets
end

section
set_option maxHeartbeats 4000000
/-! ### sets of tuples of things of a plain kind -/
namespace EV.Sets
open PySem PySem.Spec PyProof.Rows L2
section
variable {P : Program} {w : World} {κ : Type} [DecidableEq κ] {knd : KeyKind P w κ}
abbrev Th (knd : KeyKind P w κ) (k : List κ) : Int := tupleKeyHash knd k
abbrev Tk (knd : KeyKind P w κ) (hp : Heap) (k : List κ) (b : Addr) : Prop := IsTupleKey knd hp k b
/-- asked what it is, a thing of this kind shows nothing -/
structure Quiet (knd : KeyKind P w κ) : Prop where
  cls : ∀ (k : κ) (v : Value), knd.is k v = true → ∀ n, ofAClassStatement n v = pure false
  byv : ∀ (k : κ) (v : Value), knd.is k v = true → ∀ n, ∃ b, hashByValue n v = pure b
theorem quietS : Quiet (PySem.strKind P w) where
  cls := fun k v h n => by obtain ⟨t, rfl⟩ := Value.isStrOf_shape h; cases n <;> rfl
  byv := fun k v h n => by obtain ⟨t, rfl⟩ := Value.isStrOf_shape h; exact ⟨false, by rw [hashByValue_scannable n rfl]; rfl⟩
theorem each {k : List κ} {vs : List Value} (h : ItemsAre knd k vs) : ∀ v ∈ vs, ∃ j, knd.is j v = true := by
  induction h with
  | nil => intro v hv; cases hv
  | @cons k0 v0 ks vs h1 _ ih => exact fun v hv => (List.mem_cons.mp hv).elim (fun e => ⟨k0, by rw [e]; exact h1⟩) (ih v)
section
variable {A : Around} {E : Value → Shared → Prop} {s : Shared}
theorem cls_tup (qt : Quiet knd) {k : List κ} {b : Addr} {Q : Bool → Shared → Prop} (hk : Tk knd s.heap k b) (h : Q false s) : wpAny (model P w) A (ofAClassStatement 8 (.ref b)) Q E s := by
  have isT := hk.typeIs
  obtain ⟨ob, vs, n, e, _, d, its⟩ := hk
  unfold ofAClassStatement
  refine wpAny_bind (wpAny_typeOf isT ?_)
  dsimp only
  simp only [show (("tuple" : String) == "tuple") = true by decide, if_true, Bool.not_true, Bool.false_eq_true, if_false]
  try refine wpAny_bind (wpAny_pure ?_)
  try simp only [Bool.not_true, Bool.false_eq_true, if_false]
  change wpAny _ _ (seqItems? (.ref b) >>= fun x => _) _ _ s
  refine wpAny_bind (wpAny_seqItems e d ?_); dsimp only; refine wpAny_bind ?_
  change wpAny _ _ (forIn vs _ _) _ _ s; rw [← Array.forIn_toList]
  refine wpAny_forIn_list _ (fun more r s1 => r.1 = none ∧ s1 = s ∧ ∀ v ∈ more, ∃ j, knd.is j v = true) _ ?_ ?_ _ _ ⟨rfl, rfl, each its⟩
  · rintro v more r s1 ⟨hr, rfl, all⟩
    obtain ⟨j, hj⟩ := all v List.mem_cons_self
    rw [qt.cls j v hj]
    refine wpAny_bind (wpAny_pure ?_); simp only [Bool.false_eq_true, if_false]
    exact wpAny_pure ⟨rfl, rfl, fun u hu => all u (List.mem_cons_of_mem _ hu)⟩
  · rintro ⟨r1, r2⟩ s1 ⟨hr, rfl, _⟩
    cases show r1 = none from hr
    exact wpAny_pure h
theorem byv_tup (qt : Quiet knd) {k : List κ} {b : Addr} {Q : Bool → Shared → Prop} (hk : Tk knd s.heap k b) (h : ∀ r, Q r s) : wpAny (model P w) A (hashByValue 8 (.ref b)) Q E s := by
  have isT := hk.typeIs
  obtain ⟨ob, vs, n, e, _, d, its⟩ := hk
  unfold hashByValue
  refine wpAny_bind (wpAny_specialOf isT F.slot_tuple_hash.lookup ?_)
  change wpAny _ _ (seqItems? (.ref b) >>= fun x => _) _ _ s
  refine wpAny_bind (wpAny_seqItems e d (wpAny_bind ?_))
  change wpAny _ _ (forIn vs _ _) _ _ s; rw [← Array.forIn_toList]
  refine wpAny_forIn_list _ (fun more r s1 => r.1 = none ∧ s1 = s ∧ ∀ v ∈ more, ∃ j, knd.is j v = true) _ ?_ ?_ _ _ ⟨rfl, rfl, each its⟩
  · rintro v more r s1 ⟨hr, rfl, all⟩
    obtain ⟨j, hj⟩ := all v List.mem_cons_self
    obtain ⟨bv, hb⟩ := qt.byv j v hj 7
    rw [hb]
    refine wpAny_bind (wpAny_pure ?_)
    cases bv with
    | true =>
      simp only [Bool.not_true, Bool.false_eq_true, if_false]
      exact wpAny_pure ⟨rfl, rfl, fun u hu => all u (List.mem_cons_of_mem _ hu)⟩
    | false =>
      simp only [Bool.not_false, if_true]
      exact wpAny_pure (wpAny_pure (h false))
  · rintro ⟨r1, r2⟩ s1 ⟨hr, rfl, _⟩
    cases show r1 = none from hr
    exact wpAny_pure (h true)
theorem unseen (qt : Quiet knd) {k : List κ} {b : Addr} {Q : Bool → Shared → Prop} (hk : Tk knd s.heap k b) {ys : List Value} (hy : ∀ y ∈ ys, ∃ j c, y = Value.ref c ∧ Tk knd s.heap j c) (h : Q false s) : wpAny (model P w) A (searchCouldBeSeen (.ref b) ys) Q E s := by
  unfold searchCouldBeSeen
  refine wpAny_bind (wpAny_forIn_list _ (fun more r s1 => r.1 = none ∧ s1 = s ∧ ∀ y ∈ more, ∃ j c, y = Value.ref c ∧ Tk knd s.heap j c) _ ?_ ?_ _ _ ⟨rfl, rfl, hy⟩)
  · rintro v more r s1 ⟨hr, rfl, all⟩
    obtain ⟨j, c, rfl, hc⟩ := all v List.mem_cons_self
    have next : ∀ y ∈ more, ∃ j c, y = Value.ref c ∧ Tk knd s1.heap j c := fun u hu => all u (List.mem_cons_of_mem _ hu)
    dsimp only
    by_cases hv : (b == c || (carriedByValue (.ref b) && carriedByValue (.ref c))) = true
    · exact wp_if_pos hv (wpAny_pure ⟨rfl, rfl, next⟩)
    · refine wp_if_neg hv (wpAny_bind (wpAny_eqIsQuiet_tuple hk ?_)); simp only [Bool.not_true, Bool.false_eq_true, if_false]
      refine wpAny_bind (wpAny_eqIsQuiet_tuple hc ?_); simp only [Bool.not_true, Bool.false_eq_true, if_false]
      refine wpAny_bind (cls_tup qt hk ?_); simp only [Bool.false_eq_true, if_false]
      refine wpAny_bind (cls_tup qt hc ?_); simp only [Bool.false_eq_true, if_false]
      exact wpAny_pure ⟨rfl, rfl, next⟩
  · rintro ⟨r1, r2⟩ s1 ⟨hr, rfl, _⟩
    cases show r1 = none from hr
    exact wpAny_pure h
end
/-- the rows of a set's table -/
def rws (knd : KeyKind P w κ) (L : List (Addr × List κ)) : List (Int × Value) := L.map fun q => (Th knd q.2, Value.ref q.1)
theorem rws_len (L : List (Addr × List κ)) : (rws knd L).length = L.length := List.length_map _
structure SetP (knd : KeyKind P w κ) (hp : Heap) (D : Addr) (L : List (Addr × List κ)) (el : Array (Int × Value)) (ep : Nat) (tb : SetTable) : Prop where
  at' : ∃ ob, hp.get? D = some ob ∧ ob.ExactSet ∧ ob.data = .set el ep tb
  rows : el.toList = rws knd L
  tab : TabOk tb (L.map fun q => Th knd q.2)
  nd : (L.map (·.2)).Nodup
  tup : ∀ q ∈ L, Tk knd hp q.2 q.1
  led : w.params.followText "set-order" = true ∨ tb.led = true
  room : L.length * 5 < tb.mask * 3
  few : L.length < 64
section
variable {hp : Heap} {D : Addr} {L : List (Addr × List κ)} {el : Array (Int × Value)} {ep : Nat} {tb : SetTable}
theorem SetP.size (R : SetP knd hp D L el ep tb) : el.size = L.length := by rw [← Array.length_toList, R.rows, rws_len]
theorem SetP.plc (R : SetP knd hp D L el ep tb) : tb.place.size = L.length := by have := R.tab.sz; rwa [List.length_map] at this
theorem SetP.fits (R : SetP knd hp D L el ep tb) : tb.fits el.size = true := by
  have h1 := R.plc; have h2 := R.size; have h3 := R.room
  unfold SetTable.fits SetTable.fill
  rw [R.tab.dm, Bool.and_eq_true, beq_iff_eq, decide_eq_true_eq]
  exact ⟨by omega, by show tb.place.size + 0 ≤ tb.mask; omega⟩
theorem SetP.row (R : SetP knd hp D L el ep tb) {i : Nat} {q : Addr × List κ} (h : L[i]? = some q) : el[i]? = some (Th knd q.2, Value.ref q.1) := by
  rw [← Array.getElem?_toList, R.rows, rws, List.getElem?_map, h]; rfl
theorem SetP.keep {hp' : Heap} (R : SetP knd hp D L el ep tb) (k : ∀ b ob, hp.get? b = some ob → hp'.get? b = some ob) : SetP knd hp' D L el ep tb :=
  ⟨let ⟨ob, e, r⟩ := R.at'; ⟨ob, k _ ob e, r⟩, R.rows, R.tab, R.nd, fun q hq => let ⟨ob, vs, n, e, r⟩ := R.tup q hq; ⟨ob, vs, n, k _ ob e, r⟩, R.led, R.room, R.few⟩
end
end
end EV.Sets
end

section
set_option maxHeartbeats 4000000
/-! ### sets of tuples: the search -/
namespace EV.Sets
open PySem PySem.Spec PyProof.Rows L2
section
variable {P : Program} {w : World} {κ : Type} [DecidableEq κ] {knd : KeyKind P w κ} {A : Around} {E : Value → Shared → Prop} {s : Shared} {D : Addr} {L : List (Addr × List κ)} {el : Array (Int × Value)} {ep : Nat} {tb : SetTable}
/-- the c-th probe for a hash -/
abbrev prb (tb : SetTable) (h : Int) (c : Nat) : SetTable.Probe := nth tb.mask (runAt tb.mask (SetTable.bits h % (tb.mask + 1)) (SetTable.bits h)) c
theorem prb_clean (tb : SetTable) (h : Int) (c : Nat) : (prb tb h c).dummy = none := by
  have all : ∀ (n : Nat) (p : SetTable.Probe), p.dummy = none → (nth tb.mask p n).dummy = none := by
    intro n
    induction n with
    | zero => exact fun p z => z
    | succ n ih => exact fun p z => ih (adv tb.mask p) (by unfold adv; split <;> exact z)
  exact all c _ rfl
theorem prb_add (tb : SetTable) (h : Int) (c q : Nat) : nth tb.mask (prb tb h c) q = prb tb h (c + q) := (nth_add tb.mask c _ q).symm
abbrev hsOf (el : Array (Int × Value)) : Nat → Int := fun i => (el[i]?.map (·.1)).getD 0
theorem not_gave (R : SetP knd s.heap D L el ep tb) : ¬ tb.gaveWay = true := by
  unfold SetTable.gaveWay
  rw [mask_odd R.tab.mok]; decide
/-- a candidate of the search that isn't it is passed; it itself ends it -/
theorem seek (qt : Quiet knd) (R : SetP knd s.heap D L el ep tb) {x : Addr} {k : List κ} (hx : Tk knd s.heap k x) (hu : A.units < cLine) {Z : Nat} (Zf : Z < 10 * SetTable.turns tb.mask) (Zo : way tb.mask (Th knd k) Z ∉ tb.place.toList) (Zb : ∀ c, c < Z → way tb.mask (Th knd k) c ∈ tb.place.toList)
    {Q : SetFound → Shared → Prop} (isin : k ∈ L.map (·.2) → Q (.there none) s) (isout : k ∉ L.map (·.2) → Q (.free (way tb.mask (Th knd k) Z) false) s) :
    ∀ (f c : Nat) (stand : Option SetTable.Probe), stand.getD (tb.probeStart (Th knd k)) = prb tb (Th knd k) c → c ≤ Z → Z - c < f →
      (∀ (i : Nat) q, L[i]? = some q → q.2 = k → ∃ c', c ≤ c' ∧ c' < Z ∧ tb.place.toList[i]? = some (way tb.mask (Th knd k) c')) → wpAny (model P w) A (setSearchFrom D (.ref x) (Th knd k) true f stand) Q E s := by
  obtain ⟨ob, e, ex, d⟩ := R.at'
  intro f
  induction f with
  | zero => intro c st _ _ z; exact absurd z (Nat.not_lt_zero _)
  | succ f ih =>
    intro c st hst hc hf here
    rw [setSearchFrom_succ]
    refine wpAny_bind (wpAny_setState_of e d R.fits ?_); dsimp only
    refine wp_if_neg (not_gave R) ?_
    try refine wpAny_bind (wpAny_pure ?_)
    have jAt : ∀ q, (nth tb.mask (prb tb (Th knd k) c) q).j = way tb.mask (Th knd k) (c + q) := fun q => congrArg SetTable.Probe.j (prb_add tb (Th knd k) c q)
    have hAt : ∀ (i : Nat) q, L[i]? = some q → hsOf el i = Th knd q.2 := fun i q hq => by show (el[i]?.map (·.1)).getD 0 = _; rw [R.row hq]; rfl
    have spec := go_spec tb R.tab.ris R.tab.dm (hsOf el) (Th knd k) (10 * SetTable.turns tb.mask) (Z - c) _ (prb_clean tb (Th knd k) c) (by omega) (fun q hq => by rw [jAt]; exact Zb (c + q) (by omega)) (by rw [jAt, show c + (Z - c) = Z by omega]; exact Zo)
    rcases spec with ⟨q, i, hq, hi, hh, hno, hpr⟩ | ⟨hno, hpr⟩
    · have found : tb.probe (hsOf el) (Th knd k) (st.getD (tb.probeStart (Th knd k))) = some (.candidate (way tb.mask (Th knd k) (c + q)) i (prb tb (Th knd k) (c + (q + 1)))) := by rw [hst, ← jAt, ← prb_add]; exact hpr
      rw [found]; dsimp only
      rw [jAt] at hi
      have il : i < L.length := by
        have a := (List.getElem?_eq_some_iff.mp hi).1
        rw [Array.length_toList, R.plc] at a; exact a
      obtain ⟨p, hp⟩ : ∃ p, L[i]? = some p := ⟨_, List.getElem?_eq_getElem il⟩
      have pm := List.mem_of_getElem? hp
      have rest : wpAny (model P w) A (searchRest D (.ref x) (Th knd k) true f el tb (way tb.mask (Th knd k) (c + q)) i (prb tb (Th knd k) (c + (q + 1)))) Q E s := by
        unfold searchRest
        rw [R.row hp]; dsimp only
        refine wpAny_bind (wpAny_holding (wpAny_eqBool_tuple hu (R.tup p pm) hx (wpAny_bind (wpAny_setState_of e d R.fits ?_)))); dsimp only
        by_cases same : p.2 = k
        · exact wp_if_pos (by simp [same]) (wpAny_pure (isin (List.mem_map.mpr ⟨p, pm, same⟩)))
        · refine wp_if_neg (by simp [same]) ?_
          try refine wpAny_bind (wpAny_pure ?_)
          rw [sameMem]; dsimp only
          have live : tb.slot (way tb.mask (Th knd k) (c + q)) = .live i := slot_live R.tab.ris hi
          simp only [if_true, live, R.row hp]
          refine wpAny_bind (wpAny_isSame_ref_self (wpAny_bind (wpAny_pure ?_)))
          simp only [if_true]
          refine wp_if_neg (by simp [same]) (ih (c + (q + 1)) _ rfl (by omega) (by omega) fun i0 p0 h0 k0 => ?_)
          obtain ⟨c', a1, a2, a3⟩ := here i0 p0 h0 k0
          refine ⟨c', ?_, a2, a3⟩
          rcases Nat.lt_trichotomy c' (c + q) with z | z | z
          · exact (hno (c' - c) i0 (by omega) (by rw [jAt, show c + (c' - c) = c' by omega]; exact a3) ((hAt i0 p0 h0).trans (congrArg (Th knd) k0))).elim
          · rw [z] at a3
            have l2 := slot_live R.tab.ris a3
            rw [live] at l2
            injection l2 with l2
            rw [← l2, hp] at h0
            exact absurd ((congrArg Prod.snd (Option.some.inj h0)).trans k0) same
          · omega
      by_cases led : tb.led = true
      · refine wp_if_neg (by simp [led]) ?_
        try refine wpAny_bind (wpAny_pure ?_)
        exact rest
      · refine wp_if_pos (by simp [led]) (wpAny_bind (unseen qt hx (fun y hy => ?_) ?_))
        · obtain ⟨r, hr, re⟩ := List.mem_map.mp hy
          have r1 : r ∈ el ∧ r.1 = Th knd k := by simpa using hr
          have r2 : r ∈ el.toList := by simpa using r1.1
          rw [R.rows] at r2
          obtain ⟨p2, hp2, e2⟩ := List.mem_map.mp r2
          exact ⟨p2.2, p2.1, by rw [← re, ← e2], R.tup p2 hp2⟩
        · refine wp_if_neg (by decide) ?_
          try refine wpAny_bind (wpAny_pure ?_)
          exact rest
    · have found : tb.probe (hsOf el) (Th knd k) (st.getD (tb.probeStart (Th knd k))) = some (.empty (way tb.mask (Th knd k) Z) none) := by
        have z : way tb.mask (Th knd k) Z = (nth tb.mask (prb tb (Th knd k) c) (Z - c)).j := by rw [jAt, show c + (Z - c) = Z by omega]
        rw [hst, z]; exact hpr
      rw [found]; dsimp only
      refine wpAny_pure (isout fun hm => ?_)
      obtain ⟨p0, h0, k0⟩ := List.mem_map.mp hm
      obtain ⟨i0, hi0, e0⟩ := List.getElem_of_mem h0
      have h00 : L[i0]? = some p0 := by rw [List.getElem?_eq_getElem hi0, e0]
      obtain ⟨c', a1, a2, a3⟩ := here i0 p0 h00 k0
      exact hno (c' - c) i0 (by omega) (by rw [jAt, show c + (c' - c) = c' by omega]; exact a3) ((hAt i0 p0 h00).trans (congrArg (Th knd) k0))
theorem search (qt : Quiet knd) (R : SetP knd s.heap D L el ep tb) {x : Addr} {k : List κ} (hx : Tk knd s.heap k x) (hu : A.units < cLine) {Q : SetFound → Shared → Prop} (isin : k ∈ L.map (·.2) → Q (.there none) s)
    (isout : ∀ Z, k ∉ L.map (·.2) → way tb.mask (Th knd k) Z ∉ tb.place.toList → (∀ c, c < Z → way tb.mask (Th knd k) c ∈ tb.place.toList) → Q (.free (way tb.mask (Th knd k) Z) false) s) : wpAny (model P w) A (setSearch D (.ref x) (Th knd k) true) Q E s := by
  have room := R.room
  obtain ⟨Z, Zf, Zo, Zb⟩ := R.tab.first (by rw [List.length_map]; omega) (Th knd k)
  have small : Z < 100000 := by
    have : 10 * SetTable.turns tb.mask ≤ 1420 := by unfold SetTable.turns; rcases R.tab.mok with z | z | z <;> omega
    omega
  unfold setSearch
  refine seek qt R hx hu Zf Zo Zb isin (fun no => isout Z no Zo Zb) 100000 0 none rfl (Nat.zero_le _) (by omega) fun i q hq hk => ?_
  have hi : (L.map fun q => Th knd q.2)[i]? = some (Th knd k) := by rw [List.getElem?_map, hq, ← hk]; rfl
  have lt : i < tb.place.toList.length := by rw [Array.length_toList, R.plc]; exact (List.getElem?_eq_some_iff.mp hq).1
  obtain ⟨c, hc, z⟩ := R.tab.before Zo hi (List.getElem?_eq_getElem lt)
  exact ⟨c, Nat.zero_le _, hc, by rw [List.getElem?_eq_getElem lt, z]⟩
end
end EV.Sets
end

section
set_option maxHeartbeats 4000000
/-! ### sets of tuples: one more -/
namespace EV.Sets
open PySem PySem.Spec PyProof.Rows L2
section
variable {P : Program} {w : World} {κ : Type} [DecidableEq κ] {knd : KeyKind P w κ} {A : Around} {E : Value → Shared → Prop} {s : Shared} {D : Addr} {L : List (Addr × List κ)} {el : Array (Int × Value)} {ep : Nat} {tb : SetTable}
theorem tk_same {hp hp' : Heap} {k : List κ} {b : Addr} {ob : Obj} (hb : Tk knd hp k b) (e : hp.get? D = some ob) (d : ob.data = .set el ep tb) (sb : Heap.SameBut D hp hp') : Tk knd hp' k b := by
  obtain ⟨o2, vs, n, e2, c, d2, r⟩ := hb
  have ne : b ≠ D := fun z => by
    rw [z, e] at e2
    rw [← Option.some.inj e2, d] at d2
    exact nomatch d2
  exact ⟨o2, vs, n, (sb.2 b ne).trans e2, c, d2, r⟩
theorem rws_in (L : List (Addr × List κ)) (p : Nat) (x : Addr) (k : List κ) : rws knd (L.take p ++ (x, k) :: L.drop p) = (rws knd L).take p ++ (Th knd k, Value.ref x) :: (rws knd L).drop p := by
  rw [rws, List.map_append, List.map_cons, List.map_take, List.map_drop]; rfl
/-- the rows in another order -/
theorem rws_order (L : List (Addr × List κ)) (el : Array (Int × Value)) (ord : Array Nat) (hr : el.toList = rws knd L) (hp : ord.toList.Perm (List.range L.length)) :
    ∃ M, (ord.filterMap (el[·]?)).toList = rws knd M ∧ M.Perm L ∧ (M.map fun q => Th knd q.2) = ord.toList.map fun i => (el.map (·.1)).getD i 0 := by
  have sz : el.size = L.length := by rw [← Array.length_toList, hr, rws_len]
  have row : ∀ i (h : i < L.length), el[i]? = some (Th knd (L[i]).2, Value.ref (L[i]).1) := fun i h => by
    rw [← Array.getElem?_toList, hr, rws, List.getElem?_map, List.getElem?_eq_getElem h]; rfl
  have go : ∀ l : List Nat, (∀ i ∈ l, i < L.length) → ∃ M : List (Addr × List κ), l.filterMap (fun i => el[i]?) = rws knd M ∧ M = l.filterMap (fun i => L[i]?) ∧ (M.map fun q => Th knd q.2) = l.map fun i => (el.map (·.1)).getD i 0 := by
    intro l
    induction l with
    | nil => exact fun _ => ⟨[], rfl, rfl, rfl⟩
    | cons i l ih =>
      intro hl
      have hi := hl i List.mem_cons_self
      obtain ⟨M, m1, m2, m3⟩ := ih fun j hj => hl j (List.mem_cons_of_mem _ hj)
      refine ⟨L[i] :: M, by rw [List.filterMap_cons_some (row i hi), m1]; rfl, by rw [List.filterMap_cons_some (List.getElem?_eq_getElem hi), m2], ?_⟩
      have g : (el.map (·.1)).getD i 0 = Th knd (L[i]).2 := by
        have z : (el.map (·.1))[i]? = some (Th knd (L[i]).2) := by rw [Array.getElem?_map, row i hi]; rfl
        simp [Array.getD_eq_getD_getElem?, z]
      rw [List.map_cons, List.map_cons, m3, g]
  obtain ⟨M, m1, m2, m3⟩ := go ord.toList fun i hi => List.mem_range.mp (hp.mem_iff.mp hi)
  refine ⟨M, by first | (rw [Array.toList_filterMap]; exact m1) | simpa using m1, ?_, m3⟩
  have all : ∀ n, n ≤ L.length → (List.range n).filterMap (fun i => L[i]?) = L.take n := by
    intro n
    induction n with
    | zero => exact fun _ => rfl
    | succ n ih =>
      intro hn
      rw [List.range_succ, List.filterMap_append, ih (Nat.le_of_lt hn), List.take_succ, List.getElem?_eq_getElem hn, List.filterMap_cons_some (List.getElem?_eq_getElem hn)]; rfl
  have q := hp.filterMap fun i => L[i]?
  rw [all L.length (Nat.le_refl _), List.take_length, ← m2] at q
  exact q
/-- what a table must keep, without a word of how full it is -/
structure Half (knd : KeyKind P w κ) (hp : Heap) (D : Addr) (L : List (Addr × List κ)) (el : Array (Int × Value)) (ep : Nat) (tb : SetTable) : Prop where
  at' : ∃ ob, hp.get? D = some ob ∧ ob.ExactSet ∧ ob.data = .set el ep tb
  rows : el.toList = rws knd L
  tab : TabOk tb (L.map fun q => Th knd q.2)
  nd : (L.map (·.2)).Nodup
  tup : ∀ q ∈ L, Tk knd hp q.2 q.1
  led : w.params.followText "set-order" = true ∨ tb.led = true
  few : L.length < 64
theorem Half.size {hp : Heap} (R : Half knd hp D L el ep tb) : el.size = L.length := by rw [← Array.length_toList, R.rows, rws_len]
theorem Half.plc {hp : Heap} (R : Half knd hp D L el ep tb) : tb.place.size = L.length := by have := R.tab.sz; rwa [List.length_map] at this
theorem Half.full {hp : Heap} (R : Half knd hp D L el ep tb) (room : L.length * 5 < tb.mask * 3) : SetP knd hp D L el ep tb := ⟨R.at', R.rows, R.tab, R.nd, R.tup, R.led, room, R.few⟩
theorem relay (R : Half knd s.heap D L el ep tb) (fits : L.length ≤ tb.mask) {want M : Nat} (hw : SetTable.sizeAbove want - 1 = M) (hM : MaskOk M) (hw2 : SetTable.sizeAbove want ≤ 128) (hn : L.length * 5 < M * 3) {Q : Unit → Shared → Prop}
    (hQ : ∀ hp L' el' ep' tb', Heap.SameBut D s.heap hp → SetP knd hp D L' el' ep' tb' → L'.Perm L → Q () { s with heap := hp }) : wpAny (model P w) A (setRelay D want) Q E s := by
  obtain ⟨ob, e, ex, d⟩ := R.at'
  have sz := R.size; have pz := R.plc; have few := R.few
  have ft : tb.fits el.size = true := by
    unfold SetTable.fits SetTable.fill
    rw [R.tab.dm, Bool.and_eq_true, beq_iff_eq, decide_eq_true_eq]
    exact ⟨by omega, by show tb.place.size + 0 ≤ tb.mask; omega⟩
  obtain ⟨tb', ord, r, hp, T, em, eld, _, edm⟩ := relaid_ok tb (hs := el.map (·.1)) (wanted := want) hw hM (by rw [Array.size_map, sz]; omega)
  rw [Array.size_map, sz] at hp
  obtain ⟨M2, r1, r2, r3⟩ := rws_order L el ord R.rows hp
  rw [← r3] at T
  have sz2 : (ord.filterMap (el[·]?)).size = el.size := by rw [← Array.length_toList, r1, rws_len, r2.length_eq, sz]
  rw [setRelay_eq]
  refine wpAny_bind (wpAny_setState_of e d ft ?_); dsimp only
  refine wp_if_neg (by rw [sizeLine_eq]; omega) ?_
  try refine wpAny_bind (wpAny_pure ?_)
  rw [r]; dsimp only
  refine wpAny_bind (wp_if_neg (by rw [sz2]; simp) ?_)
  try refine wpAny_bind (wpAny_pure ?_)
  refine wpAny_pure ?_; dsimp only
  refine wpAny_storeSet_of e d ?_ (by rw [sz2, sz, sizeLine_eq]; omega)
  have sb := Heap.SameBut.update s.heap D (Obj.putSet (ord.filterMap (el[·]?)) tb')
  exact hQ _ M2 _ (ep + 1) tb' sb ⟨⟨_, stored e d, ⟨ex.1, ex.2.1, ex.2.2⟩, rfl⟩, r1, T, (r2.map (·.2)).nodup_iff.mpr R.nd, fun q hq => tk_same (R.tup q (r2.mem_iff.mp hq)) e d sb, by rw [eld]; exact R.led, by rw [r2.length_eq, em]; exact hn, by rw [r2.length_eq]; exact few⟩ r2
theorem addT (qt : Quiet knd) (R : SetP knd s.heap D L el ep tb) {x : Addr} {k : List κ} (hx : Tk knd s.heap k x) (hu : A.units < cLine) (more : L.length + 1 < 64) {Q : Bool → Shared → Prop}
    (hQ : ∀ b hp L' el' ep' tb', Heap.SameBut D s.heap hp → SetP knd hp D L' el' ep' tb' → (k ∈ L.map (·.2) → L' = L) → (k ∉ L.map (·.2) → L'.Perm ((x, k) :: L)) → Q b { s with heap := hp }) : wpAny (model P w) A (setAddHashed D (.ref x) (Th knd k)) Q E s := by
  obtain ⟨ob, e, ex, d⟩ := R.at'
  have sz := R.size; have room := R.room
  unfold setAddHashed
  refine wpAny_holding ?_
  rw [show (100000 : Nat) = 99999 + 1 from rfl, setAddHashedIn_succ]
  refine wpAny_bind (wpAny_setState_of e d R.fits ?_); dsimp only
  refine wp_if_neg (by simp [byScan, Value.scannable]) ?_
  try refine wpAny_bind (wpAny_pure ?_)
  refine wpAny_bind (search qt R hx hu (fun hm => wpAny_pure (hQ false s.heap L el ep tb (Heap.SameBut.refl D s.heap) R (fun _ => rfl) fun z => absurd hm z)) fun Z hm Zo Zb => ?_)
  dsimp only
  refine wpAny_bind (wpAny_setState_of e d R.fits ?_); dsimp only
  obtain ⟨q1, q2, q3, q4, q5, q6, q7, q8, q9⟩ := R.tab.put Zo Zb
  generalize tb.put (way tb.mask (Th knd k) Z) = pt at q1 q3 q4 q5 q6 q7 q8 q9 ⊢
  obtain ⟨tb1, p⟩ := pt
  dsimp only at q1 q3 q4 q5 q6 q7 q8 q9 ⊢
  subst q1
  -- the table behind it, its word of values either way
  have go : ∀ (bv : Bool), wpAny (model P w) A (do
      storeSet D (SetTable.insertAt el (SetTable.below tb.place (way tb.mask (Th knd k) Z)) (Th knd k, .ref x)) (if bv = true then tb1 else { tb1 with plain := false })
      if !false && (if bv = true then tb1 else { tb1 with plain := false }).tooFull then setRelay D (SetTable.grown (el.size + 1))
      return true) Q E s := by
    intro bv
    have q3' : TabOk (if bv = true then tb1 else { tb1 with plain := false }) ((L.map fun q => Th knd q.2).take (SetTable.below tb.place (way tb.mask (Th knd k) Z)) ++ Th knd k :: (L.map fun q => Th knd q.2).drop (SetTable.below tb.place (way tb.mask (Th knd k) Z))) := by
      cases bv with
      | true => exact q3
      | false => exact ⟨q3.ris, q3.dm, q3.sz, q3.mok, q3.bd, q3.reach⟩
    have q4' : (if bv = true then tb1 else { tb1 with plain := false }).mask = tb.mask := by cases bv <;> exact q4
    have q5' : (if bv = true then tb1 else { tb1 with plain := false }).led = tb.led := by cases bv <;> exact q5
    have q9' : (if bv = true then tb1 else { tb1 with plain := false }).fill = (L.map fun q => Th knd q.2).length + 1 := by cases bv <;> exact q9
    generalize (if bv = true then tb1 else { tb1 with plain := false }) = tb2 at q3' q4' q5' q9' ⊢
    have rows1 : (SetTable.insertAt el (SetTable.below tb.place (way tb.mask (Th knd k) Z)) (Th knd k, Value.ref x)).toList = rws knd (L.take (SetTable.below tb.place (way tb.mask (Th knd k) Z)) ++ (x, k) :: L.drop (SetTable.below tb.place (way tb.mask (Th knd k) Z))) := by
      rw [SetTable.toList_insertAt, rws_in, R.rows]
    generalize SetTable.below tb.place (way tb.mask (Th knd k) Z) = p at q3' rows1 ⊢
    have pm := put_perm L p (x, k)
    have ln : (L.take p ++ (x, k) :: L.drop p).length = L.length + 1 := pm.length_eq
    have hs1 : (L.take p ++ (x, k) :: L.drop p).map (fun q => Th knd q.2) = (L.map fun q => Th knd q.2).take p ++ Th knd k :: (L.map fun q => Th knd q.2).drop p := by rw [List.map_append, List.map_cons, List.map_take, List.map_drop]
    rw [← hs1] at q3'
    have nd1 : ((L.take p ++ (x, k) :: L.drop p).map (·.2)).Nodup := (pm.map (·.2)).nodup_iff.mpr (List.nodup_cons.mpr ⟨hm, R.nd⟩)
    generalize SetTable.insertAt el p (Th knd k, Value.ref x) = el1 at rows1 ⊢
    generalize L.take p ++ (x, k) :: L.drop p = L1 at pm ln q3' nd1 rows1
    have sz1 : el1.size = L.length + 1 := by rw [← Array.length_toList, rows1, rws_len, ln]
    refine wpAny_bind (wpAny_storeSet_of e d ?_ (by rw [sz1, sizeLine_eq]; omega))
    have sb := Heap.SameBut.update s.heap D (Obj.putSet el1 tb2)
    have at1 := stored (el' := el1) (tb' := tb2) e d
    generalize s.heap.update D (Obj.putSet el1 tb2) = hp1 at sb at1 ⊢
    have half : Half knd hp1 D L1 el1 (ep + 1) tb2 := ⟨⟨_, at1, ⟨ex.1, ex.2.1, ex.2.2⟩, rfl⟩, rows1, q3', nd1, fun q hq => by
      rcases List.mem_cons.mp (pm.mem_iff.mp hq) with z | hq
      · rw [z]; exact tk_same hx e d sb
      · exact tk_same (R.tup q hq) e d sb, by rw [q5']; exact R.led, by rw [ln]; exact more⟩
    have fl : tb2.tooFull = decide ((L.length + 1) * 5 ≥ tb.mask * 3) := by
      unfold SetTable.tooFull
      rw [q9', List.length_map, q4']
    by_cases full : (L.length + 1) * 5 ≥ tb.mask * 3
    · have two : (tb.mask = 7 ∧ L.length = 4) ∨ (tb.mask = 31 ∧ L.length = 18) := by
        rcases R.tab.mok with z | z | z
        · exact .inl ⟨z, by omega⟩
        · exact .inr ⟨z, by omega⟩
        · omega
      have larger : ∀ M, SetTable.sizeAbove (SetTable.grown (L.length + 1)) - 1 = M → MaskOk M → SetTable.sizeAbove (SetTable.grown (L.length + 1)) ≤ 128 → (L.length + 1) * 5 < M * 3 →
          wpAny (model P w) A (setRelay D (SetTable.grown (el.size + 1))) (fun _ s' => wpAny (model P w) A (pure true) Q E s') E { s with heap := hp1 } := fun M a1 a2 a3 a4 => by
        rw [sz]
        refine relay (s := { s with heap := hp1 }) half (by rw [ln, q4']; rcases two with ⟨z, z2⟩ | ⟨z, z2⟩ <;> omega) a1 a2 a3 (by rw [ln]; exact a4) ?_
        exact fun hp2 L2 el2 ep2 tb2 sb2 R2 pm2 => wpAny_pure (hQ true hp2 L2 el2 ep2 tb2 (sb.trans sb2) R2 (fun z => absurd z hm) fun _ => pm2.trans pm)
      have run : wpAny (model P w) A (setRelay D (SetTable.grown (el.size + 1))) (fun _ s' => wpAny (model P w) A (pure true) Q E s') E { s with heap := hp1 } := by
        rcases two with ⟨_, z⟩ | ⟨_, z⟩
        · exact larger 31 (by rw [z, size_20]) (.inr (.inl rfl)) (by rw [z, size_20]; decide) (by omega)
        · exact larger 127 (by rw [z, size_76]) (.inr (.inr rfl)) (by rw [z, size_76]; decide) (by omega)
      have isfull : (!false && tb2.tooFull) = true := by rw [fl, decide_eq_true full]; rfl
      first
        | exact wp_if_pos isfull (wpAny_bind run)
        | exact wpAny_bind (wp_if_pos isfull run)
    · have isnt : ¬ (!false && tb2.tooFull) = true := by rw [fl, decide_eq_false full]; exact Bool.false_ne_true
      have done := hQ true hp1 L1 el1 (ep + 1) tb2 sb (half.full (by rw [ln, q4']; omega)) (fun z => absurd z hm) fun _ => pm
      first
        | exact wp_if_neg isnt (wpAny_pure done)
        | exact wpAny_bind (wp_if_neg isnt (wpAny_pure (wpAny_pure done)))
  by_cases pl : tb1.plain = true
  · first
      | (refine wpAny_bind (wp_if_pos pl (byv_tup qt hx fun r => ?_)); exact go r)
      | (refine wp_if_pos pl (wpAny_bind (byv_tup qt hx fun r => ?_)); exact go r)
  · first
      | (refine wpAny_bind (wp_if_neg pl (wpAny_pure ?_)); exact go true)
      | (refine wp_if_neg pl ?_; exact go true)
end
end EV.Sets
end

section
set_option maxHeartbeats 4000000
/-! ### pairs of texts: their order -/
namespace EV.Sets
open PySem PySem.Spec PyProof.Rows L2
open SrtO (Swo Cmp lt2 SortableO list_sort_ord Srtd Stb)
def ltP (p q : Str × Str) : Bool := if p.1 = q.1 then decide (p.2.cps.toList < q.2.cps.toList) else decide (p.1.cps.toList < q.1.cps.toList)
theorem str_eq {x y : Str} (h : x.cps.toList = y.cps.toList) : x = y := by cases x; cases y; exact congrArg Str.mk (Array.toList_inj.mp h)
theorem lt_or {x y : Str} (n : x ≠ y) : x.cps.toList < y.cps.toList ∨ y.cps.toList < x.cps.toList := by
  by_cases a : x.cps.toList < y.cps.toList
  · exact .inl a
  · by_cases b : y.cps.toList < x.cps.toList
    · exact .inr b
    · exact absurd (str_eq (List.le_antisymm (List.not_lt.mp b) (List.not_lt.mp a))) n
theorem ltP_iff {p q : Str × Str} : ltP p q = true ↔ p.1.cps.toList < q.1.cps.toList ∨ (p.1 = q.1 ∧ p.2.cps.toList < q.2.cps.toList) := by
  unfold ltP
  by_cases e : p.1 = q.1
  · rw [if_pos e, decide_eq_true_eq]
    exact ⟨fun h => .inr ⟨e, h⟩, fun h => h.elim (fun z => absurd z (by rw [e]; exact List.lt_irrefl _)) (·.2)⟩
  · rw [if_neg e, decide_eq_true_eq]
    exact ⟨.inl, fun h => h.elim id fun z => absurd z.1 e⟩
theorem ltP_asymm {p q : Str × Str} (h : ltP p q = true) : ltP q p = false := by
  refine Bool.eq_false_iff.mpr fun g => ?_
  rcases ltP_iff.mp h with a | ⟨a, b⟩ <;> rcases ltP_iff.mp g with c | ⟨c, d⟩
  · exact List.lt_asymm a c
  · rw [c] at a; exact List.lt_irrefl _ a
  · rw [a] at c; exact List.lt_irrefl _ c
  · exact List.lt_asymm b d
theorem ltP_tri {p q : Str × Str} (n : p ≠ q) : ltP p q = true ∨ ltP q p = true := by
  by_cases e : p.1 = q.1
  · have n2 : p.2 ≠ q.2 := fun z => n (Prod.ext e z)
    exact (lt_or n2).imp (fun h => ltP_iff.mpr (.inr ⟨e, h⟩)) fun h => ltP_iff.mpr (.inr ⟨e.symm, h⟩)
  · exact (lt_or e).imp (fun h => ltP_iff.mpr (.inl h)) fun h => ltP_iff.mpr (.inl h)
theorem ltP_trans {p q r : Str × Str} (h : ltP p q = true) (g : ltP q r = true) : ltP p r = true := by
  refine ltP_iff.mpr ?_
  rcases ltP_iff.mp h with a | ⟨a, b⟩ <;> rcases ltP_iff.mp g with c | ⟨c, d⟩
  · exact .inl (List.lt_trans a c)
  · exact .inl (c ▸ a)
  · exact .inl (a.symm ▸ c)
  · exact .inr ⟨a.trans c, List.lt_trans b d⟩
theorem swoP (k : Value → Str × Str) : Swo fun v u => ltP (k v) (k u) := by
  refine ⟨fun x y h => ltP_asymm h, fun x y z h1 h2 => Bool.eq_false_iff.mpr fun h => ?_⟩
  -- y not under x, z not under y, yet z under x
  by_cases e : k y = k x
  · rw [e, h] at h2; cases h2
  · rcases ltP_tri e with a | a
    · rw [a] at h1; cases h1
    · rw [ltP_trans h a] at h2; cases h2
/-- a tuple of two texts -/
def IsTwo (hp : Heap) (v : Value) (p : Str × Str) : Prop := ∃ b ob t u n, v = .ref b ∧ hp.get? b = some ob ∧ ob.cls = .type "tuple" ∧ ob.data = .seq #[.str p.1 t, .str p.2 u] n
theorem IsTwo.keep {hp hp' : Heap} {v : Value} {p : Str × Str} (h : IsTwo hp v p) (k : ∀ b ob, hp.get? b = some ob → ob.cls = .type "tuple" → hp'.get? b = some ob) : IsTwo hp' v p :=
  let ⟨b, ob, t, u, n, e, a, c, d⟩ := h; ⟨b, ob, t, u, n, e, k b ob a c, c, d⟩
theorem heads {hp : Heap} : ∀ {vs : List Value}, (∀ v ∈ vs, ∃ p, IsTwo hp v p) → ∃ fs : List Value, PySem.W.KatTups hp vs fs ∧ fs.length = vs.length ∧ ∀ f ∈ fs, ∃ x t, f = Value.str x t
  | [], _ => ⟨[], PySem.W.KatTups.nil, rfl, fun f hf => by cases hf⟩
  | v :: vs, h => by
    obtain ⟨fs, a1, a2, a3⟩ := heads (vs := vs) fun u hu => h u (List.mem_cons_of_mem _ hu)
    obtain ⟨p, b, ob, t, u, n, rfl, e, c, d⟩ := h v List.mem_cons_self
    refine ⟨.str p.1 t :: fs, PySem.W.KatTups.cons e c d rfl a1, by rw [List.length_cons, List.length_cons, a2], fun f hf => ?_⟩
    rcases List.mem_cons.mp hf with rfl | hf
    · exact ⟨_, _, rfl⟩
    · exact a3 f hf
section
variable {prog : Program} {w : World} {A : Around} {E : Value → Shared → Prop} {s : Shared}
theorem cmpP {vs : List Value} {k : Value → Str × Str} (h : ∀ v ∈ vs, IsTwo s.heap v (k v)) : Cmp prog w A s (tuples' true) (fun p => p.1 ∈ vs) (lt2 fun v u => ltP (k v) (k u)) := by
  intro p q hm hm'
  change wpAny (model prog w) A (keyLt' (tuples' true) p.1 q.1) (fun r s' => s' = s ∧ r = ltP (k p.1) (k q.1)) (fun _ _ => False) s
  have h1 := h _ hm
  have h2 := h _ hm'
  generalize k p.1 = x at h1 ⊢
  generalize k q.1 = y at h2 ⊢
  obtain ⟨b1, o1, t1, u1, n1, e1, a1, c1, d1⟩ := h1
  obtain ⟨b2, o2, t2, u2, n2, e2, a2, c2, d2⟩ := h2
  rw [e1, e2]
  refine PySem.W.kat_lt a1 d1 a2 d2 ?_
  change PySem.W.KatLex prog w A true (decide (2 < 2)) _ [(.str x.1 t1, .str y.1 t2), (.str x.2 u1, .str y.2 u2)] 0 s
  refine PySem.W.kat_cons (SeqAt.EqAt.str_str x.1 t1 y.1 t2 prog w _ _ (PySem.W.kat_go (fun z => ?_) (fun z => ?_)))
  · have z1 : x.1 = y.1 := by simpa using z
    refine PySem.W.kat_yes (PySem.W.kat_cons (SeqAt.EqAt.str_str x.2 u1 y.2 u2 prog w _ _ (PySem.W.kat_go (fun g => ?_) (fun g => ?_))))
    · have g1 : x.2 = y.2 := by simpa using g
      exact PySem.W.kat_yes (PySem.W.kat_nil ⟨rfl, by rw [ltP, if_pos z1, g1]; exact (decide_eq_false (List.lt_irrefl _)).symm⟩)
    · refine PySem.W.kat_no (PySem.W.kat_one _ _ (PyProof.Rows.lt_str ?_))
      exact (show s = s ∧ decide (x.2.cps.toList < y.2.cps.toList) = ltP x y from ⟨rfl, by rw [ltP, if_pos z1]⟩)
  · have z1 : ¬ x.1 = y.1 := by simpa using z
    exact PySem.W.kat_no (oneLt_str ⟨rfl, by rw [ltP, if_neg z1]⟩)
theorem sortableP {D : Addr} {vs : List Value} {k : Value → Str × Str} (h0 : 0 < vs.length) (h : ∀ v ∈ vs, IsTwo s.heap v (k v)) (hD : ∀ ob, s.heap.get? D = some ob → ob.cls ≠ .type "tuple") : SortableO prog w A s D vs fun v u => ltP (k v) (k u) := by
  intro hp' kp
  have h' : ∀ v ∈ vs, IsTwo hp' v (k v) := fun v hv => (h v hv).keep fun b ob e c => kp b ob (fun z => hD ob (z ▸ e) c) e
  obtain ⟨fs, a1, a2, a3⟩ := heads fun v hv => ⟨_, h' v hv⟩
  refine ⟨tuples' true, fun Q E q => PySem.W.kat_kind (T := .type "str") a1 (by omega) (fun f hf => ?_) (by rfl) ?_, cmpP h'⟩
  · obtain ⟨x, t, rfl⟩ := a3 f hf
    exact PySem.W.Looks.now
  · rw [show (Value.type "str" != Value.type "tuple") = true by first | decide +kernel | rfl | decide]
    exact q
end
end EV.Sets
end

section
set_option maxHeartbeats 4000000
/-! ### sets of tuples of texts, as tracked things -/
namespace EV.Sets
open PySem PySem.Spec PyProof.Rows L2
open SrtO (Swo Cmp lt2 SortableO list_sort_ord Srtd Stb)
/-- all that the set itself says of it -/
def SetQ (P : Program) (w : World) (hp : Heap) (D : Addr) (L : List (Addr × List Str)) : Prop := ∃ (el : Array (Int × Value)) (ep : Nat) (tb : SetTable), (∃ ob, hp.get? D = some ob ∧ ob.ExactSet ∧ ob.data = .set el ep tb) ∧ el.toList = rws (sk P w) L ∧ TabOk tb (L.map fun q => Th (sk P w) q.2) ∧ (L.map (·.2)).Nodup ∧
  (w.params.followText "set-order" = true ∨ tb.led = true) ∧ L.length * 5 < tb.mask * 3 ∧ L.length < 64
theorem SetP.q {P : Program} {w : World} {hp : Heap} {D : Addr} {L : List (Addr × List Str)} {el : Array (Int × Value)} {ep : Nat} {tb : SetTable} (R : SetP (sk P w) hp D L el ep tb) : SetQ P w hp D L := ⟨el, ep, tb, R.at', R.rows, R.tab, R.nd, R.led, R.room, R.few⟩
theorem SetQ.p {P : Program} {w : World} {hp : Heap} {D : Addr} {L : List (Addr × List Str)} (R : SetQ P w hp D L) (t : ∀ q ∈ L, Tk (sk P w) hp q.2 q.1) : ∃ el ep tb, SetP (sk P w) hp D L el ep tb :=
  let ⟨el, ep, tb, a, b, c, d, e, f, g⟩ := R; ⟨el, ep, tb, a, b, c, d, t, e, f, g⟩
def SetPO (P : Program) (w : World) (D : Addr) (L : List (Addr × List Str)) : HO := .ext fun hp => SetQ P w hp D L
theorem setPO_new {P : Program} {w : World} {H : Hp} {hp : Heap} {D : Addr} {L : List (Addr × List Str)} (R : SetQ P w hp D L) : ObjOk P w H hp D (SetPO P w D L) :=
  ⟨R, (let ⟨_, _, _, ⟨ob, e, _⟩, _⟩ := R; ⟨ob, e⟩), fun _ _ ⟨el, ep, tb, ⟨ob, e, r⟩, q⟩ k => ⟨el, ep, tb, ⟨ob, k ob e, r⟩, q⟩⟩
theorem setQ_fresh {P : Program} {w : World} {hp : Heap} : SetQ P w (hp.push (bareSet w)) hp.objs.size [] := by
  refine ⟨#[], 0, _, ⟨_, Heap.get?_push_size _ rfl, ⟨rfl, rfl, rfl⟩, rfl⟩, rfl, ⟨List.Pairwise.nil, rfl, rfl, .inl rfl, fun x hx => (by cases hx), fun i h j hi => (by simp at hi)⟩, List.nodup_nil, ?_, by show 0 * 5 < 7 * 3; decide, by show 0 < 64; decide⟩
  show _ ∨ (!w.params.followText "set-order") = true
  cases w.params.followText "set-order" <;> simp
theorem items_txt {P : Program} {w : World} : ∀ {k : List Str} {us : List Value}, Vals (k.map V.str) us → ItemsAre (sk P w) k us
  | [], _, .nil => .nil
  | x :: k, _, .cons r t => by obtain ⟨u, rfl⟩ := r; exact .cons (PySem.strKind_is _ _ x u) (items_txt t)
section
variable {X : Cx} {pins : List (Addr × Obj)} {σ : L2.St} {H : Hp} {s : Shared}
theorem tk_of {b : Addr} {k : List Str} (I : Inv X pins σ H s) (h : SqT X.K H b (k.map V.str)) : Tk (sk X.prog X.w) s.heap k b := by
  obtain ⟨its, r, ⟨ob, e, c, n, d⟩, _⟩ := I.tuple h
  exact ⟨ob, its.toArray, n, e, c, d, by simpa using items_txt r⟩
theorem setPO_get {D : Addr} {L : List (Addr × List Str)} (I : Inv X pins σ H s) (h : H D = some (SetPO X.prog X.w D L)) : SetQ X.prog X.w s.heap D L := (I.hok D _ h).1
theorem addP_ok {E : Value → Shared → Prop} {D b : Addr} {k : List Str} {L : List (Addr × List Str)} {Q : Value → Shared → Prop} (hu : X.A.units + 64 < cLine) (I : Inv X pins σ H s) (hb : SqT X.K H b (k.map V.str)) (h : H D = some (SetPO X.prog X.w D L)) (tup : ∀ q ∈ L, SqT X.K H q.1 (q.2.map V.str)) (few : L.length + 1 < 64)
    (q : ∀ L' s', (k ∈ L.map (·.2) → L' = L) → (k ∉ L.map (·.2) → L'.Perm ((b, k) :: L)) → Inv X pins σ (upd H D (SetPO X.prog X.w D L')) s' → Q .none s') : wpAny (model X.prog X.w) X.A (call (.builtin "set.add") [.ref D, .ref b]) Q E s := by
  obtain ⟨el, ep, tb, R⟩ := (setPO_get I h).p fun q hq => tk_of I (tup q hq)
  have tk := tk_of I hb
  obtain ⟨ob, e, ex, d⟩ := R.at'
  have isD : s.TypeIs (.ref D) "set" := ⟨ob, e, ex.1⟩
  refine wpAny_call_entry F.slot_set_add isD F.entry_set_add ?_ (F.args_set_add_2 _ _)
  unfold Builtin.«set.add» Builtin.Frozenset.oneOther Builtin.Frozenset.addrOf setAdd
  simp only [List.isEmpty_nil, bind_assoc]
  refine wpAny_bind (wpAny_pure ?_); try dsimp only
  refine wpAny_bind (wpAny_pure ?_); try dsimp only
  have u1 : X.A.in1.units < cLine := by show X.A.units + 1 < cLine; omega
  refine wpAny_bind (wpAny_holding (wpAny_bind (wpAny_pyHash_tuple u1 tk (addT (s := { s with toks := s.toks + (k.length + 1) }) quietS R tk u1 few fun bb hp L' el' ep' tb' sb R' c1 c2 => ?_))))
  refine wpAny_pure ⟨_, rfl, q L' _ c1 c2 (I.write (e := D) (t' := s.toks + (k.length + 1)) (by rw [h]; trivial) (.inl rfl) (fun b u hb e => (sb.2 b hb).trans e) (let ⟨ob, e, _⟩ := R'.at'; ⟨ob, e⟩) (setPO_new R'.q))⟩
end
/-- tuples of texts -/
def adP (K : PySem.W.Frag) (P : Program) (w : World) : Adder := ⟨fun D => SetPO P w D [], fun y H D N => ∃ (b : Addr) (k : List Str) (L : List (Addr × List Str)), y = .ref b ∧ SqT K H b (k.map V.str) ∧ H D = some (SetPO P w D L) ∧ (∀ q ∈ L, SqT K H q.1 (q.2.map V.str)) ∧ L.length + 1 < 64 ∧
  ∀ L', (k ∈ L.map (·.2) → L' = L) → (k ∉ L.map (·.2) → L'.Perm ((b, k) :: L)) → N (upd H D (SetPO P w D L'))⟩
theorem adP_ok (P : Program) (w : World) (K : PySem.W.Frag) (A : Around) (hu : A.units + 64 < cLine) : AdOk P w K A (adP K P w) where
  fresh := fun H hp => setPO_new setQ_fresh
  adds := by
    rintro B rfl rfl rfl rfl pins σ H s D y u N I r ⟨b, k, L, rfl, hb, h, tup, few, q⟩
    cases r
    exact addP_ok hu I hb h tup few fun L' s' c1 c2 I' => ⟨_, I', q L' c1 c2⟩
/-- the pairs of a set, in order -/
def rSortP (K : PySem.W.Frag) (P : Program) (w : World) : List V → Hp → VK → Prop := fun xs H Q => ∃ (D : Addr) (L : List (Addr × List Str)), xs = [V.ref D] ∧ H D = some (SetPO P w D L) ∧ (∀ q ∈ L, ∃ a b, q.2 = [a, b] ∧ SqT K H q.1 [.str a, .str b]) ∧
  ∀ (M : List (Addr × List Str)) (p : Addr), M.Perm L → M.Pairwise (fun u v => ∀ a b c d, u.2 = [a, b] → v.2 = [c, d] → ltP (a, b) (c, d) = true) → H p = none → Q (.ref p) (upd H p (.lst (M.map fun q => V.ref q.1)))
theorem perm_lift {α β : Type} {f : α → β} {a b : List β} (p : a.Perm b) : ∀ {L : List α}, b = L.map f → ∃ M : List α, M.Perm L ∧ a = M.map f := by
  induction p with
  | nil => intro L h; exact ⟨[], by (match L, h with | [], _ => exact List.Perm.refl []), rfl⟩
  | cons x _ ih =>
    intro L h
    match L, h with
    | y :: L, h =>
      rw [List.map_cons] at h
      obtain ⟨h1, h2⟩ := List.cons.inj h
      obtain ⟨M, m1, m2⟩ := ih h2
      exact ⟨y :: M, m1.cons y, by rw [List.map_cons, m2, h1]⟩
  | swap x y l =>
    intro L h
    match L, h with
    | u :: v :: L, h =>
      simp only [List.map_cons] at h
      obtain ⟨h1, h2⟩ := List.cons.inj h
      obtain ⟨h3, h4⟩ := List.cons.inj h2
      exact ⟨v :: u :: L, .swap u v L, by rw [List.map_cons, List.map_cons, h1, h3, h4]⟩
    | [u], h => simp at h
  | trans _ _ ih1 ih2 =>
    intro L h
    obtain ⟨M, m1, m2⟩ := ih2 h
    obtain ⟨M2, m3, m4⟩ := ih1 m2
    exact ⟨M2, m3.trans m1, m4⟩
theorem two_same {hp : Heap} {v : Value} {p q : Str × Str} (h : IsTwo hp v p) (g : IsTwo hp v q) : p = q := by
  obtain ⟨b, ob, t, u, n, rfl, e, _, d⟩ := h
  obtain ⟨b2, ob2, t2, u2, n2, z, e2, _, d2⟩ := g
  cases z
  rw [e] at e2
  cases e2
  rw [d] at d2
  have : (#[Value.str p.1 t, Value.str p.2 u] : Array Value) = #[Value.str q.1 t2, Value.str q.2 u2] := (Data.seq.inj d2).1
  have l := congrArg Array.toList this
  simp at l
  exact Prod.ext l.1.1 l.2.1
section
variable {X : Cx}
theorem cr_sortP (K : PySem.W.Frag) (P : Program) (w : World) (hc : X.calm = true) (hK : X.K = K := by rfl) (hP : X.prog = P := by rfl) (hw : X.w = w := by rfl) : CallR X (.builtin "sorted") (rSortP K P w) := by
  subst hK hP hw
  rintro pins s σ H xs us Q I r ⟨D, L, rfl, h, tup, q⟩
  rw [Vals.ref1 r]
  have tup' : ∀ u ∈ L, SqT X.K H u.1 (u.2.map V.str) := fun u hu => by
    obtain ⟨a, b, e, t⟩ := tup u hu
    rw [e]; exact t
  obtain ⟨el, ep, tb, R⟩ := (setPO_get I h).p fun u hu => tk_of I (tup' u hu)
  obtain ⟨ob, e, ex, d⟩ := R.at'
  have few := R.few
  have sz := R.size
  have lt : el.size < scanBound := by rw [sz]; exact Nat.lt_of_lt_of_le few (by decide)
  refine Calls.call_function_entry kind_sorted plain_sorted entry_sorted (args_sorted1 _) ?_
  unfold Builtin.«sorted»
  refine wpAny_bind (m := checkCount "sorted" 1 1 _) (wpAny_pure (wpAny_bind (collect_set (A := X.A.in1) (I.ok.hd hc) ⟨ob, e, ex.1, d⟩ R.fits lt R.tab.ris R.led fun s1 vs k1 hz g1 o1 pm => ?_)))
  rw [R.rows, rws, List.map_map] at pm
  have ln : vs.length = L.length := by rw [pm.length_eq, List.length_map]
  refine wpAny_bind (wpAny_newList ?_ (by rw [ln, sizeLine_eq]; omega))
  have at1 : (s1.heap.push (seqObj "list" vs.toArray 0)).get? s1.heap.objs.size = some (seqObj "list" vs.toArray 0) := Heap.get?_push_size _ rfl
  have kp1 : ∀ b u, s.heap.get? b = some u → (s1.heap.push (seqObj "list" vs.toArray 0)).get? b = some u := fun b u z => Heap.get?_push_of_some _ (k1 b u z)
  have two : ∀ v ∈ vs, ∃ p, IsTwo (s1.heap.push (seqObj "list" vs.toArray 0)) v p ∧ ∃ u ∈ L, v = .ref u.1 ∧ u.2 = [p.1, p.2] := fun v hv => by
    obtain ⟨u, hu, rfl⟩ := List.mem_map.mp (pm.mem_iff.mp hv)
    obtain ⟨a, b, eu, t⟩ := tup u hu
    obtain ⟨its, rv, ⟨o2, e2, c2, n2, d2⟩, _⟩ := I.tuple t
    match its, rv with
    | _, .cons r1 (.cons r2 .nil) =>
      obtain ⟨ta, rfl⟩ := r1
      obtain ⟨tb, rfl⟩ := r2
      exact ⟨(a, b), ⟨u.1, o2, ta, tb, n2, rfl, kp1 _ _ e2, c2, d2⟩, u, hu, rfl, eu⟩
  obtain ⟨k, hk⟩ := Classical.axiomOfChoice (r := fun (v : Value) (p : Str × Str) => v ∈ vs → IsTwo (s1.heap.push (seqObj "list" vs.toArray 0)) v p) fun v => by
    by_cases hv : v ∈ vs
    · obtain ⟨p, hp, _⟩ := two v hv
      exact ⟨p, fun _ => hp⟩
    · exact ⟨("", ""), fun z => absurd z hv⟩
  refine wpAny_bind (wpAny_holding (wpAny_call_entry slot_list_sort ⟨_, at1, rfl⟩ entry_list_sort (list_sort_ord (s := { s1 with heap := s1.heap.push (seqObj "list" vs.toArray 0) }) (swoP k) at1 (by rw [ln, sizeLine_eq]; omega)
    (fun h2 => sortableP (by omega) (fun v hv => hk v hv) fun o z c => ?_) fun out ho hb => ⟨_, rfl, ?_⟩) (args_list_sort _)))
  · have z' : (s1.heap.push (seqObj "list" vs.toArray 0)).get? s1.heap.objs.size = some o := z
    rw [at1] at z'
    rw [← Option.some.inj z'] at c
    exact absurd (Value.type.inj (show Value.type "list" = Value.type "tuple" from c)) (by decide)
  obtain ⟨e', at2⟩ := sortedHeap_at (vs := vs) (out := out.toArray) at1
  obtain ⟨M, m1, m2⟩ := perm_lift (f := fun u : Addr × List Str => Value.ref u.1) (hb.perm.trans pm) rfl
  subst m2
  have free : H s1.heap.objs.size = none := I.hok.fresh hz
  have kept : ∀ b u, s.heap.get? b = some u → (sortedHeap (s1.heap.push (seqObj "list" vs.toArray 0)) s1.heap.objs.size vs (M.map fun u => Value.ref u.1).toArray).get? b = some u := fun b u z => by
    have l2 := Heap.lt_size (k1 b u z)
    rw [sortedHeap_old (Nat.ne_of_lt l2) (by rw [size_push']; exact Nat.lt_succ_of_lt l2)]
    exact kp1 b u z
  have fits : (M.map fun u => V.ref u.1).length ≤ sizeLine := by rw [List.length_map, m1.length_eq, sizeLine_eq]; omega
  have vals : ∀ N : List (Addr × List Str), Vals (N.map fun u => V.ref u.1) (N.map fun u => Value.ref u.1) := fun N => by
    induction N with
    | nil => exact .nil
    | cons u N ih => exact .cons rfl ih
  refine wpAny_pure ⟨_, rfl, .ref s1.heap.objs.size, upd H s1.heap.objs.size (.lst (M.map fun u => V.ref u.1)), ?_, rfl, q M _ m1 ?_ free⟩
  · have J : Inv X pins σ (upd H s1.heap.objs.size (.lst (M.map fun u => V.ref u.1))) { s with heap := sortedHeap (s1.heap.push (seqObj "list" vs.toArray 0)) s1.heap.objs.size vs (M.map fun u => Value.ref u.1).toArray, gens := s1.gens, drawn := s1.drawn, toks := s1.toks } :=
      I.call (ch := []) (Un.laid kept hz free) (I.hok.laid kept hz ⟨fits, M.map fun u => Value.ref u.1, e', vals M, at2⟩) (by rw [g1]; exact I.bare) (fun _ z => nomatch z)
    cases s1
    cases s
    cases o1
    exact J
  · have nd : M.Pairwise (fun u v => u.2 ≠ v.2) := by
      have := (m1.map (·.2)).nodup_iff.mpr R.nd
      exact List.pairwise_map.mp this
    have so : M.Pairwise (fun u v => ltP (k (.ref v.1)) (k (.ref u.1)) = false) := List.pairwise_map.mp ho
    refine (nd.and so).imp_of_mem fun {u v} hu hv ⟨ne, le⟩ a b c d eu ev => ?_
    have ku : ∀ {u : Addr × List Str} {a b : Str}, u ∈ M → u.2 = [a, b] → k (.ref u.1) = (a, b) := fun {u a b} hu eu => by
      have hv : Value.ref u.1 ∈ vs := pm.mem_iff.mpr (List.mem_map_of_mem (f := fun u : Addr × List Str => Value.ref u.1) (m1.mem_iff.mp hu))
      obtain ⟨a2, b2, eu2, t⟩ := tup u (m1.mem_iff.mp hu)
      rw [eu] at eu2
      obtain ⟨rfl, rfl⟩ : a = a2 ∧ b = b2 := by simpa using eu2
      obtain ⟨its, rv, ⟨o2, e2, c2, n2, d2⟩, _⟩ := I.tuple t
      match its, rv with
      | _, .cons r1 (.cons r2 .nil) =>
        obtain ⟨ta, rfl⟩ := r1
        obtain ⟨tb, rfl⟩ := r2
        exact two_same (hk _ hv) ⟨u.1, o2, ta, tb, n2, rfl, kp1 _ _ e2, c2, d2⟩
    rw [ku hu eu, ku hv ev] at le
    refine (ltP_tri fun z => ne ?_).resolve_right (by rw [le]; exact Bool.false_ne_true)
    rw [eu, ev, (Prod.mk.inj z).1, (Prod.mk.inj z).2]
end
end EV.Sets
end

section
set_option maxHeartbeats 4000000
/-! ### lists and tuples alike: walked, sorted -/
namespace EV.Sets
open PySem PySem.Spec PyProof.Rows L2
def iAny (K : PySem.W.Frag) (te : TE) : TI := fun σ H R => te σ H fun x H1 => ∃ a, x = .ref a ∧ (((∃ xs, SqL K H1 a xs) ∧ R (Itl K a) H1) ∨ ((∃ xs, SqT K H1 a xs) ∧ R (Itt K a) H1))
theorem pi_any (K : PySem.W.Frag) {X : Cx} {tg l : Expr} {tl : TE} (hl : PE X l tl) (hK : X.K = K := by rfl) : PI X tg l (iAny K tl) := by
  subst hK
  refine ⟨fun pins s σ H R I h => thn (hl.run pins s σ H _ I h) fun v s1 ⟨x, H1, I1, r1, a, e, q⟩ => ?_⟩
  subst e
  cases r1
  have new : ∀ b ∈ [s1.heap.objs.size], FpOk X pins H1 b := fun b hb => by
    rw [List.mem_singleton.mp hb]; exact I1.fpOk (Nat.le_refl _) (I1.hok.fresh (Nat.le_refl _))
  rcases q with ⟨⟨xs, hq⟩, q⟩ | ⟨⟨xs, hq⟩, q⟩
  · obtain ⟨its, rv, p, hz⟩ := I1.list hq
    exact wpAny_pyIter_list p.isList ⟨_, [s1.heap.objs.size], _, _, H1, rfl, I1.kept (t' := s1.toks) fun b o z => Heap.get?_push_of_some _ z, turn_list a _, ⟨_, Heap.get?_push_size _ rfl, rfl, rfl⟩, new, q⟩
  · obtain ⟨its, rv, p, hz⟩ := I1.tuple hq
    exact wpAny_pyIter_tuple p ⟨_, [s1.heap.objs.size], _, _, H1, rfl, I1.kept (t' := s1.toks) fun b o z => Heap.get?_push_of_some _ z, turn_tuple a _, ⟨_, Heap.get?_push_size _ rfl, rfl, rfl⟩, new, q⟩
/-- sorted(xs) of texts -/
def rSortA (K : PySem.W.Frag) : List V → Hp → VK → Prop := fun vs H Q => ∃ (a : Addr) (xs : List Str), vs = [V.ref a] ∧ (SqL K H a (xs.map V.str) ∨ SqT K H a (xs.map V.str)) ∧ xs.length < 64 ∧
  ∀ (ys : List Str) (p : Addr), ys.Perm xs → sortedS ys = true → H p = none → Q (.ref p) (upd H p (.lst (ys.map V.str)))
theorem cr_sortA (K : PySem.W.Frag) {X : Cx} (hK : X.K = K := by rfl) : CallR X (.builtin "sorted") (rSortA K) := by
  subst hK
  rintro pins s σ H vs us Q I r ⟨a, xs, rfl, src, h64, q⟩
  rw [Vals.ref1 r]
  obtain ⟨its, rv, T, ob, n, hT, e, c, d⟩ : ∃ (its : List Value) (rv : Vals (xs.map V.str) its) (T : String) (ob : Obj) (n : Nat), (T = "list" ∨ T = "tuple") ∧ s.heap.get? a = some ob ∧ ob.cls = .type T ∧ ob.data = .seq its.toArray n := by
    rcases src with h | h
    · obtain ⟨its, rv, p, _⟩ := I.list h
      obtain ⟨ob, e, c, n, d⟩ := p.isList
      exact ⟨its, rv, "list", ob, n, .inl rfl, e, c, d⟩
    · obtain ⟨its, rv, ⟨ob, e, c, n, d⟩, _⟩ := I.tuple h
      exact ⟨its, rv, "tuple", ob, n, .inr rfl, e, c, d⟩
  have txt := strsAre_of rv
  have ln : its.length = xs.length := by rw [← rv.length, List.length_map]
  refine Calls.call_function_entry kind_sorted plain_sorted entry_sorted (args_sorted1 _) ?_
  unfold Builtin.«sorted»
  refine wpAny_bind (m := checkCount "sorted" 1 1 _) (wpAny_pure (wpAny_bind (wpAny_collect_seq (A := X.A.in1) a hT e c d (fun hp kp => ?_) (by rw [List.size_toArray, ln, sizeLine_eq]; omega))))
  have I1 : Inv X pins σ H { s with heap := hp } := I.kept (t' := s.toks) kp
  have at1 : (hp.push (seqObj "list" its.toArray.toList.toArray 0)).get? hp.objs.size = some (seqObj "list" its.toArray.toList.toArray 0) := Heap.get?_push_size _ rfl
  refine wpAny_bind (wpAny_newList ?_ (by rw [List.toList_toArray, ln, sizeLine_eq]; omega))
  rw [List.toList_toArray] at at1 ⊢
  refine wpAny_bind (wpAny_holding (wpAny_call_entry slot_list_sort ⟨_, at1, rfl⟩ entry_list_sort (list_sort_treeK strKind_oneLt (s := { s with heap := hp.push (seqObj "list" its.toArray 0) }) at1 txt.keysOf (fun v₁ v₂ rest z => keyKind_strs (by rw [← z]; exact txt)) (by rw [ln]; exact h64) fun st' pp hs => ⟨_, rfl, ?_⟩) (args_list_sort _)))
  obtain ⟨ys, c1, c2, c3⟩ := sorted_out_str txt pp hs
  obtain ⟨e', at2⟩ := sortedHeap_at (vs := its) (out := (arrOf st').map (·.2)) at1
  have fits : (ys.map V.str).length ≤ sizeLine := by rw [List.length_map, c2.length_eq, sizeLine_eq]; omega
  refine wpAny_pure ⟨_, rfl, .ref hp.objs.size, upd H hp.objs.size (.lst (ys.map V.str)), I1.laid (t' := s.toks) (fun b u z => ?_) (Nat.le_refl _) (show ObjOk X.prog X.w _ _ _ (.lst (ys.map V.str)) from ⟨fits, ((arrOf st').map (·.2)).toList, e', vals_of_strs c1, by rw [Array.toArray_toList]; exact at2⟩), rfl, q ys _ c2 c3 (I1.hok.fresh (Nat.le_refl _))⟩
  have lt := Heap.lt_size z
  rw [sortedHeap_old (Nat.ne_of_lt lt) (by rw [size_push']; exact Nat.lt_succ_of_lt lt)]
  exact Heap.get?_push_of_some _ z
end EV.Sets
end

section
set_option maxHeartbeats 2000000
local macro_rules | `(tactic| walk_at "za") => `(tactic| (first | exact Or.inl ⟨by omega, by omega⟩ | exact Or.inr ⟨by omega, by omega⟩ | exact ⟨by omega, by omega⟩ | exact ⟨by omega, by omega, by omega⟩ | omega))
local macro_rules | `(tactic| walk_at "z") => `(tactic| (first
  | with_reducible refine EV.z_seq ?_ | with_reducible refine EV.z_next ?_ | with_reducible refine EV.z_nx ?_ | with_reducible refine EV.z_rt ?_ | with_reducible refine EV.z_asg ?_ | with_reducible refine EV.z_name ?_
  | with_reducible refine EV.z_drop ?_ | with_reducible refine EV.z_ret ?_ | with_reducible refine EV.z_if ?_
  | ((with_reducible refine EV.z_var (v := ?vv) ?hv ?_); (case hv => exact rfl)) | with_reducible refine EV.z_c ?_ | with_reducible refine EV.z_op ?_ | with_reducible refine EV.z_un ?_ | with_reducible refine EV.z_I0 ?_ | with_reducible refine EV.z_U ?_ | ((with_reducible refine EV.z_I ?hc ?_); (case hc => walk_at "za"))
  | ((with_reducible refine EV.z_eq ?hv ?_); (case hv => exact rfl)) | ((with_reducible refine EV.z_ne ?hv ?_); (case hv => exact rfl))
  | with_reducible refine EV.z_test ?_ | with_reducible refine EV.z_bl ?_ | with_reducible refine EV.z_B ?_ | with_reducible refine EV.z_and ?_ | with_reducible refine EV.z_or ?_ | with_reducible refine EV.z_not ?_ | with_reducible refine EV.z_andV ?_
  | with_reducible refine EV.z_orV ?_ | with_reducible refine EV.z_notV ?_ | with_reducible refine EV.z_ifE ?_ | with_reducible refine EV.z_nil ?_ | with_reducible refine EV.z_cons ?_ | with_reducible refine EV.z_tup ?_ | with_reducible refine EV.z_lst ?_
  | with_reducible refine EV.z_cb ?_ | with_reducible refine EV.z_call ?_ | with_reducible refine EV.z_dget ?_ | with_reducible refine EV.z_dput ?_ | with_reducible refine EV.z_chain ?_ | with_reducible refine EV.z_then ?_ | with_reducible refine EV.z_fld ?_ | with_reducible refine EV.z_bm ?_
  | with_reducible refine EV.z_par ?_ | with_reducible refine EV.z_par3 ?_ | with_reducible refine EV.z_ex2 ?_ | with_reducible refine EV.z_ex3 ?_ | with_reducible refine EV.z_tyes ?_ | ((with_reducible refine EV.z_wipe ?hv ?_); (case hv => exact rfl))
  | with_reducible refine EV.z_lc ?_ | with_reducible refine EV.z_ltS ?_ | with_reducible refine EV.z_disp ?_ | with_reducible refine EV.z_pc ?_ | with_reducible refine EV.z_pn ?_ | with_reducible refine EV.z_m1 ?_ | with_reducible refine EV.z_isS ?_ | with_reducible refine EV.z_sl ?_ | with_reducible refine EV.z_np ?_ | with_reducible refine EV.z_pt ?_ | with_reducible refine EV.z_exI ?_ | with_reducible refine EV.z_is ?_ | with_reducible refine EV.z_istr ?_ | with_reducible refine EV.z_no ?_ | with_reducible refine EV.z_yes ?_ | with_reducible refine EV.z_for ?_ | with_reducible refine EV.z_il ?_ | with_reducible refine EV.z_it ?_ | with_reducible refine EV.z_r1 ?_ | with_reducible refine EV.z_ik ?_ | with_reducible refine EV.z_din ?_ | with_reducible refine EV.z_dnin ?_ | with_reducible refine EV.z_dsd ?_ | with_reducible refine EV.z_gs ?_ | with_reducible refine EV.z_gc ?_ | with_reducible refine EV.z_gn ?_ | with_reducible refine EV.z_turn ?_))
local macro_rules | `(tactic| walk_at "zz") => `(tactic| repeat walk_at "z")
namespace EV
open PySem PySem.Spec PyProof.Rows L2
abbrev s_is_name : Stmt := top 12
abbrev N_is_name : List Str := ["thing", "letter"]
abbrev P_is_name : List Str := ["thing"]
theorem sc_is_name : FnScope N_is_name P_is_name (defScope s_is_name) := ⟨rfl, rfl, rfl, by decide +kernel, rfl, by decide +kernel, by decide +kernel⟩
abbrev s_is_list : Stmt := top 13
abbrev N_is_list : List Str := ["thing"]
abbrev P_is_list : List Str := ["thing"]
theorem sc_is_list : FnScope N_is_list P_is_list (defScope s_is_list) := ⟨rfl, rfl, rfl, by decide +kernel, rfl, by decide +kernel, by decide +kernel⟩
abbrev s_is_pair : Stmt := top 14
abbrev N_is_pair : List Str := ["thing"]
abbrev P_is_pair : List Str := ["thing"]
theorem sc_is_pair : FnScope N_is_pair P_is_pair (defScope s_is_pair) := ⟨rfl, rfl, rfl, by decide +kernel, rfl, by decide +kernel, by decide +kernel⟩
abbrev s_rising_pair : Stmt := top 17
abbrev N_rising_pair : List Str := ["one", "other"]
abbrev P_rising_pair : List Str := ["one", "other"]
theorem sc_rising_pair : FnScope N_rising_pair P_rising_pair (defScope s_rising_pair) := ⟨rfl, rfl, rfl, by decide +kernel, rfl, by decide +kernel, by decide +kernel⟩
abbrev s_is_number : Stmt := top 15
abbrev N_is_number : List Str := ["thing", "least", "most"]
abbrev P_is_number : List Str := ["thing", "least", "most"]
theorem sc_is_number : FnScope N_is_number P_is_number (defScope s_is_number) := ⟨rfl, rfl, rfl, by decide +kernel, rfl, by decide +kernel, by decide +kernel⟩
abbrev s_are_leaves : Stmt := top 16
abbrev N_are_leaves : List Str := ["thing"]
abbrev P_are_leaves : List Str := ["thing"]
theorem sc_are_leaves : FnScope N_are_leaves P_are_leaves (defScope s_are_leaves) := ⟨rfl, rfl, rfl, by decide +kernel, rfl, by decide +kernel, by decide +kernel⟩
abbrev s_are_pages : Stmt := top 18
abbrev N_are_pages : List Str := ["thing", "page"]
abbrev P_are_pages : List Str := ["thing"]
theorem sc_are_pages : FnScope N_are_pages P_are_pages (defScope s_are_pages) := ⟨rfl, rfl, rfl, by decide +kernel, rfl, by decide +kernel, by decide +kernel⟩
abbrev s_pages_in : Stmt := top 19
abbrev N_pages_in : List Str := ["held", "pages", "page"]
abbrev P_pages_in : List Str := ["held"]
theorem sc_pages_in : FnScope N_pages_in P_pages_in (defScope s_pages_in) := ⟨rfl, rfl, rfl, by decide +kernel, rfl, by decide +kernel, by decide +kernel⟩
/-! ### isinstance -/
theorem z_isi {K : PySem.W.Frag} {H : Hp} {Q : VK} {x : V} {a n : String} {r : Bool} (ty : TyX K H x (.type a)) (e : PySem.W.kitOne K (.type a) (.type n) = some r) (q : Q (.bl r) H) : rIsi K [x, .ty n] H Q := ⟨x, .ty n, .type a, .type n, r, rfl, .ty n, ty, e, q⟩
theorem z_nt {A B : Prop} (h : B) : if (!true) = true then A else B := by rw [if_neg (by decide)]; exact h
theorem z_nf {A B : Prop} (h : A) : if (!false) = true then A else B := by rw [if_pos (by decide)]; exact h
theorem nm_letters {c : Nat} (h : 97 ≤ c ∧ c ≤ 122) : c ∈ (("abcdefghijklmnopqrstuvwxyz" : Str)).cps.toList := by
  have all : ((List.range 123).all fun c => !(decide (97 ≤ c)) || decide (c ∈ (("abcdefghijklmnopqrstuvwxyz" : Str)).cps.toList)) = true := by decide +kernel
  have q := List.all_eq_true.mp all c (List.mem_range.mpr (by omega))
  simpa [h.1] using q
def spIsName : Sp := fun vs H Q _ => ∃ x : Str, vs = [.str x] ∧ Nm x ∧ ∀ H', Same H H' → Q (.bl true) H'
section
variable {P : Program} {w : World} {K : PySem.W.Frag} {mg : Str → Option Value} {base : Heap}
theorem ok_is_name (T : Txt mg) {f fd} (D : C8.Def K mg "is_name" s_is_name f fd) (b : Binds K fd P_is_name []) : C8.Cal P w K mg base 1 "is_name" spIsName [] := by
  refine C8.cal0 D b .nil sc_is_name (fun vs H Q E h => ?_) (fun cdv A outer s H vs Q E hr h => ?_)
  · obtain ⟨x, rfl, _⟩ := h
    rfl
  · obtain ⟨x, rfl, nm, k⟩ := h
    have hu := hu_of hr
    refine ⟨_, (pss_cons (ps_if (PW.pt (pw_or (pt_not (pt_val (pe_callB (k_isi K) rfl T.b_isinstance (by decide +kernel) (pa_cons (pv 0) (pa_cons (pe_bltn (v := .ty "str") rfl T.b_str (by decide +kernel) rfl) pa_nil))))) (pw_or1 (pt_not (pt_chain op_le op_le pe_int (pe_callB (k_len K) rfl T.b_len PySem.boot_len (pa_cons (pv 0) pa_nil)) (k_gI rfl T.g_MOST_LETTERS))))))
    (pss_one (ps_ret pe_bl))
    pss_nil)
  (pss_one (ps_ret (pe_callB (k_all K rfl) rfl T.b_all (by decide +kernel) (pa_cons (pe_lc (own := [("letter", 1)]) rfl sc_is_name.nd (pi_str (pv 0)) (blkOk_by (N := N_is_name) (sc := defScope s_is_name) (by decide +kernel)) (fun _ _ _ _ _ => (pg_name (i := 1) sc_is_name.nd rfl (Or.inl rfl))) (fun _ _ _ _ _ => pts_nil) (fun _ _ _ _ _ => (pe_cmpR k_inSign (pv 1) (k_gS rfl T.g_LETTERS) rfl))) pa_nil))))), ?_⟩
    walk_at "zz"
    refine z_isi (a := "str") (.base (by constructor)) (by rfl) ?_
    walk_at "zz"
    refine z_nt ?_
    walk_at "zz"
    have xl := slen x
    obtain ⟨n1, n6, nl⟩ := nm
    refine ⟨_, x.length, rfl, ⟨sz (by omega), rfl⟩, ?_⟩
    walk_at "zz"
    refine z_ite (fun _ => ?_) (fun no => absurd (show (1 : Int) ≤ x.length by omega) no)
    walk_at "zz"
    rw [show decide ((x.length : Int) ≤ 6) = true from decide_eq_true (by omega)]
    refine z_nt ?_
    walk_at "zz"
    intro D' hD
    refine lc_it walk_str (fun i H' => Same H H' ∧ ∃ bs : List Bool, H' D' = some (.lst (bs.map V.bl)) ∧ bs.length = i ∧ bs.all id = true) ⟨same_new hD, [], upd_same, rfl, rfl⟩ (fun _ _ _ _ => trivial) ?_ ?_
    · rintro i v H1 H2 hi ⟨s1, bs, h1, bl, ba⟩ ⟨rfl, c, hc, rfl⟩
      walk_at "zz"
      have cin : c ∈ x.cps.toList := by
        have := List.mem_of_getElem? (show x.cps.toList[i]? = some c by rw [Array.getElem?_toList]; exact hc)
        exact this
      refine ⟨c, _, rfl, rfl, ?_⟩
      have yes : decide (c ∈ ("abcdefghijklmnopqrstuvwxyz" : Str).cps.toList) = true := decide_eq_true (nm_letters (nl c cin))
      have xs : x.cps.size = x.length := rfl
      refine ⟨_, h1, szl (by rw [List.length_map]; omega), same_wr s1 hD, bs ++ [true], ?_, by simp [bl], by rw [List.all_append, ba]; rfl⟩
      rw [upd_same, List.map_append, yes]; rfl
    · rintro H1 ⟨s1, bs, h1, _, ba⟩
      walk_at "zz"
      refine ⟨D', bs, rfl, SqL.of h1, ?_⟩
      rw [ba]
      exact k H1 s1
/-- a list or a tuple -/
def Seq (K : PySem.W.Frag) (H : Hp) (p : Addr) (xs : List V) : Prop := SqL K H p xs ∨ SqT K H p xs
def spIsList (K : PySem.W.Frag) : Sp := fun vs H Q _ => ∃ (p : Addr) (xs : List V), vs = [.ref p] ∧ ((H p = some (.lst xs)) ∨ H p = some (.tup xs)) ∧ ∀ H', Same H H' → Q (.bl true) H'
theorem ok_is_list (T : Txt mg) {f fd} (D : C8.Def K mg "is_list" s_is_list f fd) (b : Binds K fd P_is_list []) : C8.Cal P w K mg base 1 "is_list" (spIsList K) [] := by
  refine C8.cal0 D b .nil sc_is_list (fun vs H Q E h => ?_) (fun cdv A outer s H vs Q E hr h => ?_)
  · obtain ⟨p, xs, rfl, _⟩ := h
    rfl
  · obtain ⟨p, xs, rfl, hp, k⟩ := h
    have hu := hu_of hr
    refine ⟨_, (pss_one (ps_ret (pe_callB (k_isiT K) rfl T.b_isinstance (by decide +kernel) (pa_cons (pv 0) (pa_cons (pe_tup (pa_cons (pe_bltn (v := .ty "list") rfl T.b_list (by decide +kernel) rfl) (pa_cons (pe_bltn (v := .ty "tuple") rfl T.b_tuple (by decide +kernel) rfl) pa_nil))) pa_nil))))), ?_⟩
    walk_at "zz"
    refine ⟨sz (by show 2 ≤ 100000; decide), fun q hq => ?_⟩
    walk_at "zz"
    have s1 : Same H (upd H q (.tup [.ty "list", .ty "tuple"])) := same_new hq
    rcases hp with hp | hp
    · refine ⟨.ref p, q, [.ty "list", .ty "tuple"], .type "list", [.type "list", .type "tuple"], true, rfl, upd_same, .cons (.ty _) (.cons (.ty _) .nil), .base (by constructor; exact s1 _ _ hp), by rfl, ?_⟩
      exact k _ s1
    · refine ⟨.ref p, q, [.ty "list", .ty "tuple"], .type "tuple", [.type "list", .type "tuple"], true, rfl, upd_same, .cons (.ty _) (.cons (.ty _) .nil), .base (by constructor; exact s1 _ _ hp), by rfl, ?_⟩
      exact k _ s1
def spIsPair (K : PySem.W.Frag) : Sp := fun vs H Q _ => ∃ (p : Addr) (xs : List V), vs = [.ref p] ∧ H p = some (.tup xs) ∧ xs.length = 2 ∧ ∀ H', Same H H' → Q (.bl true) H'
theorem ok_is_pair (T : Txt mg) {f fd} (D : C8.Def K mg "is_pair" s_is_pair f fd) (b : Binds K fd P_is_pair []) : C8.Cal P w K mg base 1 "is_pair" (spIsPair K) [] := by
  refine C8.cal0 D b .nil sc_is_pair (fun vs H Q E h => ?_) (fun cdv A outer s H vs Q E hr h => ?_)
  · obtain ⟨p, xs, rfl, _⟩ := h
    rfl
  · obtain ⟨p, xs, rfl, hp, l2, k⟩ := h
    have hu := hu_of hr
    refine ⟨_, (pss_one (ps_ret (pe_and (pe_callB (k_isi K) rfl T.b_isinstance (by decide +kernel) (pa_cons (pv 0) (pa_cons (pe_bltn (v := .ty "tuple") rfl T.b_tuple (by decide +kernel) rfl) pa_nil))) (pe_one (pe_cmpR op_eq (pe_callB (k_len K) rfl T.b_len PySem.boot_len (pa_cons (pv 0) pa_nil)) pe_int (nomark _)))))), ?_⟩
    walk_at "zz"
    refine z_isi (a := "tuple") (.base (by constructor; exact hp)) (by rfl) ?_
    walk_at "zz"
    refine ⟨_, 2, rfl, .inr ⟨xs, SqT.of hp, l2.symm⟩, ?_⟩
    walk_at "zz"
    exact k H fun _ _ e => e
def spRising : Sp := fun vs H Q _ => ∃ (F : Hp) (x y : Str), vs = [.str x, .str y] ∧ Sub F H ∧ x ≠ y ∧ ∀ p F' H' a b, Nx No F H F' H' → F' p = some (.tup [.str a, .str b]) → slt a b → ((a = x ∧ b = y) ∨ (a = y ∧ b = x)) → Q (.ref p) H'
theorem ok_rising_pair (T : Txt mg) {f fd} (D : C8.Def K mg "rising_pair" s_rising_pair f fd) (b : Binds K fd P_rising_pair []) : C8.Cal P w K mg base 1 "rising_pair" spRising [] := by
  refine C8.cal0 D b .nil sc_rising_pair (fun vs H Q E h => ?_) (fun cdv A outer s H vs Q E hr h => ?_)
  · obtain ⟨F, x, y, rfl, _⟩ := h
    rfl
  · obtain ⟨F, x, y, rfl, sF, ne, k⟩ := h
    have hu := hu_of hr
    refine ⟨_, (pss_one (ps_ret (pe_tup (pa_cons (pe_callB (call_min2S rfl) rfl T.b_min (by decide +kernel) (pa_cons (pv 0) (pa_cons (pv 1) pa_nil))) (pa_cons (pe_callB (call_max2S rfl) rfl T.b_max (by decide +kernel) (pa_cons (pv 0) (pa_cons (pv 1) pa_nil))) pa_nil))))), ?_⟩
    walk_at "zz"
    refine ⟨x, y, rfl, ?_⟩
    walk_at "zz"
    refine ⟨x, y, rfl, ?_⟩
    walk_at "zz"
    refine ⟨sz (by show 2 ≤ 100000; decide), fun p hp => ?_⟩
    have N := Nx.lay (M := No) (o := .tup [.str (if y.cps.toList < x.cps.toList then y else x), .str (if x.cps.toList < y.cps.toList then y else x)]) sF hp
    rcases slt_tri ne with lt | lt
    · rw [if_neg (slt_asymm lt), if_pos lt] at N ⊢
      exact k p _ _ x y N upd_same lt (.inl ⟨rfl, rfl⟩)
    · rw [if_pos lt, if_neg (slt_asymm lt)] at N ⊢
      exact k p _ _ y x N upd_same lt (.inr ⟨rfl, rfl⟩)
def spIsNumber : Sp := fun vs H Q _ => ∃ n a b : Int, vs = [.int n, .int a, .int b] ∧ ∀ H', Same H H' → Q (.bl (decide (a ≤ n ∧ n ≤ b))) H'
theorem ok_is_number (T : Txt mg) {f fd} (D : C8.Def K mg "is_number" s_is_number f fd) (b : Binds K fd P_is_number []) : C8.Cal P w K mg base 1 "is_number" spIsNumber [] := by
  refine C8.cal0 D b .nil sc_is_number (fun vs H Q E h => ?_) (fun cdv A outer s H vs Q E hr h => ?_)
  · obtain ⟨n, a, b, rfl, _⟩ := h
    rfl
  · obtain ⟨n, a, b, rfl, k⟩ := h
    have hu := hu_of hr
    refine ⟨_, (pss_cons (ps_if (PW.pt (pw_or (pt_not (pt_val (pe_callB (k_isi K) rfl T.b_isinstance (by decide +kernel) (pa_cons (pv 0) (pa_cons (pe_bltn (v := .ty "int") rfl T.b_int (by decide +kernel) rfl) pa_nil))))) (pw_or1 (pt_val (pe_callB (k_isi K) rfl T.b_isinstance (by decide +kernel) (pa_cons (pv 0) (pa_cons (pe_bltn (v := .ty "bool") rfl T.b_bool (by decide +kernel) rfl) pa_nil)))))))
    (pss_one (ps_ret pe_bl))
    pss_nil)
  (pss_one (ps_ret (pe_chain op_le op_le (pv 1) (pv 0) (pv 2))))), ?_⟩
    walk_at "zz"
    refine z_isi (a := "int") (.base (by constructor)) (by rfl) ?_
    walk_at "zz"
    refine z_nt ?_
    walk_at "zz"
    refine z_isi (a := "int") (r := false) (.base (by constructor)) (by rfl) ?_
    walk_at "zz"
    refine z_ite (fun y => ?_) (fun no => ?_)
    · walk_at "zz"
      rw [show decide (n ≤ b) = decide (a ≤ n ∧ n ≤ b) from decide_eq_decide.mpr ⟨fun h => ⟨y, h⟩, fun h => h.2⟩]
      exact k H fun _ _ e => e
    · have := k H fun _ _ e => e
      rw [decide_eq_false (fun h : a ≤ n ∧ n ≤ b => no h.1)] at this
      exact this
def spAreLeaves : Sp := fun vs H Q _ => ∃ n : Int, vs = [.int n] ∧ 1 ≤ n ∧ n ≤ 9 ∧ ∀ H', Same H H' → Q (.bl true) H'
theorem ok_are_leaves (T : Txt mg) (c_is_number : C8.Cal P w K mg base 1 "is_number" spIsNumber []) {f fd} (D : C8.Def K mg "are_leaves" s_are_leaves f fd) (b : Binds K fd P_are_leaves []) : C8.Cal P w K mg base 2 "are_leaves" spAreLeaves [] := by
  refine C8.cal0 D b .nil sc_are_leaves (fun vs H Q E h => ?_) (fun cdv A outer s H vs Q E hr h => ?_)
  · obtain ⟨n, rfl, _⟩ := h
    rfl
  · obtain ⟨n, rfl, n1, n9, k⟩ := h
    have hu := hu_of hr
    refine ⟨_, (pss_one (ps_ret (C8.pe_c c_is_number hr (by decide) rfl (pa_cons (pv 0) (pa_cons pe_int (pa_cons (k_gI rfl T.g_MOST_LEAVES) pa_nil)))))), ?_⟩
    walk_at "zz"
    refine ⟨n, 1, 9, rfl, fun H1 s1 => ?_⟩
    rw [decide_eq_true (show (1 : Int) ≤ n ∧ n ≤ 9 from ⟨n1, n9⟩)]
    exact k _ s1
end
end EV
end

section
set_option maxHeartbeats 2000000
/-! ### the turns of a set comprehension over a walk -/
namespace EV.Sets
open PySem PySem.Spec PyProof.Rows L2
theorem turns_of {J : It} {n : Nat} {G : Hp → Prop} {Y : Nat → Hp → V → Hp → Prop} (wk : Walk J n G Y) {g : TG} {tt : TT} {ta : TAct} {vs : List Nat} {σ0 : L2.St} {H0 : Hp} {Qd : Hp → Prop} (Pv : Nat → Hp → Prop) (h0 : Pv 0 H0) (hG : ∀ i H, i ≤ n → Pv i H → G H)
    (hs : ∀ i x H H', i < n → Pv i H → Y i H x H' → g x σ0 H' fun σ2 H2 => wipe σ2 vs = σ0 ∧ tt σ2 H2 fun b H3 => if b = true then ta σ2 H3 (Pv (i + 1)) else Pv (i + 1) H3) (hd : ∀ H, Pv n H → Qd H) :
    ∃ W : Nat → Nat → Hp → Prop, (∃ m, W 0 m H0) ∧ TurnsOk J g tt ta vs σ0 W Qd := by
  refine ⟨fun i m H => m = n - i ∧ i ≤ n ∧ Pv i H, ⟨n, rfl, Nat.zero_le _, h0⟩, ?_⟩
  rintro i m H ⟨rfl, hi, p⟩
  rcases Nat.lt_or_ge i n with lt | ge
  · exact .inr ⟨wk.goes i H lt (hG i H hi p), Pv (i + 1), fun H' p' => ⟨n - (i + 1), by omega, rfl, lt, p'⟩, fun x H' y => hs i x H H' lt p (wk.yields i H x H' lt (hG i H hi p) y)⟩
  · obtain rfl : i = n := by omega
    exact .inl ⟨wk.stops H (hG _ H hi p), hd H p⟩
/-- a dict comprehension's turns -/
theorem dc_it {J : It} {n : Nat} {G : Hp → Prop} {Y : Nat → Hp → V → Hp → Prop} (wk : Walk J n G Y) {g : TG} {tt : TT} {tk tv : TE} {vs : List Nat} {σ : L2.St} {H0 : Hp} {D : Addr} {Qd : Hp → Prop} (Pv : Nat → Hp → Prop) (h0 : Pv 0 H0) (hG : ∀ i H, i ≤ n → Pv i H → G H)
    (hs : ∀ i x H H', i < n → Pv i H → Y i H x H' → g x (wipe σ vs) H' fun σ2 H2 => wipe σ2 vs = wipe σ vs ∧ tt σ2 H2 fun b H3 => if b = true then tk σ2 H3 fun y H4 => tv σ2 H4 fun z H5 => ∃ kvs k, y = kV k ∧ H5 D = some (.dK kvs) ∧ kvs.length < sizeLine ∧ Pv (i + 1) (upd H5 D (.dK (putK kvs k z))) else Pv (i + 1) H3)
    (hd : ∀ H, Pv n H → Qd H) : ∃ W : Nat → Nat → Hp → Prop, (∃ m, W 0 m H0) ∧ ∀ i m H, W i m H → (J.stop i H ∧ Qd H) ∨ (J.go i H ∧ ∃ Nx : Hp → Prop, (∀ H', Nx H' → ∃ m', m' < m ∧ W (i + 1) m' H') ∧ ∀ x H', J.yld i H x H' → g x (wipe σ vs) H' fun σ2 H2 => wipe σ2 vs = wipe σ vs ∧ tt σ2 H2 fun b H3 =>
      if b = true then tk σ2 H3 fun y H4 => tv σ2 H4 fun z H5 => ∃ kvs k, y = kV k ∧ H5 D = some (.dK kvs) ∧ kvs.length < sizeLine ∧ Nx (upd H5 D (.dK (putK kvs k z))) else Nx H3) := by
  refine ⟨fun i m H => m = n - i ∧ i ≤ n ∧ Pv i H, ⟨n, rfl, Nat.zero_le _, h0⟩, ?_⟩
  rintro i m H ⟨rfl, hi, p⟩
  rcases Nat.lt_or_ge i n with lt | ge
  · exact .inr ⟨wk.goes i H lt (hG i H hi p), Pv (i + 1), fun H' p' => ⟨n - (i + 1), by omega, rfl, lt, p'⟩, fun x H' y => hs i x H H' lt p (wk.yields i H x H' lt (hG i H hi p) y)⟩
  · obtain rfl : i = n := by omega
    exact .inl ⟨wk.stops H (hG _ H hi p), hd H p⟩
end EV.Sets
end

section
set_option maxHeartbeats 2000000
local macro_rules | `(tactic| walk_at "za") => `(tactic| (first | exact Or.inl ⟨by omega, by omega⟩ | exact Or.inr ⟨by omega, by omega⟩ | exact ⟨by omega, by omega⟩ | exact ⟨by omega, by omega, by omega⟩ | omega))
local macro_rules | `(tactic| walk_at "z") => `(tactic| (first
  | with_reducible refine EV.z_seq ?_ | with_reducible refine EV.z_next ?_ | with_reducible refine EV.z_nx ?_ | with_reducible refine EV.z_rt ?_ | with_reducible refine EV.z_asg ?_ | with_reducible refine EV.z_name ?_
  | with_reducible refine EV.z_drop ?_ | with_reducible refine EV.z_ret ?_ | with_reducible refine EV.z_if ?_
  | ((with_reducible refine EV.z_var (v := ?vv) ?hv ?_); (case hv => exact rfl)) | with_reducible refine EV.z_c ?_ | with_reducible refine EV.z_op ?_ | with_reducible refine EV.z_un ?_ | with_reducible refine EV.z_I0 ?_ | with_reducible refine EV.z_U ?_ | ((with_reducible refine EV.z_I ?hc ?_); (case hc => walk_at "za"))
  | ((with_reducible refine EV.z_eq ?hv ?_); (case hv => exact rfl)) | ((with_reducible refine EV.z_ne ?hv ?_); (case hv => exact rfl))
  | with_reducible refine EV.z_test ?_ | with_reducible refine EV.z_bl ?_ | with_reducible refine EV.z_B ?_ | with_reducible refine EV.z_and ?_ | with_reducible refine EV.z_or ?_ | with_reducible refine EV.z_not ?_ | with_reducible refine EV.z_andV ?_
  | with_reducible refine EV.z_orV ?_ | with_reducible refine EV.z_notV ?_ | with_reducible refine EV.z_ifE ?_ | with_reducible refine EV.z_nil ?_ | with_reducible refine EV.z_cons ?_ | with_reducible refine EV.z_tup ?_ | with_reducible refine EV.z_lst ?_
  | with_reducible refine EV.z_cb ?_ | with_reducible refine EV.z_call ?_ | with_reducible refine EV.z_dget ?_ | with_reducible refine EV.z_dput ?_ | with_reducible refine EV.z_chain ?_ | with_reducible refine EV.z_then ?_ | with_reducible refine EV.z_fld ?_ | with_reducible refine EV.z_bm ?_
  | with_reducible refine EV.z_par ?_ | with_reducible refine EV.z_par3 ?_ | with_reducible refine EV.z_ex2 ?_ | with_reducible refine EV.z_ex3 ?_ | with_reducible refine EV.z_tyes ?_ | ((with_reducible refine EV.z_wipe ?hv ?_); (case hv => exact rfl))
  | with_reducible refine EV.z_lc ?_ | with_reducible refine EV.z_ltS ?_ | with_reducible refine EV.z_disp ?_ | with_reducible refine EV.z_pc ?_ | with_reducible refine EV.z_pn ?_ | with_reducible refine EV.z_m1 ?_ | with_reducible refine EV.z_isS ?_ | with_reducible refine EV.z_sl ?_ | with_reducible refine EV.z_np ?_ | with_reducible refine EV.z_pt ?_ | with_reducible refine EV.z_exI ?_ | with_reducible refine EV.z_is ?_ | with_reducible refine EV.z_istr ?_ | with_reducible refine EV.z_no ?_ | with_reducible refine EV.z_yes ?_ | with_reducible refine EV.z_for ?_ | with_reducible refine EV.z_il ?_ | with_reducible refine EV.z_it ?_ | with_reducible refine EV.z_r1 ?_ | with_reducible refine EV.z_ik ?_ | with_reducible refine EV.z_din ?_ | with_reducible refine EV.z_dnin ?_ | with_reducible refine EV.z_dsd ?_ | with_reducible refine EV.z_gs ?_ | with_reducible refine EV.z_gc ?_ | with_reducible refine EV.z_gn ?_ | with_reducible refine EV.z_turn ?_))
local macro_rules | `(tactic| walk_at "zz") => `(tactic| repeat walk_at "z")
namespace EV
open PySem PySem.Spec PyProof.Rows L2
abbrev s_clean_held : Stmt := top 20
abbrev N_clean_held : List Str := ["held", "person", "pages"]
abbrev P_clean_held : List Str := ["held"]
theorem sc_clean_held : FnScope N_clean_held P_clean_held (defScope s_clean_held) := ⟨rfl, rfl, rfl, by decide +kernel, rfl, by decide +kernel, by decide +kernel⟩
/-- what stands at p: a list or a tuple -/
def SeqO (H : Hp) (p : Addr) (xs : List V) : Prop := H p = some (.lst xs) ∨ H p = some (.tup xs)
theorem SeqO.same {H H' : Hp} {p : Addr} {xs : List V} (h : SeqO H p xs) (s : Same H H') : SeqO H' p xs := h.imp (s _ _) (s _ _)
theorem SeqO.sub {F H : Hp} {p : Addr} {xs : List V} (h : SeqO F p xs) (s : Sub F H) : SeqO H p xs := h.imp (s _ _) (s _ _)
theorem SeqO.sq {K : PySem.W.Frag} {H : Hp} {p : Addr} {xs : List V} (h : SeqO H p xs) : SqL K H p xs ∨ SqT K H p xs := h.imp SqL.of SqT.of
theorem SeqO.len {K : PySem.W.Frag} {H : Hp} {p : Addr} {xs : List V} {Q : VK} (h : SeqO H p xs) (q : Q (.int xs.length) H) : rLenK K [.ref p] H Q :=
  ⟨_, xs.length, rfl, h.imp (fun h => ⟨xs, SqL.of h, rfl⟩) (fun h => ⟨xs, SqT.of h, rfl⟩), q⟩
theorem z_ia {K : PySem.W.Frag} {te : TE} {σ : L2.St} {H : Hp} {R : It → Hp → Prop} (q : te σ H fun x H1 => ∃ a, x = .ref a ∧ (((∃ xs, SqL K H1 a xs) ∧ R (Itl K a) H1) ∨ ((∃ xs, SqT K H1 a xs) ∧ R (Itt K a) H1))) : Sets.iAny K te σ H R := q
theorem any_walk {K : PySem.W.Frag} {H : Hp} {p : Addr} {xs : List V} (h : SeqO H p xs) : ∃ (J : It) (G : Hp → Prop), Walk J xs.length G (YAt xs) ∧ (∀ H', SeqO H' p xs → H' p = H p → G H') ∧ ∀ R : It → Hp → Prop, R J H → ∃ a, V.ref p = .ref a ∧ (((∃ xs, SqL K H a xs) ∧ R (Itl K a) H) ∨ ((∃ xs, SqT K H a xs) ∧ R (Itt K a) H)) := by
  rcases h with h | h
  · exact ⟨Itl K p, _, walk_list, fun H' _ e => SqL.of (e.trans h), fun R r => ⟨p, rfl, .inl ⟨⟨xs, SqL.of h⟩, r⟩⟩⟩
  · exact ⟨Itt K p, _, walk_tup, fun H' _ e => SqT.of (e.trans h), fun R r => ⟨p, rfl, .inr ⟨⟨xs, SqT.of h⟩, r⟩⟩⟩
theorem SeqO.at {H H' : Hp} {p : Addr} {xs : List V} (h : SeqO H p xs) (k : ∀ o, H p = some o → H' p = some o) : SeqO H' p xs ∧ H' p = H p := by
  rcases h with h | h
  · exact ⟨.inl (k _ h), (k _ h).trans h.symm⟩
  · exact ⟨.inr (k _ h), (k _ h).trans h.symm⟩
theorem z_iaV {K : PySem.W.Frag} {i : Nat} {σ : L2.St} {H : Hp} {p : Addr} {xs : List V} {R : It → Hp → Prop} (hv : σ[i]? = some (some (.ref p))) (h : SeqO H p xs) (q : ∀ (J : It) (G : Hp → Prop), Walk J xs.length G (YAt xs) → (∀ H', (∀ o, H p = some o → H' p = some o) → G H') → R J H) : Sets.iAny K (tVar i) σ H R := by
  obtain ⟨J, G, wk, hG, k⟩ := any_walk (K := K) h
  exact ⟨.ref p, hv, k R (q J G wk fun H' e => hG H' (h.at e).1 (h.at e).2)⟩
def spArePages (K : PySem.W.Frag) : Sp := fun vs H Q _ => ∃ (p : Addr) (xs : List Str), vs = [.ref p] ∧ SeqO H p (xs.map V.str) ∧ xs.Nodup ∧ (∀ x ∈ xs, Nm x) ∧ xs.length ≤ 100 ∧ ∀ H', Same H H' → Q (.bl true) H'
section
variable {P : Program} {w : World} {K : PySem.W.Frag} {mg : Str → Option Value} {base : Heap}
theorem ok_are_pages (T : Txt mg) (c_is_list : C8.Cal P w K mg base 1 "is_list" (spIsList K) []) (c_is_name : C8.Cal P w K mg base 1 "is_name" spIsName []) {f fd} (D : C8.Def K mg "_are_pages" s_are_pages f fd) (b : Binds K fd P_are_pages []) : C8.Cal P w K mg base 2 "_are_pages" (spArePages K) [] := by
  refine C8.cal0 D b .nil sc_are_pages (fun vs H Q E h => ?_) (fun cdv A outer s H vs Q E hr h => ?_)
  · obtain ⟨p, xs, rfl, _⟩ := h
    rfl
  · obtain ⟨p, xs, rfl, hp, nd, nm, l1, k⟩ := h
    have hu := hu_of hr
    refine ⟨_, (pss_cons (ps_if (PW.pt (pw_or (pt_not (pt_val (C8.pe_c c_is_list hr (by decide) rfl (pa_cons (pv 0) pa_nil)))) (pw_or1 (pt_not (pt_val (pe_callB (k_all K rfl) rfl T.b_all (by decide +kernel) (pa_cons (pe_lc (own := [("page", 1)]) rfl sc_are_pages.nd (Sets.pi_any K (pv 0)) (blkOk_by (N := N_are_pages) (sc := defScope s_are_pages) (by decide +kernel)) (fun _ _ _ _ _ => (pg_name (i := 1) sc_are_pages.nd rfl (Or.inl rfl))) (fun _ _ _ _ _ => pts_nil) (fun _ _ _ _ _ => (C8.pe_c c_is_name hr (by decide) rfl (pa_cons (pv 1) pa_nil)))) pa_nil)))))))
    (pss_one (ps_ret pe_bl))
    pss_nil)
  (pss_one (ps_ret (pe_cmpR op_eq (pe_callB (Sets.cr_lenS P w) rfl T.b_len PySem.boot_len (pa_cons (pe_callTy (Sets.cr_setOfS K P w rfl) rfl T.b_set (by decide +kernel) (pa_cons (pv 0) pa_nil)) pa_nil)) (pe_callB (k_len K) rfl T.b_len PySem.boot_len (pa_cons (pv 0) pa_nil)) (nomark _))))), ?_⟩
    walk_at "zz"
    refine ⟨p, _, rfl, hp, fun H1 s1 => ?_⟩
    walk_at "zz"
    refine z_nt ?_
    walk_at "zz"
    have h1 := hp.same s1
    refine z_iaV (by rfl) h1 fun J G wk hG D' hD => ?_
    refine lc_it wk (fun i H' => Same H1 H' ∧ ∃ bs : List Bool, H' D' = some (.lst (bs.map V.bl)) ∧ bs.length = i ∧ bs.all id = true) ⟨same_new hD, [], upd_same, rfl, rfl⟩ (fun i H' _ h => hG H' (h.1 p)) ?_ ?_
    · rintro i v H2 H3 hi ⟨s2, bs, h2, bl, ba⟩ ⟨rfl, hx⟩
      obtain ⟨x, hx', rfl⟩ := at_str hx
      rw [List.length_map] at hi
      walk_at "zz"
      refine ⟨x, rfl, nm x (List.mem_of_getElem? hx'), fun H4 s4 => ?_⟩
      refine ⟨_, s4 _ _ h2, szl (by rw [List.length_map]; omega), same_wr (s2.trans s4) hD, bs ++ [true], by rw [upd_same, List.map_append]; rfl, by simp [bl], by rw [List.all_append, ba]; rfl⟩
    · rintro H2 ⟨s2, bs, h2, _, ba⟩
      walk_at "zz"
      refine ⟨D', bs, rfl, SqL.of h2, ?_⟩
      rw [ba]
      walk_at "zz"
      refine z_nt ?_
      walk_at "zz"
      have h3 := h1.same s2
      refine ⟨p, xs, rfl, h3.sq, by omega, fun S n o hS => ?_⟩
      walk_at "zz"
      refine ⟨S, _, n, rfl, upd_same, ?_⟩
      walk_at "zz"
      refine (h3.same (same_new hS)).len ?_
      walk_at "zz"
      rw [o.all nd, List.length_map, show decide (V.int (xs.length : Int) = V.int (xs.length : Int)) = true from decide_eq_true rfl]
      exact k _ (s1.trans (s2.trans (same_new hS)))
end
/-- what is held, in lists or tuples -/
def HeldO (F : Hp) (L : Hld) : Prop := ∀ t ∈ L, SeqO F t.2.1 (t.2.2.map V.str)
theorem once_few {xs C : List Str} {n : Nat} (o : Sets.Once xs n) (h : ∀ x ∈ xs, x ∈ C) : n ≤ C.length := by
  obtain ⟨ds, nd, m, rfl⟩ := o
  exact nodup_sub ds C nd fun x hx => h x ((m x).mp hx)
def spPagesIn : Sp := fun vs H Q _ => ∃ (F : Hp) (hd : Addr) (L : Hld) (C : List Str), vs = [.ref hd] ∧ Sub F H ∧ H hd = some (.dK (heldK L)) ∧ F hd = none ∧ HeldO F L ∧ (∀ t ∈ L, ∀ x ∈ t.2.2, x ∈ C) ∧ C.length ≤ 12 ∧
  ∀ (p : Addr) (ys : List Str) F' H', Nx No F H F' H' → F' p = some (.lst (ys.map V.str)) → F' hd = none → H' hd = some (.dK (heldK L)) → ys.Nodup → Srt ys → (∀ x, x ∈ ys ↔ ∃ t ∈ L, x ∈ t.2.2) → Q (.ref p) H'
section
variable {P : Program} {w : World} {K : PySem.W.Frag} {mg : Str → Option Value} {base : Heap}
theorem z_sct {ad : Sets.Adder} {wi : TI} {g : TG} {tt : TT} {ta : Addr → Sets.TAct} {vs : List Nat} {σ : L2.St} {H : Hp} {Q : VK} (q : wi σ H fun J H1 => ∀ D, H1 D = none → ∃ W : Nat → Nat → Hp → Prop, (∃ m, W 0 m (upd H1 D (ad.new D))) ∧ Sets.TurnsOk J g tt (ta D) vs (wipe σ vs) W fun H' => Q (.ref D) H') : Sets.tSc ad wi g tt ta vs σ H Q := q
theorem z_ivl {td : TE} {σ : L2.St} {H : Hp} {R : It → Hp → Prop} (q : td σ H fun x H1 => ∃ d o kvs, x = .ref d ∧ H1 d = some (.frz o (.dK kvs)) ∧ R (Itd d o kvs) H1) : iVals td σ H R := q
theorem ok_pages_in (T : Txt mg) {f fd} (D : C8.Def K mg "_pages_in" s_pages_in f fd) (b : Binds K fd P_pages_in []) : C8.Cal P w K mg base 1 "_pages_in" spPagesIn [] := by
  refine C8.cal0 D b .nil sc_pages_in (fun vs H Q E h => ?_) (fun cdv A outer s H vs Q E hr h => ?_)
  · obtain ⟨F, hd, L, C, rfl, _⟩ := h
    rfl
  · obtain ⟨F, hd, L, C, rfl, sF, hh, fh, hO, hC, c12, k⟩ := h
    have hu := hu_of hr
    refine ⟨_, (pss_one (ps_ret (pe_callB (Sets.cr_sortS P w rfl) rfl T.b_sorted (by decide +kernel) (pa_cons (pe_lock (Sets.pe_sc2 (own := [("pages", 1), ("page", 2)]) (us := [2]) (Sets.adS_ok P w K _) rfl sc_pages_in.nd (pi_values (pv 0)) (blkOk_by (N := N_pages_in) (sc := defScope s_pages_in) (by decide +kernel)) (by decide) (fun _ _ _ _ _ => (pg_name (i := 1) sc_pages_in.nd rfl (Or.inl rfl))) (fun _ _ _ _ _ => pts_nil) (fun _ _ _ _ _ => (Sets.pi_any K (pv 1))) (fun _ _ _ _ _ => (pg_name (i := 2) sc_pages_in.nd rfl (Or.inl rfl))) (fun _ _ _ _ _ => pts_nil) (fun _ _ _ _ _ => (pv 2)))) pa_nil)))), ?_⟩
    walk_at "zz"
    refine z_lockE hh (by trivial) fun od => ?_
    have hL : (upd H hd (.frz od (.dK (heldK L)))) hd = some (.frz od (.dK (heldK L))) := upd_same
    have sL : Sub F (upd H hd (.frz od (.dK (heldK L)))) := fun x o h => by
      rw [upd_ne (fun z => by rw [z, fh] at h; cases h)]
      exact sF x o h
    generalize hHL : upd H hd (.frz od (.dK (heldK L))) = HL at hL sL ⊢
    refine z_sct (z_ivl ?_)
    walk_at "zz"
    refine ⟨hd, od, heldK L, rfl, hL, fun S hS => ?_⟩
    have hS0 := hS
    have Sh : hd ≠ S := ne_of_none hL hS
    -- HL's own things stay, the set grows
    refine Sets.turns_of walk_values (fun i H' => (∀ x o, HL x = some o → H' x = some o) ∧ ∃ n, H' S = some (Sets.SetS P w S (fun k => decide (k ∈ alls (L.take i))) n) ∧ Sets.Once (alls (L.take i)) n)
      ⟨fun x o e => upd_keep e hS, 0, by rw [upd_same]; rfl, Sets.Once.nil⟩ (fun i H' _ h => h.1 _ _ hL) ?_ ?_
    · rintro i v H1 H2 hi ⟨k1, n, h1, o1⟩ ⟨rfl, ky, hk⟩
      rw [held_len] at hi
      obtain ⟨t, ht, et⟩ : ∃ t, L[i]? = some t ∧ (key t.1, V.ref t.2.1) = (ky, v) := by
        rw [heldK, List.getElem?_map] at hk
        cases e : L[i]? with
        | none => rw [e] at hk; cases hk
        | some t => rw [e] at hk; exact ⟨t, rfl, Option.some.inj hk⟩
      obtain ⟨rfl, rfl⟩ := Prod.mk.inj et
      have tm := List.mem_of_getElem? ht
      walk_at "zz"
      have tO := ((hO t tm).sub sL).imp (k1 _ _) (k1 _ _)
      refine z_iaV (p := t.2.1) (by rfl) tO fun J G wk hG => ?_
      have inC : ∀ j, ∀ x ∈ alls (L.take i) ++ t.2.2.take j, x ∈ C := fun j x hx => by
        rcases List.mem_append.mp hx with hx | hx
        · obtain ⟨u, hu, hx⟩ := mem_alls.mp hx
          exact hC u (List.mem_of_mem_take hu) x hx
        · exact hC t tm x (List.mem_of_mem_take hx)
      refine Sets.turns_of wk (fun j H' => (∀ x o, HL x = some o → H' x = some o) ∧ ∃ n, H' S = some (Sets.SetS P w S (fun k => decide (k ∈ alls (L.take i) ++ t.2.2.take j)) n) ∧ Sets.Once (alls (L.take i) ++ t.2.2.take j) n)
        ⟨k1, n, by rw [List.take_zero, List.append_nil]; exact h1, by rw [List.take_zero, List.append_nil]; exact o1⟩ (fun j H' _ h => hG H' fun o e => ?_) ?_ ?_
      · rcases (hO t tm).sub sL with z | z
        · rw [h.1 _ _ z, ← e, k1 _ _ z]
        · rw [h.1 _ _ z, ← e, k1 _ _ z]
      · rintro j v H3 H4 hj ⟨k3, n3, h3, o3⟩ ⟨rfl, hx⟩
        obtain ⟨x, hx', rfl⟩ := at_str hx
        walk_at "zz"
        have few := once_few o3 (inC j)
        refine ⟨x, _, n3, rfl, h3, Nat.lt_of_le_of_lt (show n3 + 1 ≤ 13 by omega) (by decide), fun y o e => ?_, (if decide (x ∈ alls (L.take i) ++ t.2.2.take j) = true then n3 else n3 + 1), ?_, ?_⟩
        · rw [upd_ne (ne_of_none e hS)]; exact k3 y o e
        · rw [upd_same]
          refine congrArg some (congrArg (fun f => Sets.SetS P w S f _) (funext fun k => ?_))
          rw [take_step hx', ← List.append_assoc]
          by_cases a : k ∈ alls (L.take i) ++ t.2.2.take j
          · rw [decide_eq_true a, decide_eq_true (List.mem_append_left _ a)]; rfl
          · by_cases c : k = x
            · rw [decide_eq_true c, decide_eq_true (List.mem_append_right _ (List.mem_singleton.mpr c)), Bool.or_true]
            · rw [decide_eq_false a, decide_eq_false c, decide_eq_false (fun z => (List.mem_append.mp z).elim a fun z => c (List.mem_singleton.mp z))]; rfl
        · rw [take_step hx', ← List.append_assoc]; exact o3.step
      · rintro H3 ⟨k3, n3, h3, o3⟩
        rw [List.length_map, List.take_length, ← alls_step ht] at h3 o3
        exact ⟨k3, n3, h3, o3⟩
    · rintro H1 ⟨k1, n, h1, o1⟩
      rw [held_len, List.take_length] at h1 o1
      refine ⟨k1 _ _ hL, ?_⟩
      walk_at "zz"
      have N1 : Nx No F H F (upd H1 hd (.dK (heldK L))) := by
        have keep : ∀ x o, H x = some o → upd H1 hd (.dK (heldK L)) x = some o := fun x o e => by
          by_cases z : x = hd
          · subst z; rw [upd_same, ← hh, e]
          · rw [upd_ne z]
            exact k1 _ _ (by rw [← hHL, upd_ne z]; exact e)
        refine ⟨fun x o e => keep x o (sF x o e), fun _ _ e => e, fun _ _ e => e, fun x o e _ => keep x o e, fun x h => ?_⟩
        cases e : H x with
        | none => exact absurd e h
        | some o => exact some_ne (keep x o e)
      have hS2 : (upd H1 hd (.dK (heldK L))) S = some (Sets.SetS P w S (fun k => decide (k ∈ alls L)) n) := by rw [upd_ne Sh.symm]; exact h1
      have few := once_few o1 fun x hx => by
        obtain ⟨u, hu, hx⟩ := mem_alls.mp hx
        exact hC u hu x hx
      refine ⟨S, _, n, rfl, hS2, by omega, fun ys p nd srt mem _ hp => ?_⟩
      have fp := N1.sub.none hp
      have ph : hd ≠ p := fun z => by rw [← z, upd_same] at hp; cases hp
      refine k p ys _ _ (N1.trans (Nx.lay N1.sub hp)) upd_same (by rw [upd_ne ph]; exact fh) (by rw [upd_ne ph]; exact upd_same) nd (srt_of srt) fun x => ?_
      rw [mem x, decide_eq_true_eq, mem_alls]
end
end EV
end

section
set_option maxHeartbeats 2000000
local macro_rules | `(tactic| walk_at "za") => `(tactic| (first | exact Or.inl ⟨by omega, by omega⟩ | exact Or.inr ⟨by omega, by omega⟩ | exact ⟨by omega, by omega⟩ | exact ⟨by omega, by omega, by omega⟩ | omega))
local macro_rules | `(tactic| walk_at "z") => `(tactic| (first
  | with_reducible refine EV.z_seq ?_ | with_reducible refine EV.z_next ?_ | with_reducible refine EV.z_nx ?_ | with_reducible refine EV.z_rt ?_ | with_reducible refine EV.z_asg ?_ | with_reducible refine EV.z_name ?_
  | with_reducible refine EV.z_drop ?_ | with_reducible refine EV.z_ret ?_ | with_reducible refine EV.z_if ?_
  | ((with_reducible refine EV.z_var (v := ?vv) ?hv ?_); (case hv => exact rfl)) | with_reducible refine EV.z_c ?_ | with_reducible refine EV.z_op ?_ | with_reducible refine EV.z_un ?_ | with_reducible refine EV.z_I0 ?_ | with_reducible refine EV.z_U ?_ | ((with_reducible refine EV.z_I ?hc ?_); (case hc => walk_at "za"))
  | ((with_reducible refine EV.z_eq ?hv ?_); (case hv => exact rfl)) | ((with_reducible refine EV.z_ne ?hv ?_); (case hv => exact rfl))
  | with_reducible refine EV.z_test ?_ | with_reducible refine EV.z_bl ?_ | with_reducible refine EV.z_B ?_ | with_reducible refine EV.z_and ?_ | with_reducible refine EV.z_or ?_ | with_reducible refine EV.z_not ?_ | with_reducible refine EV.z_andV ?_
  | with_reducible refine EV.z_orV ?_ | with_reducible refine EV.z_notV ?_ | with_reducible refine EV.z_ifE ?_ | with_reducible refine EV.z_nil ?_ | with_reducible refine EV.z_cons ?_ | with_reducible refine EV.z_tup ?_ | with_reducible refine EV.z_lst ?_
  | with_reducible refine EV.z_cb ?_ | with_reducible refine EV.z_call ?_ | with_reducible refine EV.z_dget ?_ | with_reducible refine EV.z_dput ?_ | with_reducible refine EV.z_chain ?_ | with_reducible refine EV.z_then ?_ | with_reducible refine EV.z_fld ?_ | with_reducible refine EV.z_bm ?_
  | with_reducible refine EV.z_par ?_ | with_reducible refine EV.z_par3 ?_ | with_reducible refine EV.z_ex2 ?_ | with_reducible refine EV.z_ex3 ?_ | with_reducible refine EV.z_tyes ?_ | ((with_reducible refine EV.z_wipe ?hv ?_); (case hv => exact rfl))
  | with_reducible refine EV.z_lc ?_ | with_reducible refine EV.z_ltS ?_ | with_reducible refine EV.z_disp ?_ | with_reducible refine EV.z_pc ?_ | with_reducible refine EV.z_pn ?_ | with_reducible refine EV.z_m1 ?_ | with_reducible refine EV.z_isS ?_ | with_reducible refine EV.z_sl ?_ | with_reducible refine EV.z_np ?_ | with_reducible refine EV.z_pt ?_ | with_reducible refine EV.z_exI ?_ | with_reducible refine EV.z_is ?_ | with_reducible refine EV.z_istr ?_ | with_reducible refine EV.z_no ?_ | with_reducible refine EV.z_yes ?_ | with_reducible refine EV.z_for ?_ | with_reducible refine EV.z_il ?_ | with_reducible refine EV.z_it ?_ | with_reducible refine EV.z_r1 ?_ | with_reducible refine EV.z_ik ?_ | with_reducible refine EV.z_din ?_ | with_reducible refine EV.z_dnin ?_ | with_reducible refine EV.z_dsd ?_ | with_reducible refine EV.z_gs ?_ | with_reducible refine EV.z_gc ?_ | with_reducible refine EV.z_gn ?_ | with_reducible refine EV.z_turn ?_))
local macro_rules | `(tactic| walk_at "zz") => `(tactic| repeat walk_at "z")
namespace EV
open PySem PySem.Spec PyProof.Rows L2
/-- what is held, in tuples -/
def HeldT (F : Hp) (L : Hld) : Prop := ∀ t ∈ L, F t.2.1 = some (.tup (t.2.2.map V.str))
def spCleanHeld : Sp := fun vs H Q _ => ∃ (F : Hp) (hd : Addr) (L : Hld) (C : List Str), vs = [.ref hd] ∧ Sub F H ∧ H hd = some (.dK (heldK L)) ∧ F hd = none ∧ HeldO F L ∧ (∀ t ∈ L, ∀ x ∈ t.2.2, x ∈ C) ∧ C.length ≤ 12 ∧ (∀ x ∈ C, Nm x) ∧ 1 ≤ L.length ∧ L.length ≤ 6 ∧
  (L.map (·.1)).Nodup ∧ (∀ t ∈ L, Nm t.1 ∧ t.2.2.Nodup) ∧
  ∀ (p : Addr) (M : Hld) F' H', Nx No F H F' H' → H p = none → F' p = none → H' p = some (.dK (heldK M)) → HeldT F' M → (M.map (·.1)).Perm (L.map (·.1)) → Srt (M.map (·.1)) → (∀ t ∈ M, Srt t.2.2 ∧ t.2.2.Perm (hLf L t.1)) → F' hd = none → H' hd = some (.dK (heldK L)) → Q (.ref p) H'
theorem z_iit {td : TE} {σ : L2.St} {H : Hp} {R : It → Hp → Prop} (q : td σ H fun x H1 => ∃ d o kvs, x = .ref d ∧ H1 d = some (.frz o (.dK kvs)) ∧ R (Iti d o kvs) H1) : iItems td σ H R := q
theorem z_dcm {wi : TI} {g : TG} {tt : TT} {tk tv : TE} {vs : List Nat} {σ : L2.St} {H : Hp} {Q : VK} (q : wi σ H fun J H1 => ∀ D, H1 D = none → ∃ W : Nat → Nat → Hp → Prop, (∃ m, W 0 m (upd H1 D (.dK []))) ∧ ∀ i m H, W i m H →
  (J.stop i H ∧ Q (.ref D) H) ∨ (J.go i H ∧ ∃ Nx : Hp → Prop, (∀ H', Nx H' → ∃ m', m' < m ∧ W (i + 1) m' H') ∧ ∀ x H', J.yld i H x H' → g x (wipe σ vs) H' fun σ2 H2 => wipe σ2 vs = wipe σ vs ∧ tt σ2 H2 fun b H3 =>
    if b = true then tk σ2 H3 fun y H4 => tv σ2 H4 fun z H5 => ∃ kvs k, y = kV k ∧ H5 D = some (.dK kvs) ∧ kvs.length < sizeLine ∧ Nx (upd H5 D (.dK (putK kvs k z))) else Nx H3)) : tDc wi g tt tk tv vs σ H Q := q
theorem nx_unlock {F H H1 : Hp} {d : Addr} {od : Obj} {u : HO} (sF : Sub F H) (hh : H d = some u) (k : ∀ x o, (upd H d (.frz od u)) x = some o → H1 x = some o) : Nx No F H F (upd H1 d u) := by
  have keep : ∀ x o, H x = some o → upd H1 d u x = some o := fun x o e => by
    by_cases z : x = d
    · subst z; rw [upd_same, ← hh, e]
    · rw [upd_ne z]
      exact k _ _ (by rw [upd_ne z]; exact e)
  refine ⟨fun x o e => keep x o (sF x o e), fun _ _ e => e, fun _ _ e => e, fun x o e _ => keep x o e, fun x h => ?_⟩
  cases e : H x with
  | none => exact absurd e h
  | some o => exact some_ne (keep x o e)
section
variable {P : Program} {w : World} {K : PySem.W.Frag} {mg : Str → Option Value} {base : Heap}
theorem ok_clean_held (T : Txt mg) (c_is_name : C8.Cal P w K mg base 1 "is_name" spIsName []) (c_are_pages : C8.Cal P w K mg base 2 "_are_pages" (spArePages K) []) (c_pages_in : C8.Cal P w K mg base 1 "_pages_in" spPagesIn []) {f fd} (D : C8.Def K mg "_clean_held" s_clean_held f fd) (b : Binds K fd P_clean_held []) :
    C8.Cal P w K mg base 3 "_clean_held" spCleanHeld [] := by
  refine C8.cal0 D b .nil sc_clean_held (fun vs H Q E h => ?_) (fun cdv A outer s H vs Q E hr h => ?_)
  · obtain ⟨F, hd, L, C, rfl, _⟩ := h
    rfl
  · obtain ⟨F, hd, L, C, rfl, sF, hh, fh, hO, hC, c12, cN, l1, l6, und, nm, k⟩ := h
    have hu := hu_of hr
    refine ⟨_, (pss_cons (ps_if (PW.pt (pw_or (pt_not (pt_val (pe_callB (k_isi K) rfl T.b_isinstance (by decide +kernel) (pa_cons (pv 0) (pa_cons (pe_bltn (v := .ty "dict") rfl T.b_dict (by decide +kernel) rfl) pa_nil))))) (pw_or1 (pt_not (pt_chain op_le op_le pe_int (pe_callB call_lenD rfl T.b_len PySem.boot_len (pa_cons (pv 0) pa_nil)) (k_gI rfl T.g_MOST_PEOPLE))))))
    (pss_one ps_never)
    pss_nil)
  (pss_cons (ps_lock (ps_for PassesOwn.never rfl (pi_items (pv 0)) (k_pgt K 2 rfl (pgs_cons (pg_name (i := 1) sc_clean_held.nd rfl (Or.inl rfl)) (pgs_cons (pg_name (i := 2) sc_clean_held.nd rfl (Or.inl rfl)) pgs_nil)))
    (pss_one (ps_if (PW.pt (pw_or (pt_not (pt_val (C8.pe_c c_is_name hr (by decide) rfl (pa_cons (pv 1) pa_nil)))) (pw_or1 (pt_not (pt_val (C8.pe_c c_are_pages hr (by decide) rfl (pa_cons (pv 2) pa_nil)))))))
    (pss_one ps_never)
    pss_nil))))
  (pss_cons (ps_if (pt_cmpR op_gt (pe_callB (k_len K) rfl T.b_len PySem.boot_len (pa_cons (C8.pe_c c_pages_in hr (by decide) rfl (pa_cons (pv 0) pa_nil)) pa_nil)) (k_gI rfl T.g_MOST_PAGES) (nomark _))
    (pss_one ps_never)
    pss_nil)
  (pss_one (ps_ret (pe_dc (own := [("person", 1)]) rfl sc_clean_held.nd (k_pil K (pe_callB (call_sortedD rfl) rfl T.b_sorted (by decide +kernel) (pa_cons (pv 0) pa_nil))) (blkOk_by (N := N_clean_held) (sc := defScope s_clean_held) (by decide +kernel)) (fun _ _ _ _ _ => (pg_name (i := 1) sc_clean_held.nd rfl (Or.inl rfl))) (fun _ _ _ _ _ => pts_nil) (fun _ _ _ _ _ => (pv 1)) (fun _ _ _ _ _ => (k_tupleOf K rfl T.b_tuple (pe_callB (Sets.cr_sortA K) rfl T.b_sorted (by decide +kernel) (pa_cons (pe_dget hu (pv 0) (pv 1) (fun _ _ => rfl)) pa_nil)))))))))), ?_⟩
    walk_at "zz"
    refine z_isi (a := "dict") (r := true) (.base (by constructor; exact hh)) (by rfl) ?_
    walk_at "zz"
    refine z_nt ?_
    walk_at "zz"
    refine ⟨hd, heldK L, rfl, hh, ?_⟩
    rw [held_len]
    walk_at "zz"
    refine z_ite (fun _ => ?_) (fun no => absurd (show (1 : Int) ≤ L.length by omega) no)
    walk_at "zz"
    rw [show decide ((L.length : Int) ≤ 6) = true from decide_eq_true (by omega)]
    refine z_nt ?_
    walk_at "zz"
    refine z_lockS hh (by trivial) fun od => ?_
    have hL : (upd H hd (.frz od (.dK (heldK L)))) hd = some (.frz od (.dK (heldK L))) := upd_same
    have sL : Sub F (upd H hd (.frz od (.dK (heldK L)))) := fun x o h => by
      rw [upd_ne (fun z => by rw [z, fh] at h; cases h)]
      exact sF x o h
    generalize hHL : upd H hd (.frz od (.dK (heldK L))) = HL at hL sL ⊢
    refine z_for (z_iit ?_)
    walk_at "zz"
    refine ⟨hd, od, heldK L, rfl, hL, for_it (D := Ends.mk _ _ _ _) walk_items (fun i σ' H' => ∃ v1 v2 : Option V, σ' = [some (.ref hd), v1, v2] ∧ ∀ x o, HL x = some o → H' x = some o) ⟨none, none, rfl, fun _ _ e => e⟩ (fun i σ' H' _ ⟨_, _, _, h⟩ => h _ _ hL) ?_ ?_⟩
    · rintro i v σ' H1 H2 hi ⟨v1, v2, rfl, k1⟩ ⟨q, x, y, rfl, hq, rfl, ex, ey⟩
      rw [held_len] at hi
      obtain ⟨t, ht⟩ : ∃ t, L[i]? = some t := ⟨_, List.getElem?_eq_getElem hi⟩
      have tm := List.mem_of_getElem? ht
      have at' : (heldK L)[i]? = some (key t.1, V.ref t.2.1) := by rw [heldK, List.getElem?_map, ht]; rfl
      obtain rfl : V.str t.1 = x := by
        have z : ((heldK L)[i]?.map fun kv => kV kv.1) = some x := ex
        rw [at'] at z; exact Option.some.inj z
      obtain rfl : V.ref t.2.1 = y := by
        have z : ((heldK L)[i]?.map Prod.snd) = some y := ey
        rw [at'] at z; exact Option.some.inj z
      refine z_gt (SqT.of upd_same) rfl ?_
      have k2 : ∀ x o, HL x = some o → (upd H1 q (.tup [.str t.1, .ref t.2.1])) x = some o := fun x o e => upd_keep (k1 x o e) hq
      generalize upd H1 q (.tup [.str t.1, .ref t.2.1]) = H2 at k2 ⊢
      walk_at "zz"
      refine ⟨t.1, rfl, (nm t tm).1, fun H3 s3 => ?_⟩
      walk_at "zz"
      refine z_nt ?_
      have tO0 : SeqO H2 t.2.1 (t.2.2.map V.str) := ((hO t tm).sub sL).imp (k2 _ _) (k2 _ _)
      have tO := tO0.same s3
      walk_at "zz"
      refine ⟨t.2.1, t.2.2, rfl, tO, (nm t tm).2, fun x hx => cN x (hC t tm x hx), Nat.le_trans (nodup_sub t.2.2 C (nm t tm).2 (hC t tm)) (by omega), fun H4 s4 => ?_⟩
      walk_at "zz"
      refine z_nt ?_
      walk_at "zz"
      exact ⟨_, _, rfl, fun x o e => s4 _ _ (s3 _ _ (k2 x o e))⟩
    · rintro σ' H1 ⟨v1, v2, rfl, k1⟩
      refine ⟨k1 _ _ hL, ?_⟩
      have N1 : Nx No F H F (upd H1 hd (.dK (heldK L))) := nx_unlock sF hh (od := od) (by rw [hHL]; exact k1)
      have hh1 : (upd H1 hd (.dK (heldK L))) hd = some (.dK (heldK L)) := upd_same
      generalize upd H1 hd (.dK (heldK L)) = H2 at N1 hh1 ⊢
      walk_at "zz"
      refine ⟨F, hd, L, C, rfl, N1.sub, hh1, fh, hO, hC, c12, fun p ys F3 H3 N3 hp fh3 hh3 ynd _ ymem => ?_⟩
      have N4 := N1.trans N3
      walk_at "zz"
      refine z_lenL (N3.sub.sql hp) ?_
      rw [List.length_map]
      walk_at "zz"
      have y12 : ys.length ≤ 12 := Nat.le_trans (nodup_sub ys C ynd fun x hx => let ⟨t, ht, h⟩ := (ymem x).mp hx; hC t ht x h) c12
      refine z_ite (fun big => absurd big (by omega)) (fun _ => ?_)
      walk_at "zz"
      refine z_dcm ?_
      walk_at "zz"
      refine ⟨hd, _, L.map (·.1), rfl, .inl hh3, by rw [heldK, List.map_map, List.map_map]; rfl, by rw [List.length_map]; omega, fun zs l pm srt hl => ?_⟩
      have N5 := N4.trans (Nx.lay (M := No) (o := .lst (zs.map V.str)) N4.sub hl)
      have fl := N4.sub.none hl
      have gl : (upd F3 l (.lst (zs.map V.str))) l = some (.lst (zs.map V.str)) := upd_same
      have hh5 := upd_keep (o := .lst (zs.map V.str)) hh3 hl
      have fh5 : (upd F3 l (.lst (zs.map V.str))) hd = none := by rw [upd_ne (ne_of_none hh3 hl)]; exact fh3
      have hO5 : HeldO (upd F3 l (.lst (zs.map V.str))) L := fun t ht => (hO t ht).imp (fun e => upd_keep (N4.mono _ _ e) fl) (fun e => upd_keep (N4.mono _ _ e) fl)
      generalize upd F3 l (.lst (zs.map V.str)) = F5 at N5 gl fh5 hO5
      generalize upd H3 l (.lst (zs.map V.str)) = H5 at N5 hh5 ⊢
      have znd : zs.Nodup := pm.nodup_iff.mpr und
      have zl : zs.length = L.length := by rw [pm.length_eq, List.length_map]
      refine ⟨l, rfl, ⟨_, N5.sub.sql gl⟩, fun D' hD => ?_⟩
      have hD0 := N5.old hD
      have fD := N5.sub.none hD
      refine Sets.dc_it (walk_list (xs := zs.map V.str)) (fun j H' => ∃ (F' : Hp) (M : Hld), Nx No F H F' H' ∧ Sub F5 F' ∧ F' D' = none ∧ F' hd = none ∧ H' hd = some (.dK (heldK L)) ∧ H' D' = some (.dK (heldK M)) ∧ HeldT F' M ∧ M.map (·.1) = zs.take j ∧ ∀ t ∈ M, Srt t.2.2 ∧ t.2.2.Perm (hLf L t.1))
        ⟨F5, [], N5.trans (Nx.mak N5.sub hD), fun _ _ e => e, fD, fh5, upd_keep hh5 hD, upd_same, fun t ht => (by cases ht), rfl, fun t ht => (by cases ht)⟩ (fun j H' _ ⟨F', _, N, s', _⟩ => N.sub.sql (s' _ _ gl)) ?_ ?_
      · rintro j x H6 H7 hj ⟨F6, M, N6, s6, f6, fh6, hh6, hM6, hT6, eM6, ok6⟩ ⟨rfl, hx⟩
        obtain ⟨z, hz, rfl⟩ := at_str hx
        have jl : j < zs.length := (List.getElem?_eq_some_iff.mp hz).1
        have Ml : M.length = j := by
          have := congrArg List.length eM6
          rw [List.length_map, List.length_take] at this
          omega
        have znew : z ∉ M.map (·.1) := by
          rw [eM6]
          intro h
          obtain ⟨i, hi, ei⟩ := List.getElem_of_mem h
          rw [List.length_take] at hi
          rw [List.getElem_take] at ei
          have e2 := (List.getElem?_eq_some_iff.mp hz).2
          have := (List.getElem_inj znd).mp (ei.trans e2.symm)
          omega
        obtain ⟨t, ht, rfl⟩ := List.mem_map.mp (pm.mem_iff.mp (List.mem_of_getElem? hz))
        have et := hLf_of und ht
        have tl := nodup_sub t.2.2 C (nm t ht).2 (hC t ht)
        walk_at "zz"
        refine z_dgetR (.inl hh6) (held_val und ht) ?_
        walk_at "zz"
        refine ⟨t.2.1, t.2.2, rfl, (((hO5 t ht).sub s6).sub N6.sub).sq, by omega, fun us q pu su hq => ?_⟩
        have N7 := N6.trans (Nx.mak (M := No) (o := .lst (us.map V.str)) N6.sub hq)
        have hM7 := upd_keep (o := .lst (us.map V.str)) hM6 hq
        have hh7 := upd_keep (o := .lst (us.map V.str)) hh6 hq
        have hq7 : (upd H7 q (.lst (us.map V.str))) q = some (.lst (us.map V.str)) := upd_same
        generalize upd H7 q (.lst (us.map V.str)) = H8 at N7 hM7 hh7 hq7 ⊢
        refine z_tupL (SqL.of hq7) fun r hr' => ?_
        have fr := N7.sub.none hr'
        have N8 := N7.trans (Nx.lay (M := No) (o := .tup (us.map V.str)) N7.sub hr')
        have hM8 := upd_keep (o := .tup (us.map V.str)) hM7 hr'
        have hh8 := upd_keep (o := .tup (us.map V.str)) hh7 hr'
        have f8 : (upd F6 r (.tup (us.map V.str))) D' = none := by rw [upd_ne (ne_of_none hM7 hr')]; exact f6
        refine ⟨heldK M, key t.1, rfl, hM8, szl (by rw [held_len]; omega), ?_⟩
        rw [held_put (ps := us) znew]
        refine ⟨upd F6 r (.tup (us.map V.str)), M ++ [(t.1, r, us)], N8.wr (.inl hD0) f8, fun x o e => upd_keep (s6 _ _ e) fr, f8, by rw [upd_ne (ne_of_none hh7 hr')]; exact fh6, ?_, upd_same, fun u hu => ?_, by rw [List.map_append, eM6, take_step hz]; rfl, fun u hu => ?_⟩
        · rw [upd_ne (fun z => by rw [z, hD0] at hh; cases hh)]; exact hh8
        · rcases List.mem_append.mp hu with hu | hu
          · exact upd_keep (hT6 u hu) fr
          · rw [List.mem_singleton.mp hu]; exact upd_same
        · rcases List.mem_append.mp hu with hu | hu
          · exact ok6 u hu
          · rw [List.mem_singleton.mp hu]; exact ⟨srt_of su, by rw [et]; exact pu⟩
      · rintro H6 ⟨F6, M, N6, s6, f6, fh6, hh6, hM6, hT6, eM6, ok6⟩
        rw [List.length_map, List.take_length] at eM6
        exact k D' M F6 H6 N6 hD0 f6 hM6 hT6 (by rw [eM6]; exact pm) (by rw [eM6]; exact srt_of srt) ok6 fh6 hh6
end
end EV
end

section
set_option maxHeartbeats 2000000
local macro_rules | `(tactic| walk_at "za") => `(tactic| (first | exact Or.inl ⟨by omega, by omega⟩ | exact Or.inr ⟨by omega, by omega⟩ | exact ⟨by omega, by omega⟩ | exact ⟨by omega, by omega, by omega⟩ | omega))
local macro_rules | `(tactic| walk_at "z") => `(tactic| (first
  | with_reducible refine EV.z_seq ?_ | with_reducible refine EV.z_next ?_ | with_reducible refine EV.z_nx ?_ | with_reducible refine EV.z_rt ?_ | with_reducible refine EV.z_asg ?_ | with_reducible refine EV.z_name ?_
  | with_reducible refine EV.z_drop ?_ | with_reducible refine EV.z_ret ?_ | with_reducible refine EV.z_if ?_
  | ((with_reducible refine EV.z_var (v := ?vv) ?hv ?_); (case hv => exact rfl)) | with_reducible refine EV.z_c ?_ | with_reducible refine EV.z_op ?_ | with_reducible refine EV.z_un ?_ | with_reducible refine EV.z_I0 ?_ | with_reducible refine EV.z_U ?_ | ((with_reducible refine EV.z_I ?hc ?_); (case hc => walk_at "za"))
  | ((with_reducible refine EV.z_eq ?hv ?_); (case hv => exact rfl)) | ((with_reducible refine EV.z_ne ?hv ?_); (case hv => exact rfl))
  | with_reducible refine EV.z_test ?_ | with_reducible refine EV.z_bl ?_ | with_reducible refine EV.z_B ?_ | with_reducible refine EV.z_and ?_ | with_reducible refine EV.z_or ?_ | with_reducible refine EV.z_not ?_ | with_reducible refine EV.z_andV ?_
  | with_reducible refine EV.z_orV ?_ | with_reducible refine EV.z_notV ?_ | with_reducible refine EV.z_ifE ?_ | with_reducible refine EV.z_nil ?_ | with_reducible refine EV.z_cons ?_ | with_reducible refine EV.z_tup ?_ | with_reducible refine EV.z_lst ?_
  | with_reducible refine EV.z_cb ?_ | with_reducible refine EV.z_call ?_ | with_reducible refine EV.z_dget ?_ | with_reducible refine EV.z_dput ?_ | with_reducible refine EV.z_chain ?_ | with_reducible refine EV.z_then ?_ | with_reducible refine EV.z_fld ?_ | with_reducible refine EV.z_bm ?_
  | with_reducible refine EV.z_par ?_ | with_reducible refine EV.z_par3 ?_ | with_reducible refine EV.z_ex2 ?_ | with_reducible refine EV.z_ex3 ?_ | with_reducible refine EV.z_tyes ?_ | ((with_reducible refine EV.z_wipe ?hv ?_); (case hv => exact rfl))
  | with_reducible refine EV.z_lc ?_ | with_reducible refine EV.z_ltS ?_ | with_reducible refine EV.z_disp ?_ | with_reducible refine EV.z_pc ?_ | with_reducible refine EV.z_pn ?_ | with_reducible refine EV.z_m1 ?_ | with_reducible refine EV.z_isS ?_ | with_reducible refine EV.z_sl ?_ | with_reducible refine EV.z_np ?_ | with_reducible refine EV.z_pt ?_ | with_reducible refine EV.z_exI ?_ | with_reducible refine EV.z_is ?_ | with_reducible refine EV.z_istr ?_ | with_reducible refine EV.z_no ?_ | with_reducible refine EV.z_yes ?_ | with_reducible refine EV.z_for ?_ | with_reducible refine EV.z_il ?_ | with_reducible refine EV.z_it ?_ | with_reducible refine EV.z_r1 ?_ | with_reducible refine EV.z_ik ?_ | with_reducible refine EV.z_din ?_ | with_reducible refine EV.z_dnin ?_ | with_reducible refine EV.z_dsd ?_ | with_reducible refine EV.z_gs ?_ | with_reducible refine EV.z_gc ?_ | with_reducible refine EV.z_gn ?_ | with_reducible refine EV.z_turn ?_))
local macro_rules | `(tactic| walk_at "zz") => `(tactic| repeat walk_at "z")
namespace EV
open PySem PySem.Spec PyProof.Rows L2 LiI
abbrev s_clean_leaves : Stmt := top 21
abbrev N_clean_leaves : List Str := ["leaves", "pages", "rows", "told", "row", "page"]
abbrev P_clean_leaves : List Str := ["leaves", "pages"]
theorem sc_clean_leaves : FnScope N_clean_leaves P_clean_leaves (defScope s_clean_leaves) := ⟨rfl, rfl, rfl, by decide +kernel, rfl, by decide +kernel, by decide +kernel⟩
abbrev s_clean_barred : Stmt := top 22
abbrev N_clean_barred : List Str := ["barred", "people", "pair", "one", "other"]
abbrev P_clean_barred : List Str := ["barred", "people"]
theorem sc_clean_barred : FnScope N_clean_barred P_clean_barred (defScope s_clean_barred) := ⟨rfl, rfl, rfl, by decide +kernel, rfl, by decide +kernel, by decide +kernel⟩
theorem new_at {α : Type} {l : List α} (nd : l.Nodup) {i : Nat} {x : α} (h : l[i]? = some x) : x ∉ l.take i := by
  intro m
  obtain ⟨j, hj, ej⟩ := List.getElem_of_mem m
  rw [List.length_take] at hj
  rw [List.getElem_take] at ej
  have il := (List.getElem?_eq_some_iff.mp h).1
  have e2 := (List.getElem?_eq_some_iff.mp h).2
  have := (List.getElem_inj nd).mp (ej.trans e2.symm)
  omega
def lf1 (W : Lvs) (y : Str) : Int := if y ∈ W.map (·.1) then lfn W y else 1
def spCleanLeaves : Sp := fun vs H Q _ => ∃ (F : Hp) (lv pg : Addr) (W : Lvs) (ys : List Str), vs = [.ref lv, .ref pg] ∧ Sub F H ∧ H lv = some (.dK (lvK W)) ∧ F pg = some (.lst (ys.map V.str)) ∧ ys.Nodup ∧ ys.length ≤ 12 ∧ (W.map (·.1)).Nodup ∧ (∀ q ∈ W, q.1 ∈ ys ∧ 1 ≤ q.2 ∧ q.2 ≤ 9) ∧
  ∀ (p : Addr) F' H', Nx No F H F' H' → H p = none → F' p = none → H' p = some (.dK (lvK (ys.map fun y => (y, lf1 W y)))) → Q (.ref p) H'
theorem z_li {te : TE} {σ : L2.St} {H : Hp} {Q : VK} (q : te σ H fun x H1 => rItemsL x H1 Q) : tListItems te σ H Q := q
theorem z_dg2 {td ty tx : TE} {σ : L2.St} {H : Hp} {Q : VK} (q : td σ H fun x H1 => ∃ a, x = .ref a ∧ IsD H1 a ∧ ty σ H1 fun y H2 => tx σ H2 fun z H3 => ∃ o, DGet H3 a y o ∧ Q (o.getD z) H3) : tDGet2 td ty tx σ H Q := q
section
variable {P : Program} {w : World} {K : PySem.W.Frag} {mg : Str → Option Value} {base : Heap}
theorem ok_clean_leaves (T : Txt mg) (c_is_list : C8.Cal P w K mg base 1 "is_list" (spIsList K) []) (c_is_pair : C8.Cal P w K mg base 1 "is_pair" (spIsPair K) []) (c_are_leaves : C8.Cal P w K mg base 2 "are_leaves" spAreLeaves []) {f fd} (D : C8.Def K mg "_clean_leaves" s_clean_leaves f fd) (b : Binds K fd P_clean_leaves []) :
    C8.Cal P w K mg base 3 "_clean_leaves" spCleanLeaves [] := by
  refine C8.cal0 D b .nil sc_clean_leaves (fun vs H Q E h => ?_) (fun cdv A outer s H vs Q E hr h => ?_)
  · obtain ⟨F, lv, pg, W, ys, rfl, _⟩ := h
    rfl
  · obtain ⟨F, lv, pg, W, ys, rfl, sF, hlv, hpg, ynd, y12, wnd, wok, k⟩ := h
    have hu := hu_of hr
    refine ⟨_, (pss_cons (ps_set (i := 2) sc_clean_leaves.nd rfl (Or.inl rfl) (pe_ifExp (pt_val (pe_callB (k_isi K) rfl T.b_isinstance (by decide +kernel) (pa_cons (pv 0) (pa_cons (pe_bltn (v := .ty "dict") rfl T.b_dict (by decide +kernel) rfl) pa_nil)))) (pe_listItems rfl (pv 0) rfl T.b_list (by decide +kernel)) (pv 0)))
  (pss_cons (ps_if (pt_not (pt_val (C8.pe_c c_is_list hr (by decide) rfl (pa_cons (pv 2) pa_nil))))
    (pss_one ps_never)
    pss_nil)
  (pss_cons (ps_set (i := 3) sc_clean_leaves.nd rfl (Or.inr rfl) pe_dnewK)
  (pss_cons (ps_for PassesOwn.never rfl (k_pil K (pv 2)) (pg_name (i := 4) sc_clean_leaves.nd rfl (Or.inl rfl))
    (pss_cons (ps_if (PW.pt (pw_or (pt_not (pt_val (C8.pe_c c_is_pair hr (by decide) rfl (pa_cons (pv 4) pa_nil)))) (pw_or (pt_cmpR (k_notIn K) (pe_ix (k_ixT K) (pv 4) pe_int (fun _ _ => rfl)) (pv 1) rfl) (pw_or1 (pt_not (pt_val (C8.pe_c c_are_leaves hr (by decide) rfl (pa_cons (pe_ix (k_ixT K) (pv 4) pe_int (fun _ _ => rfl)) pa_nil))))))))
    (pss_one ps_never)
    pss_nil)
  (pss_cons (ps_if (pt_cmp (pc_din hu (pe_ix (k_ixT K) (pv 4) pe_int (fun _ _ => rfl)) (pv 3)))
    (pss_one ps_never)
    pss_nil)
  (pss_one (ps_dput hu (pv 3) (pe_ix (k_ixT K) (pv 4) pe_int (fun _ _ => rfl)) (pe_ix (k_ixT K) (pv 4) pe_int (fun _ _ => rfl)) rfl)))))
  (pss_one (ps_ret (pe_dc (own := [("page", 5)]) rfl sc_clean_leaves.nd (k_pil K (pv 1)) (blkOk_by (N := N_clean_leaves) (sc := defScope s_clean_leaves) (by decide +kernel)) (fun _ _ _ _ _ => (pg_name (i := 5) sc_clean_leaves.nd rfl (Or.inl rfl))) (fun _ _ _ _ _ => pts_nil) (fun _ _ _ _ _ => (pv 5)) (fun _ _ _ _ _ => (pe_dget2 hu (pv 3) (pv 5) pe_int ⟨rfl, rfl, rfl, rfl⟩))))))))), ?_⟩
    have wl : W.length ≤ 12 := by
      have := nodup_sub (W.map (·.1)) ys wnd fun x hx => by
        obtain ⟨q, hq, rfl⟩ := List.mem_map.mp hx
        exact (wok q hq).1
      rw [List.length_map] at this
      omega
    walk_at "zz"
    refine z_isi (a := "dict") (r := true) (.base (by constructor; exact hlv)) (by rfl) ?_
    walk_at "zz"
    refine z_li ?_
    walk_at "zz"
    refine ⟨lv, lvK W, rfl, hlv, fun H1 p ts s1 hp hts _ hp1 pr => ?_⟩
    have N1 : Nx No F H F H1 := same_nx (Nx.refl sF) s1
    walk_at "zz"
    refine ⟨p, _, rfl, .inl hp1, fun H2 s2 => ?_⟩
    have N2 := same_nx N1 s2
    have hp2 := s2 _ _ hp1
    walk_at "zz"
    refine z_nt ?_
    walk_at "zz"
    refine fun t ht => ?_
    have t0 := N2.old ht
    have ft := N2.sub.none ht
    have N3 := N2.trans (Nx.mak (M := No) (o := .dK []) N2.sub ht)
    have hp3 := upd_keep (o := .dK []) hp2 ht
    have h3 : (upd H2 t (.dK [])) t = some (.dK (lvK [])) := upd_same
    have k3 : ∀ x o, H2 x = some o → (upd H2 t (.dK [])) x = some o := fun x o e => upd_keep e ht
    generalize upd H2 t (.dK []) = H3 at N3 hp3 h3 k3 ⊢
    have tlen : ts.length = W.length := by rw [pr.length, lv_len]
    walk_at "zz"
    refine z_loopL (xs := ts.map V.ref) (SqL.of hp3) (fun i σ' H' => ∃ v4 v5 : Option V, σ' = [some (.ref lv), some (.ref pg), some (.ref p), some (.ref t), v4, v5] ∧ Nx No F H F H' ∧ (∀ x o, H2 x = some o → H' x = some o) ∧ H' t = some (.dK (lvK (W.take i)))) ⟨none, none, rfl, N3, k3, h3⟩ (fun i σ' H' _ ⟨_, _, _, _, k, _⟩ => SqL.of (k _ _ hp2)) ?_ ?_
    · rintro i v σ' H4 hi ⟨v4, v5, rfl, N4, k4, h4⟩
      obtain ⟨q, hq, rfl⟩ : ∃ q, ts[i]? = some q ∧ v = .ref q := by
        rw [List.getElem?_map] at hi
        cases e : ts[i]? with
        | none => rw [e] at hi; cases hi
        | some q => rw [e] at hi; exact ⟨q, rfl, (Option.some.inj hi).symm⟩
      obtain ⟨kv, hkv, hqt⟩ := L2.paired_get pr hq
      obtain ⟨c, hc, ec⟩ : ∃ c, W[i]? = some c ∧ (key c.1, V.int c.2) = kv := by
        rw [lvK, List.getElem?_map] at hkv
        cases e : W[i]? with
        | none => rw [e] at hkv; cases hkv
        | some c => rw [e] at hkv; exact ⟨c, rfl, Option.some.inj hkv⟩
      subst ec
      have cm := List.mem_of_getElem? hc
      obtain ⟨cin, c1, c9⟩ := wok c cm
      have q4 : H4 q = some (.tup [.str c.1, .int c.2]) := k4 _ _ (s2 _ _ hqt)
      have cnew : c.1 ∉ (W.take i).map (·.1) := by
        rw [List.map_take]
        exact new_at wnd (by rw [List.getElem?_map, hc]; rfl)
      walk_at "zz"
      refine ⟨q, _, rfl, q4, rfl, fun H5 s5 => ?_⟩
      walk_at "zz"
      refine z_nt ?_
      have q5 := s5 _ _ q4
      walk_at "zz"
      refine z_ixT (i := 0) (SqT.of q5) (atI_nat (j := 0) (by rfl)) ?_
      walk_at "zz"
      have N5 := same_nx N4 s5
      refine z_ninS (N5.sub.sql hpg) ?_
      rw [decide_eq_true cin]
      walk_at "zz"
      refine z_nt ?_
      walk_at "zz"
      refine z_ixT (i := 1) (SqT.of q5) (atI_nat (j := 1) (by rfl)) ?_
      walk_at "zz"
      refine ⟨c.2, rfl, c1, c9, fun H6 s6 => ?_⟩
      walk_at "zz"
      refine z_nt ?_
      have N6 := same_nx N5 s6
      have q6 := s6 _ _ q5
      have h6 := s6 _ _ (s5 _ _ h4)
      walk_at "zz"
      refine z_ixT (i := 0) (SqT.of q6) (atI_nat (j := 0) (by rfl)) ?_
      walk_at "zz"
      refine z_dgo (.inl h6) ?_
      rw [lv_some, decide_eq_false cnew]
      walk_at "zz"
      refine z_ixT (i := 1) (SqT.of q6) (atI_nat (j := 1) (by rfl)) ?_
      walk_at "zz"
      refine z_ixT (i := 0) (SqT.of q6) (atI_nat (j := 0) (by rfl)) ?_
      refine z_dputS h6 (szl (by rw [lv_len, List.length_take]; omega)) (lv_put cnew) ?_
      walk_at "zz"
      refine ⟨_, _, rfl, N6.wr (.inl t0) ft, fun x o e => ?_, ?_⟩
      · rw [upd_ne (ne_of_none e ht)]
        exact s6 _ _ (s5 _ _ (k4 x o e))
      · rw [upd_same, take_step hc]
    · rintro σ' H4 ⟨v4, v5, rfl, N4, k4, h4⟩
      rw [List.length_map, tlen, List.take_length] at h4
      walk_at "zz"
      refine z_dcm ?_
      walk_at "zz"
      refine ⟨pg, rfl, ⟨_, N4.sub.sql hpg⟩, fun D' hD => ?_⟩
      have hD0 := N4.old hD
      have fD := N4.sub.none hD
      have tD : t ≠ D' := ne_of_none h4 hD
      refine Sets.dc_it (walk_list (xs := ys.map V.str)) (fun j H' => Nx No F H F H' ∧ H' t = some (.dK (lvK W)) ∧ H' D' = some (.dK (lvK ((ys.take j).map fun y => (y, lf1 W y))))) ⟨N4.trans (Nx.mak N4.sub hD), upd_keep h4 hD, upd_same⟩ (fun j H' _ h => h.1.sub.sql hpg) ?_ ?_
      · rintro j v H5 H6 hj ⟨N5, h5, d5⟩ ⟨rfl, hx⟩
        obtain ⟨y, hy, rfl⟩ := at_str hx
        have jl := (List.getElem?_eq_some_iff.mp hy).1
        walk_at "zz"
        refine z_dg2 ?_
        walk_at "zz"
        refine ⟨t, rfl, .inl ⟨_, .inl h5⟩, ?_⟩
        walk_at "zz"
        refine ⟨valV (lvK W) (key y), .inl ⟨_, key y, .inl h5, rfl, rfl⟩, ?_⟩
        have val : (valV (lvK W) (key y)).getD (.int 1) = .int (lf1 W y) := by
          unfold lf1
          by_cases h : y ∈ W.map (·.1)
          · rw [lv_val h, if_pos h]; rfl
          · rw [lv_none h, if_neg h]; rfl
        rw [val]
        have ynew : y ∉ ((ys.take j).map fun y => (y, lf1 W y)).map (·.1) := by
          rw [List.map_map]
          intro h
          obtain ⟨u, hu, eu⟩ := List.mem_map.mp h
          have eu' : u = y := eu
          subst eu'
          obtain ⟨i, hi, ei⟩ := List.getElem_of_mem hu
          rw [List.length_take] at hi
          rw [List.getElem_take] at ei
          have e2 := (List.getElem?_eq_some_iff.mp hy).2
          have := (List.getElem_inj ynd).mp (ei.trans e2.symm)
          omega
        refine ⟨_, key y, rfl, d5, szl (by rw [lv_len, List.length_map, List.length_take]; omega), N5.wr (.inl hD0) fD, by rw [upd_ne tD]; exact h5, ?_⟩
        rw [upd_same, lv_put ynew, take_step hy, List.map_append]; rfl
      · rintro H5 ⟨N5, h5, d5⟩
        rw [List.length_map, List.take_length] at d5
        exact k D' F H5 N5 hD0 fD d5
end
def pr2 : List Str → Str × Str
  | [a, b] => (a, b)
  | _ => ("", "")
/-- rising pairs, rising -/
def RisP (cs : Bars) : Prop := cs.Pairwise fun u v => Sets.ltP u.2 v.2 = true
def spCleanBarred (K : PySem.W.Frag) : Sp := fun vs H Q _ => ∃ (F : Hp) (br fl : Addr) (bs : Bars) (ns : List Str), vs = [.ref br, .ref fl] ∧ Sub F H ∧ F br = some (.lst (bs.map fun t => V.ref t.1)) ∧ BarsA F bs ∧ bs.length ≤ 36 ∧ F fl = some (.lst (ns.map V.str)) ∧ (∀ t ∈ bs, t.2.1 ∈ ns ∧ t.2.2 ∈ ns ∧ slt t.2.1 t.2.2) ∧
  ∀ (p : Addr) (cs : Bars) F' H', Nx No F H F' H' → F' p = some (.lst (cs.map fun t => V.ref t.1)) → BarsA F' cs → RisP cs → (∀ q, q ∈ cs.map (·.2) ↔ q ∈ bs.map (·.2)) → cs.length ≤ 36 → Q (.ref p) H'
section
variable {P : Program} {w : World} {K : PySem.W.Frag} {mg : Str → Option Value} {base : Heap}
theorem ok_clean_barred (T : Txt mg) (c_is_list : C8.Cal P w K mg base 1 "is_list" (spIsList K) []) (c_is_pair : C8.Cal P w K mg base 1 "is_pair" (spIsPair K) []) (c_rising_pair : C8.Cal P w K mg base 1 "rising_pair" spRising []) {f fd} (D : C8.Def K mg "_clean_barred" s_clean_barred f fd) (b : Binds K fd P_clean_barred []) :
    C8.Cal P w K mg base 2 "_clean_barred" (spCleanBarred K) [] := by
  refine C8.cal0 D b .nil sc_clean_barred (fun vs H Q E h => ?_) (fun cdv A outer s H vs Q E hr h => ?_)
  · obtain ⟨F, br, fl, bs, ns, rfl, _⟩ := h
    rfl
  · obtain ⟨F, br, fl, bs, ns, rfl, sF, hbr, hba, b36, hfl, bk, k⟩ := h
    have hu := hu_of hr
    refine ⟨_, (pss_cons (ps_if (pt_not (pt_val (C8.pe_c c_is_list hr (by decide) rfl (pa_cons (pv 0) pa_nil))))
    (pss_one ps_never)
    pss_nil)
  (pss_cons (ps_for PassesOwn.never rfl (k_pil K (pv 0)) (pg_name (i := 2) sc_clean_barred.nd rfl (Or.inl rfl))
    (pss_cons (ps_if (PW.pt (pw_or (pt_not (pt_val (C8.pe_c c_is_pair hr (by decide) rfl (pa_cons (pv 2) pa_nil)))) (pw_or (pt_cmpR (k_notIn K) (pe_ix (k_ixT K) (pv 2) pe_int (fun _ _ => rfl)) (pv 1) rfl) (pw_or1 (pt_cmpR (k_notIn K) (pe_ix (k_ixT K) (pv 2) pe_int (fun _ _ => rfl)) (pv 1) rfl)))))
    (pss_one ps_never)
    pss_nil)
  (pss_one (ps_if (pt_cmpR op_eq (pe_ix (k_ixT K) (pv 2) pe_int (fun _ _ => rfl)) (pe_ix (k_ixT K) (pv 2) pe_int (fun _ _ => rfl)) (nomark _))
    (pss_one ps_never)
    pss_nil))))
  (pss_one (ps_ret (pe_callB (Sets.cr_sortP K P w rfl) rfl T.b_sorted (by decide +kernel) (pa_cons (Sets.pe_sc1 (own := [("one", 3), ("other", 4)]) (Sets.adP_ok P w K _ hr.units) rfl sc_clean_barred.nd (k_pil K (pv 0)) (blkOk_by (N := N_clean_barred) (sc := defScope s_clean_barred) (by decide +kernel)) (fun _ _ _ _ _ => (k_pgt K 2 rfl (pgs_cons (pg_name (i := 3) sc_clean_barred.nd rfl (Or.inl rfl)) (pgs_cons (pg_name (i := 4) sc_clean_barred.nd rfl (Or.inl rfl)) pgs_nil)))) (fun _ _ _ _ _ => pts_nil) (fun _ _ _ _ _ => (C8.pe_c c_rising_pair hr (by decide) rfl (pa_cons (pv 3) (pa_cons (pv 4) pa_nil))))) pa_nil)))))), ?_⟩
    walk_at "zz"
    refine ⟨br, _, rfl, .inl (sF _ _ hbr), fun H1 s1 => ?_⟩
    have N1 : Nx No F H F H1 := same_nx (Nx.refl sF) s1
    walk_at "zz"
    refine z_nt ?_
    walk_at "zz"
    have at' : ∀ {i : Nat} {v : V}, (bs.map fun t => V.ref t.1)[i]? = some v → ∃ t, bs[i]? = some t ∧ v = .ref t.1 := fun {i v} hi => by
      rw [List.getElem?_map] at hi
      cases e : bs[i]? with
      | none => rw [e] at hi; cases hi
      | some t => rw [e] at hi; exact ⟨t, rfl, (Option.some.inj hi).symm⟩
    refine z_loopL (xs := bs.map fun t => V.ref t.1) (N1.sub.sql hbr) (fun i σ' H' => ∃ v2 v3 v4 : Option V, σ' = [some (.ref br), some (.ref fl), v2, v3, v4] ∧ Nx No F H F H') ⟨none, none, none, rfl, N1⟩ (fun i σ' H' _ ⟨_, _, _, _, N⟩ => N.sub.sql hbr) ?_ ?_
    · rintro i v σ' H2 hi ⟨v2, v3, v4, rfl, N2⟩
      obtain ⟨t, ht, rfl⟩ := at' hi
      have tm := List.mem_of_getElem? ht
      obtain ⟨m1, m2, lt⟩ := bk t tm
      walk_at "zz"
      refine ⟨t.1, _, rfl, N2.sub _ _ (hba t tm), rfl, fun H3 s3 => ?_⟩
      have N3 := same_nx N2 s3
      walk_at "zz"
      refine z_nt ?_
      walk_at "zz"
      refine z_ixT (i := 0) (N3.sub.sqt (hba t tm)) (atI_nat (j := 0) (by rfl)) ?_
      walk_at "zz"
      refine z_ninS (N3.sub.sql hfl) ?_
      rw [decide_eq_true m1]
      walk_at "zz"
      refine z_nt ?_
      walk_at "zz"
      refine z_ixT (i := 1) (N3.sub.sqt (hba t tm)) (atI_nat (j := 1) (by rfl)) ?_
      walk_at "zz"
      refine z_ninS (N3.sub.sql hfl) ?_
      rw [decide_eq_true m2]
      walk_at "zz"
      refine z_nt ?_
      walk_at "zz"
      refine z_ixT (i := 0) (N3.sub.sqt (hba t tm)) (atI_nat (j := 0) (by rfl)) ?_
      walk_at "zz"
      refine z_ixT (i := 1) (N3.sub.sqt (hba t tm)) (atI_nat (j := 1) (by rfl)) ?_
      walk_at "zz"
      refine z_ite (fun e => absurd (V.str.inj e) (slt_ne lt)) (fun _ => ?_)
      walk_at "zz"
      exact ⟨_, _, _, rfl, N3⟩
    · rintro σ' H2 ⟨v2, v3, v4, rfl, N2⟩
      walk_at "zz"
      refine z_sct ?_
      walk_at "zz"
      refine ⟨br, rfl, ⟨_, N2.sub.sql hbr⟩, fun S hS => ?_⟩
      have hS0 := N2.old hS
      have fS := N2.sub.none hS
      refine Sets.turns_of (walk_list (xs := bs.map fun t => V.ref t.1)) (fun j H' => ∃ (F' : Hp) (L : List (Addr × List Str)), Nx No F H F' H' ∧ Sub F F' ∧ F' S = none ∧ H' S = some (Sets.SetPO P w S L) ∧ (∀ q ∈ L, ∃ a b, q.2 = [a, b] ∧ F' q.1 = some (.tup [.str a, .str b])) ∧ L.length ≤ j ∧
        ∀ q, q ∈ L.map (·.2) ↔ ∃ t ∈ bs.take j, q = [t.2.1, t.2.2])
        ⟨F, [], N2.trans (Nx.mak N2.sub hS), fun _ _ e => e, fS, upd_same, fun q hq => (by cases hq), by simp, fun q => by simp⟩ (fun j H' _ ⟨F', L, N, s', _⟩ => N.sub.sql (s' _ _ hbr)) ?_ ?_
      · rintro j v H3 H4 hj ⟨F3, L, N3, s3, f3, h3, t3, l3, m3⟩ ⟨rfl, hx⟩
        obtain ⟨t, ht, rfl⟩ := at' hx
        have tm := List.mem_of_getElem? ht
        obtain ⟨m1, m2, lt⟩ := bk t tm
        rw [List.length_map] at hj
        refine z_gt (N3.sub.sqt (s3 _ _ (hba t tm))) rfl ?_
        walk_at "zz"
        refine ⟨F3, t.2.1, t.2.2, rfl, N3.sub, slt_ne lt, fun p F5 H5 a b N5 hp lab e => ?_⟩
        obtain ⟨rfl, rfl⟩ : a = t.2.1 ∧ b = t.2.2 := by
          rcases e with e | ⟨rfl, rfl⟩
          · exact e
          · exact absurd lab (slt_asymm lt)
        have h5 := N5.keep _ _ h3 fun k => k
        refine ⟨p, [t.2.1, t.2.2], L, rfl, N5.sub.sqt hp, h5, fun q hq => ?_, by omega, fun L' c1 c2 => ?_⟩
        · obtain ⟨a, b, e, h⟩ := t3 q hq
          rw [e]; exact N5.sub.sqt (N5.mono _ _ h)
        · have f5 := N5.new _ (some_ne h3) f3
          refine ⟨F5, L', (N3.trans N5).wr (.inl hS0) f5, fun x o h => N5.mono _ _ (s3 x o h), f5, upd_same, fun q hq => ?_, ?_, fun q => ?_⟩
          · by_cases h : [t.2.1, t.2.2] ∈ L.map (·.2)
            · rw [c1 h] at hq
              obtain ⟨a, b, e, h⟩ := t3 q hq
              exact ⟨a, b, e, N5.mono _ _ h⟩
            · rcases List.mem_cons.mp ((c2 h).mem_iff.mp hq) with rfl | hq
              · exact ⟨_, _, rfl, hp⟩
              · obtain ⟨a, b, e, h⟩ := t3 q hq
                exact ⟨a, b, e, N5.mono _ _ h⟩
          · by_cases h : [t.2.1, t.2.2] ∈ L.map (·.2)
            · rw [c1 h]; omega
            · rw [(c2 h).length_eq, List.length_cons]; omega
          · rw [take_step ht]
            by_cases h : [t.2.1, t.2.2] ∈ L.map (·.2)
            · rw [c1 h, m3 q]
              refine ⟨fun ⟨u, hu, e⟩ => ⟨u, List.mem_append_left _ hu, e⟩, fun ⟨u, hu, e⟩ => ?_⟩
              rcases List.mem_append.mp hu with hu | hu
              · exact ⟨u, hu, e⟩
              · rw [List.mem_singleton.mp hu] at e
                rw [e]; exact (m3 _).mp h
            · rw [((c2 h).map (·.2)).mem_iff, List.map_cons, List.mem_cons, m3 q]
              constructor
              · rintro (rfl | ⟨u, hu, e⟩)
                · exact ⟨t, List.mem_append_right _ (List.mem_singleton.mpr rfl), rfl⟩
                · exact ⟨u, List.mem_append_left _ hu, e⟩
              · rintro ⟨u, hu, e⟩
                rcases List.mem_append.mp hu with hu | hu
                · exact .inr ⟨u, hu, e⟩
                · rw [List.mem_singleton.mp hu] at e; exact .inl e
      · rintro H3 ⟨F3, L, N3, s3, f3, h3, t3, l3, m3⟩
        rw [List.length_map] at l3 m3
        rw [List.take_length] at m3
        walk_at "zz"
        refine ⟨S, L, rfl, h3, fun q hq => ?_, fun M p pm pw hp => ?_⟩
        · obtain ⟨a, b, e, h⟩ := t3 q hq
          exact ⟨a, b, e, N3.sub.sqt h⟩
        · have N4 := N3.trans (Nx.lay (M := No) (o := .lst (M.map fun q => V.ref q.1)) N3.sub hp)
          have fp := N3.sub.none hp
          have two : ∀ q ∈ M, q.2 = [(pr2 q.2).1, (pr2 q.2).2] ∧ F3 q.1 = some (.tup [.str (pr2 q.2).1, .str (pr2 q.2).2]) := fun q hq => by
            obtain ⟨a, b, e, h⟩ := t3 q (pm.mem_iff.mp hq)
            rw [e]; exact ⟨rfl, h⟩
          refine k p (M.map fun q => (q.1, pr2 q.2)) _ _ N4 (by rw [upd_same, List.map_map]; rfl) (fun u hu => ?_) ?_ (fun q => ?_) (by rw [List.length_map, pm.length_eq]; omega)
          · obtain ⟨q, hq, rfl⟩ := List.mem_map.mp hu
            exact upd_keep (two q hq).2 fp
          · refine List.pairwise_map.mpr (pw.imp_of_mem fun {u v} hu hv h => ?_)
            exact h _ _ _ _ (two u hu).1 (two v hv).1
          · rw [List.map_map]
            constructor
            · intro h
              obtain ⟨u, hu, e⟩ := List.mem_map.mp h
              obtain ⟨t, ht, et⟩ := (m3 u.2).mp (List.mem_map_of_mem (pm.mem_iff.mp hu))
              have e' : pr2 u.2 = q := e
              rw [et] at e'
              rw [← e']
              exact List.mem_map_of_mem ht
            · intro h
              obtain ⟨t, ht, rfl⟩ := List.mem_map.mp h
              obtain ⟨u, hu, e⟩ := List.mem_map.mp ((m3 [t.2.1, t.2.2]).mpr ⟨t, ht, rfl⟩)
              exact List.mem_map.mpr ⟨u, pm.mem_iff.mpr hu, by show pr2 u.2 = t.2; rw [e]; rfl⟩
end
end EV
end

section
set_option maxHeartbeats 2000000
local macro_rules | `(tactic| walk_at "za") => `(tactic| (first | exact Or.inl ⟨by omega, by omega⟩ | exact Or.inr ⟨by omega, by omega⟩ | exact ⟨by omega, by omega⟩ | exact ⟨by omega, by omega, by omega⟩ | omega))
local macro_rules | `(tactic| walk_at "z") => `(tactic| (first
  | with_reducible refine EV.z_seq ?_ | with_reducible refine EV.z_next ?_ | with_reducible refine EV.z_nx ?_ | with_reducible refine EV.z_rt ?_ | with_reducible refine EV.z_asg ?_ | with_reducible refine EV.z_name ?_
  | with_reducible refine EV.z_drop ?_ | with_reducible refine EV.z_ret ?_ | with_reducible refine EV.z_if ?_
  | ((with_reducible refine EV.z_var (v := ?vv) ?hv ?_); (case hv => exact rfl)) | with_reducible refine EV.z_c ?_ | with_reducible refine EV.z_op ?_ | with_reducible refine EV.z_un ?_ | with_reducible refine EV.z_I0 ?_ | with_reducible refine EV.z_U ?_ | ((with_reducible refine EV.z_I ?hc ?_); (case hc => walk_at "za"))
  | ((with_reducible refine EV.z_eq ?hv ?_); (case hv => exact rfl)) | ((with_reducible refine EV.z_ne ?hv ?_); (case hv => exact rfl))
  | with_reducible refine EV.z_test ?_ | with_reducible refine EV.z_bl ?_ | with_reducible refine EV.z_B ?_ | with_reducible refine EV.z_and ?_ | with_reducible refine EV.z_or ?_ | with_reducible refine EV.z_not ?_ | with_reducible refine EV.z_andV ?_
  | with_reducible refine EV.z_orV ?_ | with_reducible refine EV.z_notV ?_ | with_reducible refine EV.z_ifE ?_ | with_reducible refine EV.z_nil ?_ | with_reducible refine EV.z_cons ?_ | with_reducible refine EV.z_tup ?_ | with_reducible refine EV.z_lst ?_
  | with_reducible refine EV.z_cb ?_ | with_reducible refine EV.z_call ?_ | with_reducible refine EV.z_dget ?_ | with_reducible refine EV.z_dput ?_ | with_reducible refine EV.z_chain ?_ | with_reducible refine EV.z_then ?_ | with_reducible refine EV.z_fld ?_ | with_reducible refine EV.z_bm ?_
  | with_reducible refine EV.z_par ?_ | with_reducible refine EV.z_par3 ?_ | with_reducible refine EV.z_ex2 ?_ | with_reducible refine EV.z_ex3 ?_ | with_reducible refine EV.z_tyes ?_ | ((with_reducible refine EV.z_wipe ?hv ?_); (case hv => exact rfl))
  | with_reducible refine EV.z_lc ?_ | with_reducible refine EV.z_ltS ?_ | with_reducible refine EV.z_disp ?_ | with_reducible refine EV.z_pc ?_ | with_reducible refine EV.z_pn ?_ | with_reducible refine EV.z_m1 ?_ | with_reducible refine EV.z_isS ?_ | with_reducible refine EV.z_sl ?_ | with_reducible refine EV.z_np ?_ | with_reducible refine EV.z_pt ?_ | with_reducible refine EV.z_exI ?_ | with_reducible refine EV.z_is ?_ | with_reducible refine EV.z_istr ?_ | with_reducible refine EV.z_no ?_ | with_reducible refine EV.z_yes ?_ | with_reducible refine EV.z_for ?_ | with_reducible refine EV.z_il ?_ | with_reducible refine EV.z_it ?_ | with_reducible refine EV.z_r1 ?_ | with_reducible refine EV.z_ik ?_ | with_reducible refine EV.z_din ?_ | with_reducible refine EV.z_dnin ?_ | with_reducible refine EV.z_dsd ?_ | with_reducible refine EV.z_gs ?_ | with_reducible refine EV.z_gc ?_ | with_reducible refine EV.z_gn ?_ | with_reducible refine EV.z_turn ?_))
local macro_rules | `(tactic| walk_at "zz") => `(tactic| repeat walk_at "z")
/-! ### fields that are written, a class made by its name -/
namespace EV
open PySem PySem.Spec PyProof.Rows L2
theorem k_sfld (K : PySem.W.Frag) {X : Cx} {o value : Expr} {ta tv : TE} {f : Str} {pos pos' : Pos} (ha : PE X o ta) (hv : PE X value tv) (hs : swapsWith value (some (.Attribute o f pos')) pos.line X.env = pure false := by rfl) (hK : X.K = K := by rfl) : PS X (.Assign [.Attribute o f pos'] value pos) (sFld K ta tv f) := by subst hK; exact ps_fld ha hv hs
theorem z_sfl {K : PySem.W.Frag} {ta tv : TE} {f : Str} {D : Ends} {σ : L2.St} {H : Hp} (q : tv σ H fun y H1 => ta σ H1 fun x H2 => ∃ a C dx fs, x = .ref a ∧ H2 a = some (.ins C dx fs) ∧ Cls K C ∧ NoAttr K C f ∧ fs.length < 1000 ∧ D.nx σ (upd H2 a (.ins C dx (putF f y fs)))) : sFld K ta tv f D σ H := q
abbrev s_Group___init__ : Stmt := inClass (top 23) 0
abbrev N_Group___init__ : List Str := ["self", "held", "leaves", "barred"]
abbrev P_Group___init__ : List Str := ["self", "held", "leaves", "barred"]
theorem sc_Group___init__ : FnScope N_Group___init__ P_Group___init__ (defScope s_Group___init__) := ⟨rfl, rfl, rfl, by decide +kernel, rfl, by decide +kernel, by decide +kernel⟩
/-- what the class is like -/
structure GCls (K : PySem.W.Frag) (C : Addr) : Prop where
  cls : Cls K C
  held : NoAttr K C "_held"
  leaves : NoAttr K C "_leaves"
  barred : NoAttr K C "_barred"
/-- a group that stands: its parts laid down -/
structure Gp (F : Hp) (C : Addr) (x hd lv br : Addr) (M : Hld) (W : Lvs) (cs : Bars) : Prop where
  hx : ∃ dx, F x = some (.ins C dx [("_held", .ref hd), ("_leaves", .ref lv), ("_barred", .ref br)])
  hh : F hd = some (.dK (heldK M))
  hv : F lv = some (.dK (lvK W))
  hb : F br = some (.lst (cs.map fun t => V.ref t.1))
  ba : BarsA F cs
  ht : HeldT F M
/-- in order -/
structure GD (M : Hld) (W : Lvs) (cs : Bars) : Prop where
  d : WD M W cs
  names : Srt (M.map (·.1))
  pages : ∀ t ∈ M, Srt t.2.2
  lvs : Srt (W.map (·.1))
  bars : RisP cs
/-- the group made of what is handed in agrees with it -/
structure Cor (L : Hld) (W : Lvs) (bs : Bars) (M : Hld) (W' : Lvs) (cs : Bars) : Prop where
  names : (M.map (·.1)).Perm (L.map (·.1))
  pages : ∀ t ∈ M, t.2.2.Perm (hLf L t.1)
  lvs : ∀ x, x ∈ W'.map (·.1) → lfn W' x = lfn W x
  bars : ∀ q, q ∈ cs.map (·.2) ↔ q ∈ bs.map (·.2)
def spInit (C : Addr) : Sp := fun vs H Q _ => ∃ (F : Hp) (x dx hd lv br : Addr) (L : Hld) (W : Lvs) (bs : Bars), vs = [.ref x, .ref hd, .ref lv, .ref br] ∧ H x = some (.ins C dx []) ∧ Sub F H ∧ F x = none ∧ H hd = some (.dK (heldK L)) ∧ F hd = none ∧ hd ≠ x ∧ H lv = some (.dK (lvK W)) ∧ F br = some (.lst (bs.map fun t => V.ref t.1)) ∧ BarsA F bs ∧ HeldO F L ∧ WD L W bs ∧
  ∀ (h1 l1 b1 : Addr) (M : Hld) (W' : Lvs) (cs : Bars) F' H', Nx No F (wo H x x) F' H' → Gp F' C x h1 l1 b1 M W' cs → GD M W' cs → Cor L W bs M W' cs → Q .non H'
section
variable {P : Program} {w : World} {K : PySem.W.Frag} {mg : Str → Option Value} {base : Heap}
theorem ok_init (T : Txt mg) {C : Addr} (G : GCls K C) (c_clean_held : C8.Cal P w K mg base 3 "_clean_held" spCleanHeld []) (c_pages_in : C8.Cal P w K mg base 1 "_pages_in" spPagesIn []) (c_clean_leaves : C8.Cal P w K mg base 3 "_clean_leaves" spCleanLeaves []) (c_clean_barred : C8.Cal P w K mg base 2 "_clean_barred" (spCleanBarred K) [])
    {f fd} (D : C8.Fun K "__init__" "Group.__init__" s_Group___init__ f fd) : FnOk P w K mg base C8.CX0 4 f fd P_Group___init__ (spInit C) := by
  refine C8.fn0 D sc_Group___init__ (fun vs H Q E h => ?_) (fun cdv A outer s H vs Q E hr h => ?_)
  · obtain ⟨F, x, dx, hd, lv, br, L, W, bs, rfl, _⟩ := h
    rfl
  · obtain ⟨F, x, dx, hd, lv, br, L, W, bs, rfl, hx, sF, fx, hh, fh, nxh, hlv, hbr, hba, hO, D, k⟩ := h
    have hu := hu_of hr
    refine ⟨_, (pss_cons (k_sfld K (pv 0) (C8.pe_c c_clean_held hr (by decide) rfl (pa_cons (pv 1) pa_nil)))
  (pss_cons (k_sfld K (pv 0) (C8.pe_c c_clean_leaves hr (by decide) rfl (pa_cons (pv 2) (pa_cons (C8.pe_c c_pages_in hr (by decide) rfl (pa_cons (k_fld K (pv 0)) pa_nil)) pa_nil))))
  (pss_one (k_sfld K (pv 0) (C8.pe_c c_clean_barred hr (by decide) rfl (pa_cons (pv 3) (pa_cons (pe_callTy (call_listD rfl) rfl T.b_list (by decide +kernel) (pa_cons (k_fld K (pv 0)) pa_nil)) pa_nil))))))), ?_⟩
    have H0x : wo H x x x = none := wo_l
    have sF0 : Sub F (wo H x x) := fun a o e => by
      have ax : a ≠ x := fun z => by rw [z, fx] at e; cases e
      rw [wo_ne ax ax]; exact sF a o e
    have Z0 : Nx No F (wo H x x) F H := ⟨sF, fun _ _ e => e, fun _ _ e => e, fun a o e _ => wo_some e, fun a h => by
      cases e : wo H x x a with
      | none => exact absurd e h
      | some o => exact some_ne (wo_some e)⟩
    have old0 : ∀ {a}, H a = none → wo H x x a = none := fun {a} e => by
      cases z : wo H x x a with
      | none => rfl
      | some o => rw [wo_some z] at e; cases e
    generalize wo H x x = H0 at H0x sF0 Z0 old0 k
    have cW : ∀ t ∈ L, ∀ y ∈ t.2.2, y ∈ W.map (·.1) := fun t ht => (D.ok ht).2
    have wl := D.wl
    have l6 := D.n6
    have l1 := D.n1
    walk_at "zz"
    refine z_sfl ?_
    walk_at "zz"
    refine ⟨F, hd, L, W.map (·.1), rfl, sF, hh, fh, hO, cW, by rw [List.length_map]; exact wl, fun y hy => D.wNm hy, l1, l6, D.nd, fun t ht => ⟨D.nm t ht, (D.ok ht).1⟩, fun p M F1 H1 N1 hp fp1 hM hT pm srt okM _ _ => ?_⟩
    have Z1 := Z0.trans N1
    have fx1 := N1.new x (some_ne hx) fx
    have px : p ≠ x := fun z => by rw [z, hx] at hp; cases hp
    walk_at "zz"
    refine ⟨x, C, dx, [], rfl, N1.keep _ _ hx (fun k => k), G.cls, G.held, by show 0 < 1000; decide, ?_⟩
    have Z2 := Z1.wr (o := .ins C dx (putF "_held" (.ref p) [])) (.inl H0x) fx1
    have h2x : (upd H1 x (.ins C dx (putF "_held" (.ref p) []))) x = some (.ins C dx [("_held", .ref p)]) := by rw [upd_same]; rfl
    have h2p : (upd H1 x (.ins C dx (putF "_held" (.ref p) []))) p = some (.dK (heldK M)) := by rw [upd_ne px]; exact hM
    have h2l : (upd H1 x (.ins C dx (putF "_held" (.ref p) []))) lv = some (.dK (lvK W)) := by
      rw [upd_ne (ne_of hlv hx (fun z => nomatch z))]
      exact N1.keep _ _ hlv (fun k => k)
    generalize upd H1 x (.ins C dx (putF "_held" (.ref p) [])) = H2 at Z2 h2x h2p h2l ⊢
    -- the people and pages of the one are those of the other
    have Mnd : (M.map (·.1)).Nodup := pm.nodup_iff.mpr D.nd
    have Ml : M.length = L.length := by have := pm.length_eq; rwa [List.length_map, List.length_map] at this
    have pgs : ∀ t ∈ M, ∃ u ∈ L, u.1 = t.1 ∧ t.2.2.Perm u.2.2 := fun t ht => by
      obtain ⟨u, hu, e, eh⟩ := D.at (pm.mem_iff.mp (List.mem_map_of_mem ht))
      exact ⟨u, hu, e, by rw [← eh]; exact (okM t ht).2⟩
    have pgs' : ∀ u ∈ L, ∃ t ∈ M, t.2.2.Perm u.2.2 := fun u hu => by
      obtain ⟨t, ht, e⟩ := List.mem_map.mp (pm.mem_iff.mpr (List.mem_map_of_mem hu))
      exact ⟨t, ht, by have := (okM t ht).2; rwa [e, hLf_of D.nd hu] at this⟩
    walk_at "zz"
    refine z_sfl ?_
    walk_at "zz"
    refine ⟨x, C, dx, _, .ref p, rfl, h2x, G.cls, G.held, rfl, ?_⟩
    walk_at "zz"
    refine ⟨F1, p, M, W.map (·.1), rfl, Z2.sub, h2p, fp1, fun t ht => .inr (hT t ht), fun t ht y hy => ?_, by rw [List.length_map]; exact wl, fun q ys F3 H3 N3 hq fp3 h3p ynd ysrt ymem => ?_⟩
    · obtain ⟨u, hu, _, e⟩ := pgs t ht
      exact cW u hu y (e.mem_iff.mp hy)
    have Z3 := Z2.trans N3
    have fx3 := N3.new x (some_ne h2x) fx1
    have h3x := N3.keep _ _ h2x fun k => k
    have h3l := N3.keep _ _ h2l fun k => k
    have yW : ∀ y, y ∈ ys ↔ y ∈ W.map (·.1) := fun y => by
      rw [ymem y]
      constructor
      · rintro ⟨t, ht, hy⟩
        obtain ⟨u, hu, _, e⟩ := pgs t ht
        exact cW u hu y (e.mem_iff.mp hy)
      · intro hy
        obtain ⟨q, hq, rfl⟩ := List.mem_map.mp hy
        obtain ⟨u, hu, hy⟩ := D.wh hq
        obtain ⟨t, ht, e⟩ := pgs' u hu
        exact ⟨t, ht, e.mem_iff.mpr hy⟩
    have yl : ys.length ≤ 12 := by
      have := nodup_sub ys (W.map (·.1)) ynd fun y hy => (yW y).mp hy
      rw [List.length_map] at this; omega
    walk_at "zz"
    refine ⟨F3, lv, q, W, ys, rfl, N3.sub, h3l, hq, ynd, yl, D.wn, fun c hc => ⟨(yW _).mpr (List.mem_map_of_mem hc), D.w19 hc⟩, fun r F4 H4 N4 hr0 f4 h4r => ?_⟩
    have Z4 := Z3.trans N4
    have fx4 := N4.new x (some_ne h3x) fx3
    have h4x := N4.keep _ _ h3x fun k => k
    have h4p := N4.keep _ _ h3p fun k => k
    have fp4 := N4.new p (some_ne h3p) fp3
    have rx : r ≠ x := fun z => by rw [z, h3x] at hr0; cases hr0
    have rp : r ≠ p := fun z => by rw [z, h3p] at hr0; cases hr0
    have r0 : H0 r = none := Z3.old hr0
    walk_at "zz"
    refine ⟨x, C, dx, _, rfl, h4x, G.cls, G.leaves, by show 1 < 1000; decide, ?_⟩
    have Z5 := Z4.wr (o := .ins C dx (putF "_leaves" (.ref r) [("_held", .ref p)])) (.inl H0x) fx4
    have h5x : (upd H4 x (.ins C dx (putF "_leaves" (.ref r) [("_held", .ref p)]))) x = some (.ins C dx [("_held", .ref p), ("_leaves", .ref r)]) := by rw [upd_same]; rfl
    have h5p : (upd H4 x (.ins C dx (putF "_leaves" (.ref r) [("_held", .ref p)]))) p = some (.dK (heldK M)) := by rw [upd_ne px]; exact h4p
    have h5r : (upd H4 x (.ins C dx (putF "_leaves" (.ref r) [("_held", .ref p)]))) r = some (.dK (lvK (ys.map fun y => (y, lf1 W y)))) := by rw [upd_ne rx]; exact h4r
    generalize upd H4 x (.ins C dx (putF "_leaves" (.ref r) [("_held", .ref p)])) = H5 at Z5 h5x h5p h5r ⊢
    walk_at "zz"
    refine z_sfl ?_
    walk_at "zz"
    refine ⟨x, C, dx, _, .ref p, rfl, h5x, G.cls, G.held, rfl, ?_⟩
    walk_at "zz"
    refine ⟨p, heldK M, rfl, .inl h5p, fun l hl => ?_⟩
    rw [held_keys]
    have Z6 := Z5.trans (Nx.lay (M := No) (o := .lst ((M.map (·.1)).map V.str)) Z5.sub hl)
    have fl := Z5.sub.none hl
    have g6 : (upd F4 l (.lst ((M.map (·.1)).map V.str))) l = some (.lst ((M.map (·.1)).map V.str)) := upd_same
    have s6 : Sub F4 (upd F4 l (.lst ((M.map (·.1)).map V.str))) := fun a o e => upd_keep e fl
    have h6x := upd_keep (o := .lst ((M.map (·.1)).map V.str)) h5x hl
    have h6p := upd_keep (o := .lst ((M.map (·.1)).map V.str)) h5p hl
    have h6r := upd_keep (o := .lst ((M.map (·.1)).map V.str)) h5r hl
    have fx6 : (upd F4 l (.lst ((M.map (·.1)).map V.str))) x = none := by rw [upd_ne (ne_of_none h5x hl)]; exact fx4
    have fp6 : (upd F4 l (.lst ((M.map (·.1)).map V.str))) p = none := by rw [upd_ne (ne_of_none h5p hl)]; exact fp4
    have fr6 : (upd F4 l (.lst ((M.map (·.1)).map V.str))) r = none := by rw [upd_ne (ne_of_none h5r hl)]; exact f4
    have m6 : Sub F1 (upd F4 l (.lst ((M.map (·.1)).map V.str))) := fun a o e => s6 _ _ (N4.mono _ _ (N3.mono _ _ e))
    generalize upd F4 l (.lst ((M.map (·.1)).map V.str)) = F6 at Z6 g6 fx6 fp6 fr6 m6
    generalize upd H5 l (.lst ((M.map (·.1)).map V.str)) = H6 at Z6 h6x h6p h6r ⊢
    walk_at "zz"
    refine ⟨F6, br, l, bs, M.map (·.1), rfl, Z6.sub, m6 _ _ (N1.mono _ _ hbr), fun t ht => m6 _ _ (N1.mono _ _ (hba t ht)), D.b36, g6, fun t ht => ⟨pm.mem_iff.mpr (D.bk t ht).1, pm.mem_iff.mpr (D.bk t ht).2.1, (D.bk t ht).2.2⟩, fun c cs F7 H7 N7 hc hcs ris cmem c36 => ?_⟩
    have Z7 := Z6.trans N7
    have h7x := N7.keep _ _ h6x fun k => k
    have h7p := N7.keep _ _ h6p fun k => k
    have h7r := N7.keep _ _ h6r fun k => k
    have fx7 := N7.new x (some_ne h6x) fx6
    have fp7 := N7.new p (some_ne h6p) fp6
    have fr7 := N7.new r (some_ne h6r) fr6
    walk_at "zz"
    refine ⟨x, C, dx, _, rfl, h7x, G.cls, G.barred, by show 2 < 1000; decide, ?_⟩
    have Z8 := Z7.wr (o := .ins C dx (putF "_barred" (.ref c) [("_held", .ref p), ("_leaves", .ref r)])) (.inl H0x) fx7
    have h8x : (upd H7 x (.ins C dx (putF "_barred" (.ref c) [("_held", .ref p), ("_leaves", .ref r)]))) x = some (.ins C dx [("_held", .ref p), ("_leaves", .ref r), ("_barred", .ref c)]) := by rw [upd_same]; rfl
    have h8p : (upd H7 x (.ins C dx (putF "_barred" (.ref c) [("_held", .ref p), ("_leaves", .ref r)]))) p = some (.dK (heldK M)) := by rw [upd_ne px]; exact h7p
    have h8r : (upd H7 x (.ins C dx (putF "_barred" (.ref c) [("_held", .ref p), ("_leaves", .ref r)]))) r = some (.dK (lvK (ys.map fun y => (y, lf1 W y)))) := by rw [upd_ne rx]; exact h7r
    generalize upd H7 x (.ins C dx (putF "_barred" (.ref c) [("_held", .ref p), ("_leaves", .ref r)])) = H8 at Z8 h8x h8p h8r ⊢
    have p0 : H0 p = none := old0 hp
    have Z9 := Z8.frz H0x h8x fx7
    have fp9 : (upd F7 x (.ins C dx [("_held", .ref p), ("_leaves", .ref r), ("_barred", .ref c)])) p = none := by rw [upd_ne px]; exact fp7
    have Z10 := Z9.frz p0 h8p fp9
    have fr10 : (upd (upd F7 x (.ins C dx [("_held", .ref p), ("_leaves", .ref r), ("_barred", .ref c)])) p (.dK (heldK M))) r = none := by rw [upd_ne rp, upd_ne rx]; exact fr7
    have Z11 := Z10.frz r0 h8r fr10
    have s11 : Sub F7 (upd (upd (upd F7 x (.ins C dx [("_held", .ref p), ("_leaves", .ref r), ("_barred", .ref c)])) p (.dK (heldK M))) r (.dK (lvK (ys.map fun y => (y, lf1 W y))))) := fun a o e => upd_keep (upd_keep (upd_keep e fx7) fp9) fr10
    have keys : (ys.map fun y => (y, lf1 W y)).map (·.1) = ys := by rw [List.map_map]; exact List.map_id' ys
    have same : ∀ y ∈ ys, lfn (ys.map fun y => (y, lf1 W y)) y = lfn W y := fun y hy => by
      have m : (y, lf1 W y) ∈ ys.map fun y => (y, lf1 W y) := List.mem_map_of_mem (f := fun y => (y, lf1 W y)) hy
      have q := lfn_mem (W := ys.map fun y => (y, lf1 W y)) (by rw [keys]; exact ynd) m
      rw [q]
      show lf1 W y = _
      rw [lf1, if_pos ((yW y).mp hy)]
    walk_at "zz"
    refine k p r c M (ys.map fun y => (y, lf1 W y)) cs _ H8 Z11 ⟨⟨dx, ?_⟩, ?_, upd_same, s11 _ _ hc, fun t ht => s11 _ _ (hcs t ht), fun t ht => s11 _ _ (N7.mono _ _ (m6 _ _ (hT t ht)))⟩
      ⟨⟨by omega, by omega, fun t ht => ?_, ⟨W.map (·.1), by rw [List.length_map]; exact wl, fun y hy => D.wNm hy, ⟨Mnd, fun t ht => ?_, by rw [keys]; exact ynd, fun q hq => ?_, fun q hq => ?_⟩⟩, c36, fun t ht => ?_⟩, srt, fun t ht => (okM t ht).1, by rw [keys]; exact ysrt, ris⟩
      ⟨pm, fun t ht => (okM t ht).2, fun y hy => same y (by rwa [keys] at hy), cmem⟩
    · rw [upd_ne rx.symm, upd_ne px.symm]; exact upd_same
    · rw [upd_ne rp.symm]; exact upd_same
    · obtain ⟨u, hu, e, _⟩ := pgs t ht
      rw [← e]; exact D.nm u hu
    · obtain ⟨u, hu, _, e⟩ := pgs t ht
      exact ⟨e.nodup_iff.mpr (D.ok hu).1, fun y hy => by rw [keys]; exact (ymem y).mpr ⟨t, ht, hy⟩⟩
    · obtain ⟨y, hy, rfl⟩ := List.mem_map.mp hq
      have hyW := (yW y).mp hy
      obtain ⟨q0, hq0, e0⟩ := List.mem_map.mp hyW
      have v := lfn_mem D.wn hq0
      refine ⟨hyW, ?_⟩
      show 1 ≤ lf1 W y ∧ lf1 W y ≤ 9
      rw [lf1, if_pos hyW, ← e0, v]
      exact D.w19 hq0
    · obtain ⟨y, hy, rfl⟩ := List.mem_map.mp hq
      exact (ymem y).mp hy
    · obtain ⟨u, hu, e⟩ := List.mem_map.mp ((cmem t.2).mp (List.mem_map_of_mem ht))
      rw [← e]
      exact ⟨pm.mem_iff.mpr (D.bk u hu).1, pm.mem_iff.mpr (D.bk u hu).2.1, (D.bk u hu).2.2⟩
end
end EV
end

section
set_option maxHeartbeats 2000000
local macro_rules | `(tactic| walk_at "za") => `(tactic| (first | exact Or.inl ⟨by omega, by omega⟩ | exact Or.inr ⟨by omega, by omega⟩ | exact ⟨by omega, by omega⟩ | exact ⟨by omega, by omega, by omega⟩ | omega))
local macro_rules | `(tactic| walk_at "z") => `(tactic| (first
  | with_reducible refine EV.z_seq ?_ | with_reducible refine EV.z_next ?_ | with_reducible refine EV.z_nx ?_ | with_reducible refine EV.z_rt ?_ | with_reducible refine EV.z_asg ?_ | with_reducible refine EV.z_name ?_
  | with_reducible refine EV.z_drop ?_ | with_reducible refine EV.z_ret ?_ | with_reducible refine EV.z_if ?_
  | ((with_reducible refine EV.z_var (v := ?vv) ?hv ?_); (case hv => exact rfl)) | with_reducible refine EV.z_c ?_ | with_reducible refine EV.z_op ?_ | with_reducible refine EV.z_un ?_ | with_reducible refine EV.z_I0 ?_ | with_reducible refine EV.z_U ?_ | ((with_reducible refine EV.z_I ?hc ?_); (case hc => walk_at "za"))
  | ((with_reducible refine EV.z_eq ?hv ?_); (case hv => exact rfl)) | ((with_reducible refine EV.z_ne ?hv ?_); (case hv => exact rfl))
  | with_reducible refine EV.z_test ?_ | with_reducible refine EV.z_bl ?_ | with_reducible refine EV.z_B ?_ | with_reducible refine EV.z_and ?_ | with_reducible refine EV.z_or ?_ | with_reducible refine EV.z_not ?_ | with_reducible refine EV.z_andV ?_
  | with_reducible refine EV.z_orV ?_ | with_reducible refine EV.z_notV ?_ | with_reducible refine EV.z_ifE ?_ | with_reducible refine EV.z_nil ?_ | with_reducible refine EV.z_cons ?_ | with_reducible refine EV.z_tup ?_ | with_reducible refine EV.z_lst ?_
  | with_reducible refine EV.z_cb ?_ | with_reducible refine EV.z_call ?_ | with_reducible refine EV.z_dget ?_ | with_reducible refine EV.z_dput ?_ | with_reducible refine EV.z_chain ?_ | with_reducible refine EV.z_then ?_ | with_reducible refine EV.z_fld ?_ | with_reducible refine EV.z_bm ?_
  | with_reducible refine EV.z_par ?_ | with_reducible refine EV.z_par3 ?_ | with_reducible refine EV.z_ex2 ?_ | with_reducible refine EV.z_ex3 ?_ | with_reducible refine EV.z_tyes ?_ | ((with_reducible refine EV.z_wipe ?hv ?_); (case hv => exact rfl))
  | with_reducible refine EV.z_lc ?_ | with_reducible refine EV.z_ltS ?_ | with_reducible refine EV.z_disp ?_ | with_reducible refine EV.z_pc ?_ | with_reducible refine EV.z_pn ?_ | with_reducible refine EV.z_m1 ?_ | with_reducible refine EV.z_isS ?_ | with_reducible refine EV.z_sl ?_ | with_reducible refine EV.z_np ?_ | with_reducible refine EV.z_pt ?_ | with_reducible refine EV.z_exI ?_ | with_reducible refine EV.z_is ?_ | with_reducible refine EV.z_istr ?_ | with_reducible refine EV.z_no ?_ | with_reducible refine EV.z_yes ?_ | with_reducible refine EV.z_for ?_ | with_reducible refine EV.z_il ?_ | with_reducible refine EV.z_it ?_ | with_reducible refine EV.z_r1 ?_ | with_reducible refine EV.z_ik ?_ | with_reducible refine EV.z_din ?_ | with_reducible refine EV.z_dnin ?_ | with_reducible refine EV.z_dsd ?_ | with_reducible refine EV.z_gs ?_ | with_reducible refine EV.z_gc ?_ | with_reducible refine EV.z_gn ?_ | with_reducible refine EV.z_turn ?_))
local macro_rules | `(tactic| walk_at "zz") => `(tactic| repeat walk_at "z")
/-! ### what a group tells -/
namespace EV
open PySem PySem.Spec PyProof.Rows L2
/-! steps for methods, for calls that may raise, for classes made with keywords -/
theorem z_mt {C : Addr} {m : Str} {sp : Sp} {dvs : List V} {E : XK} {ta : TE} {t : TA} {σ : L2.St} {H : Hp} {Q : VK} (q : ta σ H fun x H1 => ∃ a dx fs, x = .ref a ∧ H1 a = some (.ins C dx fs) ∧ fs.lookup m = none ∧ t σ H1 fun vs H2 => sp (x :: (vs ++ dvs)) H2 Q E) : tMeth C m sp dvs E ta t σ H Q := q
theorem z_cS {sp : Sp} {E : L2.St → XK} {tr : TA} {σ : L2.St} {H : Hp} {Q : VK} (q : tr σ H fun vs H1 => sp vs H1 Q (E σ)) : tCallS sp E tr σ H Q := q
theorem z_mkO {C : Addr} {sp : Sp} {dvs : List V} {ta : TA} {σ : L2.St} {H : Hp} {Q : XK} (q : ta σ H fun vs H1 => vs.length ≤ 1000 ∧ ∀ a, H1 a = none → sp (.ref a :: (vs ++ dvs)) (upd H1 a (exo a C none))
  (fun v H2 => v = .non ∧ ∃ (d : Addr) (fs : List (Str × V)), H2 a = some (exo a C (some d)) ∧ H2 d = some (exd d fs) ∧ H1 d = none ∧ Q (.ref C) (some d) (upd (del H2 a) d (.xd fs))) (fun _ _ _ => False)) : tMkO C sp dvs ta σ H Q := q
theorem z_mkK {C : Addr} {n m : Nat} {sp : Sp} {gV : List V → List V → List V} {E : XK} {t tk : TA} {σ : L2.St} {H : Hp} {Q : VK} (q : t σ H fun vs H1 => tk σ H1 fun zs H2 => vs.length = n ∧ zs.length = m ∧ ∀ x dx, H2 x = none → H2 dx = none → dx ≠ x →
  sp (gV (.ref x :: vs) zs) (upd (upd H2 dx (.own x)) x (.ins C dx [])) (fun v H3 => v = .non ∧ Q (.ref x) H3) E) : tMakeK C n m sp gV E t tk σ H Q := q
local macro_rules | `(tactic| walk_at "z") => `(tactic| (first | with_reducible refine EV.z_mt ?_ | with_reducible refine EV.z_cS ?_ | with_reducible refine EV.z_mkO ?_ | with_reducible refine EV.z_mkK ?_))
/-- a group that stands in F -/
structure Gr (F : Hp) (C g : Addr) (M : Hld) (W : Lvs) (cs : Bars) : Prop where
  ex : ∃ hd lv br, Gp F C g hd lv br M W cs
  d : GD M W cs
theorem Gp.sub {F F' : Hp} {C x hd lv br : Addr} {M : Hld} {W : Lvs} {cs : Bars} (g : Gp F C x hd lv br M W cs) (s : Sub F F') : Gp F' C x hd lv br M W cs :=
  ⟨g.hx.imp fun _ h => s _ _ h, s _ _ g.hh, s _ _ g.hv, s _ _ g.hb, fun t ht => s _ _ (g.ba t ht), fun t ht => s _ _ (g.ht t ht)⟩
theorem Gr.sub {F F' : Hp} {C x : Addr} {M : Hld} {W : Lvs} {cs : Bars} (g : Gr F C x M W cs) (s : Sub F F') : Gr F' C x M W cs :=
  ⟨let ⟨hd, lv, br, h⟩ := g.ex; ⟨hd, lv, br, h.sub s⟩, g.d⟩
section
variable {K : PySem.W.Frag} {C x hd lv br : Addr} {F H : Hp} {M : Hld} {W : Lvs} {cs : Bars} {Q : V → Prop}
theorem z_fH (c : GCls K C) (g : Gp F C x hd lv br M W cs) (s : Sub F H) (q : Q (.ref hd)) : ∃ a C dx fs v, V.ref x = .ref a ∧ H a = some (.ins C dx fs) ∧ Cls K C ∧ NoAttr K C "_held" ∧ fs.lookup ("_held" : Str) = some v ∧ Q v := by
  obtain ⟨dx, h⟩ := g.hx
  exact ⟨x, C, dx, _, _, rfl, s _ _ h, c.cls, c.held, rfl, q⟩
theorem z_fL (c : GCls K C) (g : Gp F C x hd lv br M W cs) (s : Sub F H) (q : Q (.ref lv)) : ∃ a C dx fs v, V.ref x = .ref a ∧ H a = some (.ins C dx fs) ∧ Cls K C ∧ NoAttr K C "_leaves" ∧ fs.lookup ("_leaves" : Str) = some v ∧ Q v := by
  obtain ⟨dx, h⟩ := g.hx
  exact ⟨x, C, dx, _, _, rfl, s _ _ h, c.cls, c.leaves, rfl, q⟩
theorem z_fB (c : GCls K C) (g : Gp F C x hd lv br M W cs) (s : Sub F H) (q : Q (.ref br)) : ∃ a C dx fs v, V.ref x = .ref a ∧ H a = some (.ins C dx fs) ∧ Cls K C ∧ NoAttr K C "_barred" ∧ fs.lookup ("_barred" : Str) = some v ∧ Q v := by
  obtain ⟨dx, h⟩ := g.hx
  exact ⟨x, C, dx, _, _, rfl, s _ _ h, c.cls, c.barred, rfl, q⟩
end
theorem GD.nd {M : Hld} {W : Lvs} {cs : Bars} (G : GD M W cs) : (M.map (·.1)).Nodup := G.d.nd
def spPeople (C : Addr) : Sp := fun vs H Q _ => ∃ (F : Hp) (g : Addr) (M : Hld) (W : Lvs) (cs : Bars), vs = [.ref g] ∧ Sub F H ∧ Gr F C g M W cs ∧ ∀ p F' H', Nx No F H F' H' → F' p = some (.lst ((M.map (·.1)).map V.str)) → Q (.ref p) H'
def spPages (C : Addr) : Sp := fun vs H Q _ => ∃ (F : Hp) (g : Addr) (M : Hld) (W : Lvs) (cs : Bars), vs = [.ref g] ∧ Sub F H ∧ Gr F C g M W cs ∧ ∀ p F' H', Nx No F H F' H' → F' p = some (.lst ((W.map (·.1)).map V.str)) → Q (.ref p) H'
def spGHeld (C : Addr) : Sp := fun vs H Q _ => ∃ (F : Hp) (g : Addr) (M : Hld) (W : Lvs) (cs : Bars) (x : Str), vs = [.ref g, .str x] ∧ Sub F H ∧ Gr F C g M W cs ∧ x ∈ M.map (·.1) ∧ ∀ p H', Nx No F H F H' → F p = some (.tup ((hLf M x).map V.str)) → Q (.ref p) H'
def spGWeight (C : Addr) : Sp := fun vs H Q _ => ∃ (F : Hp) (g : Addr) (M : Hld) (W : Lvs) (cs : Bars) (x : Str), vs = [.ref g, .str x] ∧ Sub F H ∧ Gr F C g M W cs ∧ x ∈ M.map (·.1) ∧ ∀ H', Nx No F H F H' → Q (.int (wt M W x)) H'
def spGLeaves (C : Addr) : Sp := fun vs H Q _ => ∃ (F : Hp) (g : Addr) (M : Hld) (W : Lvs) (cs : Bars) (x : Str), vs = [.ref g, .str x] ∧ Sub F H ∧ Gr F C g M W cs ∧ x ∈ W.map (·.1) ∧ ∀ H', Nx No F H F H' → Q (.int (lfn W x)) H'
def spGBarred (C : Addr) : Sp := fun vs H Q _ => ∃ (F : Hp) (g : Addr) (M : Hld) (W : Lvs) (cs : Bars), vs = [.ref g] ∧ Sub F H ∧ Gr F C g M W cs ∧ ∀ p ds F' H', Nx No F H F' H' → F' p = some (.lst (ds.map fun t => V.ref t.1)) → BarsA F' ds → ds.map (·.2) = cs.map (·.2) → Q (.ref p) H'
abbrev s_Group_people : Stmt := inClass (top 23) 3
abbrev N_Group_people : List Str := ["self"]
abbrev P_Group_people : List Str := ["self"]
theorem sc_Group_people : FnScope N_Group_people P_Group_people (defScope s_Group_people) := ⟨rfl, rfl, rfl, by decide +kernel, rfl, by decide +kernel, by decide +kernel⟩
abbrev s_Group_pages : Stmt := inClass (top 23) 4
abbrev N_Group_pages : List Str := ["self"]
abbrev P_Group_pages : List Str := ["self"]
theorem sc_Group_pages : FnScope N_Group_pages P_Group_pages (defScope s_Group_pages) := ⟨rfl, rfl, rfl, by decide +kernel, rfl, by decide +kernel, by decide +kernel⟩
abbrev s_Group_held : Stmt := inClass (top 23) 5
abbrev N_Group_held : List Str := ["self", "person"]
abbrev P_Group_held : List Str := ["self", "person"]
theorem sc_Group_held : FnScope N_Group_held P_Group_held (defScope s_Group_held) := ⟨rfl, rfl, rfl, by decide +kernel, rfl, by decide +kernel, by decide +kernel⟩
abbrev s_Group_weight : Stmt := inClass (top 23) 6
abbrev N_Group_weight : List Str := ["self", "person", "page"]
abbrev P_Group_weight : List Str := ["self", "person"]
theorem sc_Group_weight : FnScope N_Group_weight P_Group_weight (defScope s_Group_weight) := ⟨rfl, rfl, rfl, by decide +kernel, rfl, by decide +kernel, by decide +kernel⟩
abbrev s_Group_leaves : Stmt := inClass (top 23) 7
abbrev N_Group_leaves : List Str := ["self", "page"]
abbrev P_Group_leaves : List Str := ["self", "page"]
theorem sc_Group_leaves : FnScope N_Group_leaves P_Group_leaves (defScope s_Group_leaves) := ⟨rfl, rfl, rfl, by decide +kernel, rfl, by decide +kernel, by decide +kernel⟩
abbrev s_Group_barred : Stmt := inClass (top 23) 8
abbrev N_Group_barred : List Str := ["self"]
abbrev P_Group_barred : List Str := ["self"]
theorem sc_Group_barred : FnScope N_Group_barred P_Group_barred (defScope s_Group_barred) := ⟨rfl, rfl, rfl, by decide +kernel, rfl, by decide +kernel, by decide +kernel⟩
section
variable {P : Program} {w : World} {K : PySem.W.Frag} {mg : Str → Option Value} {base : Heap} {C : Addr}
theorem ok_people (T : Txt mg) (G : GCls K C) {f fd} (me : Meth K C "people" f) (D : C8.Fun K "people" "Group.people" s_Group_people f fd) (b : Binds K fd P_Group_people []) : C8.Met P w K mg base 1 C "people" (spPeople C) [] := by
  refine C8.met0 G.cls me D b sc_Group_people (fun vs H Q E h => ?_) (fun cdv A outer s H vs Q E hr h => ?_)
  · obtain ⟨F, g, M, W, cs, rfl, _⟩ := h
    rfl
  · obtain ⟨F, g, M, W, cs, rfl, sF, ⟨⟨hd, lv, br, gp⟩, gd⟩, k⟩ := h
    refine ⟨_, (pss_one (ps_ret (pe_callTy (call_listD rfl) rfl T.b_list (by decide +kernel) (pa_cons (k_fld K (pv 0)) pa_nil)))), ?_⟩
    walk_at "zz"
    refine z_fH G gp sF ?_
    refine ⟨hd, heldK M, rfl, .inl (sF _ _ gp.hh), fun l hl => ?_⟩
    rw [held_keys]
    walk_at "zz"
    exact k l _ _ (Nx.lay sF hl) upd_same
theorem lv_keys {W : Lvs} : (lvK W).map (fun kv => kV kv.1) = (W.map (·.1)).map V.str := by rw [lvK, List.map_map, List.map_map]; rfl
theorem ok_pages (T : Txt mg) (G : GCls K C) {f fd} (me : Meth K C "pages" f) (D : C8.Fun K "pages" "Group.pages" s_Group_pages f fd) (b : Binds K fd P_Group_pages []) : C8.Met P w K mg base 1 C "pages" (spPages C) [] := by
  refine C8.met0 G.cls me D b sc_Group_pages (fun vs H Q E h => ?_) (fun cdv A outer s H vs Q E hr h => ?_)
  · obtain ⟨F, g, M, W, cs, rfl, _⟩ := h
    rfl
  · obtain ⟨F, g, M, W, cs, rfl, sF, ⟨⟨hd, lv, br, gp⟩, gd⟩, k⟩ := h
    refine ⟨_, (pss_one (ps_ret (pe_callTy (call_listD rfl) rfl T.b_list (by decide +kernel) (pa_cons (k_fld K (pv 0)) pa_nil)))), ?_⟩
    walk_at "zz"
    refine z_fL G gp sF ?_
    refine ⟨lv, lvK W, rfl, .inl (sF _ _ gp.hv), fun l hl => ?_⟩
    rw [lv_keys]
    walk_at "zz"
    exact k l _ _ (Nx.lay sF hl) upd_same
theorem ok_gheld (T : Txt mg) (G : GCls K C) {f fd} (me : Meth K C "held" f) (D : C8.Fun K "held" "Group.held" s_Group_held f fd) (b : Binds K fd P_Group_held []) : C8.Met P w K mg base 1 C "held" (spGHeld C) [] := by
  refine C8.met0 G.cls me D b sc_Group_held (fun vs H Q E h => ?_) (fun cdv A outer s H vs Q E hr h => ?_)
  · obtain ⟨F, g, M, W, cs, x, rfl, _⟩ := h
    rfl
  · obtain ⟨F, g, M, W, cs, x, rfl, sF, ⟨⟨hd, lv, br, gp⟩, gd⟩, hx, k⟩ := h
    have hu := hu_of hr
    refine ⟨_, (pss_cons (ps_if (PW.pt (pw_or (pt_not (pt_val (pe_callB (k_isi K) rfl T.b_isinstance (by decide +kernel) (pa_cons (pv 1) (pa_cons (pe_bltn (v := .ty "str") rfl T.b_str (by decide +kernel) rfl) pa_nil))))) (pw_or1 (pt_cmp (pc_dnotin hu (pv 1) (k_fld K (pv 0)))))))
    (pss_one ps_never)
    pss_nil)
  (pss_one (ps_ret (pe_dget hu (k_fld K (pv 0)) (pv 1) (fun _ _ => rfl))))), ?_⟩
    obtain ⟨t, ht, rfl, e⟩ := gd.d.at hx
    walk_at "zz"
    refine z_isi (a := "str") (.base (by constructor)) (by rfl) ?_
    walk_at "zz"
    refine z_nt ?_
    walk_at "zz"
    refine z_fH G gp sF ?_
    refine z_dgo (.inl (sF _ _ gp.hh)) ?_
    rw [held_val gd.nd ht]
    walk_at "zz"
    refine z_nt ?_
    walk_at "zz"
    refine z_fH G gp sF ?_
    walk_at "zz"
    refine z_dgetR (.inl (sF _ _ gp.hh)) (held_val gd.nd ht) ?_
    walk_at "zz"
    exact k _ _ (Nx.refl sF) (by rw [e]; exact gp.ht t ht)
theorem ok_gleaves (T : Txt mg) (G : GCls K C) {f fd} (me : Meth K C "leaves" f) (D : C8.Fun K "leaves" "Group.leaves" s_Group_leaves f fd) (b : Binds K fd P_Group_leaves []) : C8.Met P w K mg base 1 C "leaves" (spGLeaves C) [] := by
  refine C8.met0 G.cls me D b sc_Group_leaves (fun vs H Q E h => ?_) (fun cdv A outer s H vs Q E hr h => ?_)
  · obtain ⟨F, g, M, W, cs, x, rfl, _⟩ := h
    rfl
  · obtain ⟨F, g, M, W, cs, x, rfl, sF, ⟨⟨hd, lv, br, gp⟩, gd⟩, hx, k⟩ := h
    have hu := hu_of hr
    refine ⟨_, (pss_cons (ps_if (PW.pt (pw_or (pt_not (pt_val (pe_callB (k_isi K) rfl T.b_isinstance (by decide +kernel) (pa_cons (pv 1) (pa_cons (pe_bltn (v := .ty "str") rfl T.b_str (by decide +kernel) rfl) pa_nil))))) (pw_or1 (pt_cmp (pc_dnotin hu (pv 1) (k_fld K (pv 0)))))))
    (pss_one ps_never)
    pss_nil)
  (pss_one (ps_ret (pe_dget hu (k_fld K (pv 0)) (pv 1) (fun _ _ => rfl))))), ?_⟩
    walk_at "zz"
    refine z_isi (a := "str") (.base (by constructor)) (by rfl) ?_
    walk_at "zz"
    refine z_nt ?_
    walk_at "zz"
    refine z_fL G gp sF ?_
    refine z_dgo (.inl (sF _ _ gp.hv)) ?_
    rw [lv_val hx]
    walk_at "zz"
    refine z_nt ?_
    walk_at "zz"
    refine z_fL G gp sF ?_
    walk_at "zz"
    refine z_dgetR (.inl (sF _ _ gp.hv)) (lv_val hx) ?_
    walk_at "zz"
    exact k _ (Nx.refl sF)
theorem ok_gbarred (T : Txt mg) (G : GCls K C) {f fd} (me : Meth K C "barred" f) (D : C8.Fun K "barred" "Group.barred" s_Group_barred f fd) (b : Binds K fd P_Group_barred []) : C8.Met P w K mg base 1 C "barred" (spGBarred C) [] := by
  refine C8.met0 G.cls me D b sc_Group_barred (fun vs H Q E h => ?_) (fun cdv A outer s H vs Q E hr h => ?_)
  · obtain ⟨F, g, M, W, cs, rfl, _⟩ := h
    rfl
  · obtain ⟨F, g, M, W, cs, rfl, sF, ⟨⟨hd, lv, br, gp⟩, gd⟩, k⟩ := h
    refine ⟨_, (pss_one (ps_ret (pe_callTy (k_listOf K) rfl T.b_list (by decide +kernel) (pa_cons (k_fld K (pv 0)) pa_nil)))), ?_⟩
    walk_at "zz"
    refine z_fB G gp sF ?_
    refine z_list (.inl (sF.sql gp.hb)) fun l hl => ?_
    walk_at "zz"
    exact k l cs _ _ (Nx.lay sF hl) upd_same (fun t ht => upd_keep (gp.ba t ht) (sF.none hl)) rfl
theorem ok_gweight (T : Txt mg) (G : GCls K C) (m_held : C8.Met P w K mg base 1 C "held" (spGHeld C) []) {f fd} (me : Meth K C "weight" f) (D : C8.Fun K "weight" "Group.weight" s_Group_weight f fd) (b : Binds K fd P_Group_weight []) : C8.Met P w K mg base 2 C "weight" (spGWeight C) [] := by
  refine C8.met0 G.cls me D b sc_Group_weight (fun vs H Q E h => ?_) (fun cdv A outer s H vs Q E hr h => ?_)
  · obtain ⟨F, g, M, W, cs, x, rfl, _⟩ := h
    rfl
  · obtain ⟨F, g, M, W, cs, x, rfl, sF, gr, hx, k⟩ := h
    obtain ⟨⟨hd, lv, br, gp⟩, gd⟩ := id gr
    obtain ⟨dx, hgx⟩ := gp.hx
    have hu := hu_of hr
    refine ⟨_, (pss_one (ps_ret (pe_callB (k_sum K rfl) rfl T.b_sum (by decide +kernel) (pa_cons (pe_lc (own := [("page", 2)]) rfl sc_Group_weight.nd (k_pit K (C8.pe_mt m_held hr (by decide) (pv 0) (pa_cons (pv 1) pa_nil))) (blkOk_by (N := N_Group_weight) (sc := defScope s_Group_weight) (by decide +kernel)) (fun _ _ _ _ _ => (pg_name (i := 2) sc_Group_weight.nd rfl (Or.inl rfl))) (fun _ _ _ _ _ => pts_nil) (fun _ _ _ _ _ => (pe_dget hu (k_fld K (pv 0)) (pv 2) (fun _ _ => rfl)))) pa_nil)))), ?_⟩
    obtain ⟨t, ht, et, e⟩ := gd.d.at hx
    have tl := gd.d.pl ht
    walk_at "zz"
    refine ⟨g, dx, _, rfl, sF _ _ hgx, rfl, ?_⟩
    walk_at "zz"
    refine ⟨F, g, M, W, cs, x, rfl, sF, gr, hx, fun l H1 Z1 hl => ?_⟩
    refine ⟨l, rfl, ⟨_, Z1.sub.sqt hl⟩, fun D hD => ?_⟩
    have fD := Z1.sub.none hD
    refine lc_it (walk_tup (xs := (hLf M x).map V.str)) (fun i H' => Nx No F H F H' ∧ H' D = some (.lst ((((hLf M x).take i).map (lfn W)).map V.int))) ⟨Z1.trans (Nx.mak Z1.sub hD), upd_same⟩ (fun i H' _ h => h.1.sub.sqt hl) ?_ ?_
    · rintro i y H2 H3 hi ⟨Z2, h2⟩ ⟨rfl, hy⟩
      obtain ⟨n, hn, rfl⟩ := at_str hy
      have gp2 := gp
      have nW : n ∈ W.map (·.1) := (gd.d.ok ht).2 n (by rw [← e]; exact List.mem_of_getElem? hn)
      walk_at "zz"
      refine z_fL G gp2 Z2.sub ?_
      walk_at "zz"
      refine z_dgetR (.inl (Z2.sub _ _ gp2.hv)) (lv_val nW) ?_
      refine ⟨_, h2, szl (by rw [List.length_map, List.length_map, List.length_take]; have := congrArg List.length e; omega), Z2.wr (.inl (Z1.old hD)) fD, ?_⟩
      rw [upd_same, take_succ_map hn, List.map_append]; rfl
    · rintro H2 ⟨Z2, h2⟩
      rw [List.length_map, List.take_length] at h2
      walk_at "zz"
      refine z_sum (SqL.of h2) ?_
      walk_at "zz"
      exact k H2 Z2
end
end EV
end

section
set_option maxHeartbeats 2000000
local macro_rules | `(tactic| walk_at "za") => `(tactic| (first | exact Or.inl ⟨by omega, by omega⟩ | exact Or.inr ⟨by omega, by omega⟩ | exact ⟨by omega, by omega⟩ | exact ⟨by omega, by omega, by omega⟩ | omega))
local macro_rules | `(tactic| walk_at "z") => `(tactic| (first
  | with_reducible refine EV.z_seq ?_ | with_reducible refine EV.z_next ?_ | with_reducible refine EV.z_nx ?_ | with_reducible refine EV.z_rt ?_ | with_reducible refine EV.z_asg ?_ | with_reducible refine EV.z_name ?_
  | with_reducible refine EV.z_drop ?_ | with_reducible refine EV.z_ret ?_ | with_reducible refine EV.z_if ?_
  | ((with_reducible refine EV.z_var (v := ?vv) ?hv ?_); (case hv => exact rfl)) | with_reducible refine EV.z_c ?_ | with_reducible refine EV.z_op ?_ | with_reducible refine EV.z_un ?_ | with_reducible refine EV.z_I0 ?_ | with_reducible refine EV.z_U ?_ | ((with_reducible refine EV.z_I ?hc ?_); (case hc => walk_at "za"))
  | ((with_reducible refine EV.z_eq ?hv ?_); (case hv => exact rfl)) | ((with_reducible refine EV.z_ne ?hv ?_); (case hv => exact rfl))
  | with_reducible refine EV.z_test ?_ | with_reducible refine EV.z_bl ?_ | with_reducible refine EV.z_B ?_ | with_reducible refine EV.z_and ?_ | with_reducible refine EV.z_or ?_ | with_reducible refine EV.z_not ?_ | with_reducible refine EV.z_andV ?_
  | with_reducible refine EV.z_orV ?_ | with_reducible refine EV.z_notV ?_ | with_reducible refine EV.z_ifE ?_ | with_reducible refine EV.z_nil ?_ | with_reducible refine EV.z_cons ?_ | with_reducible refine EV.z_tup ?_ | with_reducible refine EV.z_lst ?_
  | with_reducible refine EV.z_cb ?_ | with_reducible refine EV.z_call ?_ | with_reducible refine EV.z_dget ?_ | with_reducible refine EV.z_dput ?_ | with_reducible refine EV.z_chain ?_ | with_reducible refine EV.z_then ?_ | with_reducible refine EV.z_fld ?_ | with_reducible refine EV.z_bm ?_
  | with_reducible refine EV.z_par ?_ | with_reducible refine EV.z_par3 ?_ | with_reducible refine EV.z_ex2 ?_ | with_reducible refine EV.z_ex3 ?_ | with_reducible refine EV.z_tyes ?_ | ((with_reducible refine EV.z_wipe ?hv ?_); (case hv => exact rfl))
  | with_reducible refine EV.z_lc ?_ | with_reducible refine EV.z_ltS ?_ | with_reducible refine EV.z_disp ?_ | with_reducible refine EV.z_pc ?_ | with_reducible refine EV.z_pn ?_ | with_reducible refine EV.z_m1 ?_ | with_reducible refine EV.z_isS ?_ | with_reducible refine EV.z_sl ?_ | with_reducible refine EV.z_np ?_ | with_reducible refine EV.z_pt ?_ | with_reducible refine EV.z_exI ?_ | with_reducible refine EV.z_is ?_ | with_reducible refine EV.z_istr ?_ | with_reducible refine EV.z_no ?_ | with_reducible refine EV.z_yes ?_ | with_reducible refine EV.z_for ?_ | with_reducible refine EV.z_il ?_ | with_reducible refine EV.z_it ?_ | with_reducible refine EV.z_r1 ?_ | with_reducible refine EV.z_ik ?_ | with_reducible refine EV.z_din ?_ | with_reducible refine EV.z_dnin ?_ | with_reducible refine EV.z_dsd ?_ | with_reducible refine EV.z_gs ?_ | with_reducible refine EV.z_gc ?_ | with_reducible refine EV.z_gn ?_ | with_reducible refine EV.z_turn ?_))
local macro_rules | `(tactic| walk_at "zz") => `(tactic| repeat walk_at "z")
local macro_rules | `(tactic| walk_at "z") => `(tactic| (first | with_reducible refine EV.z_mt ?_ | with_reducible refine EV.z_cS ?_ | with_reducible refine EV.z_mkO ?_ | with_reducible refine EV.z_mkK ?_))
/-! ### defs that may raise -/
namespace EV
open PySem PySem.Spec PyProof.Rows L2
/-- a def of the module that may raise -/
structure CalX (P : Program) (w : World) (K : PySem.W.Frag) (mg : Str → Option Value) (base : Heap) (k : Nat) (x : Str) (sp : Sp) : Prop where
  ex : ∃ (f : Addr) (fd : FuncData) (ps : List Str), FnOk P w K mg base (L2.CX P w) k f fd ps sp ∧ mg x = some (.ref f) ∧ PySem.W.keepIn K (.ref f) = true ∧ Binds K fd ps []
section
variable {P : Program} {w : World} {K : PySem.W.Frag} {mg : Str → Option Value} {base : Heap}
theorem fnX {x : Str} {st : Stmt} {f : Addr} {fd : FuncData} {N ps : List Str} {k : Nat} {sp : Sp} (F : C8.Def K mg x st f fd) (S : FnScope N ps (C8.fnScope st)) (len : ∀ vs H Q E, sp vs H Q E → vs.length = ps.length)
    (hbody : ∀ (cdv : Value) (A : Around) (outer : List Env) (s : Shared) (H : Hp) (vs : List V) (Q : VK) (E : XK), Room k (A.deeper (envOfC x (C8.fnScope st) s.heap.objs.size f cdv)) → sp vs H Q E →
      ∃ t, PSs (cxOf (L2.CX P w) P w K mg base N x (C8.fnScope st) f cdv A outer s H E) (C8.fnBody st) t ∧ t { nx := fun _ H' => Q .non H', rt := Q } (start N vs) H) : FnOk P w K mg base (L2.CX P w) (k + 1) f fd ps sp := by
  obtain ⟨oc, od, dV, kV, doc, pm, an, cdv, ct, osl, rfl, lk, hcd⟩ := F.fn.ex
  exact fn_of lk hcd S len fun A outer s H vs Q E hr hsp => hbody cdv A outer s H vs Q E hr hsp
theorem calX {x : Str} {st : Stmt} {f : Addr} {fd : FuncData} {N ps : List Str} {k : Nat} {sp : Sp} (F : C8.Def K mg x st f fd) (b : Binds K fd ps []) (S : FnScope N ps (C8.fnScope st)) (len : ∀ vs H Q E, sp vs H Q E → vs.length = ps.length)
    (hbody : ∀ (cdv : Value) (A : Around) (outer : List Env) (s : Shared) (H : Hp) (vs : List V) (Q : VK) (E : XK), Room k (A.deeper (envOfC x (C8.fnScope st) s.heap.objs.size f cdv)) → sp vs H Q E →
      ∃ t, PSs (cxOf (L2.CX P w) P w K mg base N x (C8.fnScope st) f cdv A outer s H E) (C8.fnBody st) t ∧ t { nx := fun _ H' => Q .non H', rt := Q } (start N vs) H) : CalX P w K mg base (k + 1) x sp := by
  obtain ⟨oc, od, dV, kV, doc, pm, an, cdv, ct, osl, rfl, lk, hcd⟩ := F.fn.ex
  exact ⟨f, _, ps, fn_of lk hcd S len fun A outer s H vs Q E hr hsp => hbody cdv A outer s H vs Q E hr hsp, F.mgf, F.kp, b⟩
end
section
variable {X : Cx} {k j : Nat} {x : Str} {sp : Sp} {p pos : Pos} {e : Expr} {es : List Expr} {t : TA} {W : WX}
/-- called where nothing may be raised -/
theorem pe_x0 (c : CalX X.prog X.w X.K X.mg X.base k x sp) (hr : Room j X.A) (hk : k ≤ j) (hg : Gl X x) (ha : PA X (e :: es) t)
    (hdb : (x == ("__debug__" : Str)) = false := by decide) (he : starEach (e :: es) X.env = (false, eval e X.env) :: starEach es X.env := by rfl) (hpl : (backTo pos (starEach es X.env)).any (·.1) = false := by rfl) :
    PE X (.Call (.Name x p) (e :: es) [] pos) (tCall sp [] (fun _ _ _ => False) t) := by
  obtain ⟨f, fd, ps, F, hm, kp, b⟩ := c.ex
  exact pe_call F (hr.mono hk) hg hm kp b .nil passL ha hdb he hpl
/-- called where what is raised is wished for -/
theorem pe_xW (c : CalX X.prog X.w X.K X.mg X.base k x sp) (tk : Takes X W) (hr : Room j X.A) (hk : k ≤ j) (hg : Gl X x) (ha : PA X (e :: es) t)
    (hdb : (x == ("__debug__" : Str)) = false := by decide) (he : starEach (e :: es) X.env = (false, eval e X.env) :: starEach es X.env := by rfl) (hpl : (backTo pos (starEach es X.env)).any (·.1) = false := by rfl) :
    PE X (.Call (.Name x p) (e :: es) [] pos) (tCallS sp (WE W) t) := by
  obtain ⟨f, fd, ps, F, hm, kp, b⟩ := c.ex
  exact pe_callS F (hr.mono hk) hg hm kp b (fun σ => passAt tk σ) ha hdb he hpl
end
/-- an own exception class without an __init__ -/
structure XCls (K : PySem.W.Frag) (mg : Str → Option Value) (x : Str) (C : Addr) : Prop where
  g : mg x = some (.ref C)
  q : PySem.W.excIn K C [.type "ValueError", .type "Exception", .type "BaseException", .type "object"] "ValueError.__new__" = true
  k : PySem.W.keepIn K (.ref C) = true
  b : PySem.W.subIn K (.ref C) (.type "BaseException") = some true
  t : PySem.W.typeIn K (.ref C) = some (.type "type")
/-- one with an __init__ of its own -/
structure XOwn (K : PySem.W.Frag) (mg : Str → Option Value) (x : Str) (C fI : Addr) : Prop where
  g : mg x = some (.ref C)
  o : OexC K C
  i : PySem.W.findIn K (.ref C) "__init__" = some (some (.ref fI))
  f : PySem.W.typeIn K (.ref fI) = some (.type "function")
theorem z_ost1 {K : PySem.W.Frag} {f : Str} {to te : TE} {D : Ends} {σ : L2.St} {H : Hp} (q : te σ H fun y H1 => to σ H1 fun x H2 => ∃ a C : Addr, x = .ref a ∧ OexC K C ∧ PySem.W.findIn K (.ref C) f = some none ∧
  ((H2 a = some (exo a C none) ∧ ∀ dx, H2 dx = none → dx ≠ a → D.nx σ (upd (upd H2 dx (exd dx [(f, y)])) a (exo a C (some dx)))) ∨
    ∃ (dx : Addr) (fs : List (Str × V)), H2 a = some (exo a C (some dx)) ∧ H2 dx = some (exd dx fs) ∧ fs.length ≤ 900 ∧ D.nx σ (upd H2 dx (exd dx ((f, y) :: fs))))) : tOst K f to te D σ H := q
theorem pj_nil {X : Cx} : PJ X [] [] := .nil
theorem pj_cons {X : Cx} {e : Expr} {t : TE} {es : List Expr} {ts : List TE} (h : PE X e t) (r : PJ X es ts) : PJ X (e :: es) (t :: ts) := .cons h r
theorem js_add {a b : Str} {n m : Nat} (ha : a.length ≤ n) (hb : b.length ≤ m) : (a ++ b).length ≤ n + m := by rw [Str.length_append]; omega
theorem js_v {σ : L2.St} {H : Hp} {i n : Nat} {x a : Str} {ts : List TE} {Q : Str → Hp → Prop} (hx : σ[i]? = some (some (.str x))) (lx : x.length ≤ 6) (la : a.length ≤ n) (ln : n + 6 ≤ 1000) (q : tJs ts (a ++ x) σ H Q) : tJs (tFmt (tVar i) :: ts) a σ H Q :=
  ⟨_, hx, .inl ⟨x, rfl, sz (by omega), x, rfl, sz (by have := js_add la lx; omega), q⟩⟩
theorem js_c {σ : L2.St} {H : Hp} {n m : Nat} {x a : Str} {ts : List TE} {Q : Str → Hp → Prop} (lx : x.length ≤ m) (la : a.length ≤ n) (ln : n + m ≤ 1000) (q : tJs ts (a ++ x) σ H Q) : tJs (tC (.str x) :: ts) a σ H Q :=
  ⟨x, rfl, sz (by have := js_add la lx; omega), q⟩
/-- the classes of what is raised -/
structure XT (K : PySem.W.Frag) (mg : Str → Option Value) (CB CI CU fU : Addr) : Prop where
  B : XCls K mg "Barred" CB
  I : XCls K mg "Idle" CI
  U : XOwn K mg "Uneven" CU fU
def spBeyond (C : Addr) : Sp := fun vs H Q _ => ∃ (F : Hp) (g p q : Addr) (M : Hld) (W : Lvs) (cs : Bars) (ps qs : List Str), vs = [.ref g, .ref p, .ref q] ∧ Sub F H ∧ Gr F C g M W cs ∧ F p = some (.tup (ps.map V.str)) ∧ F q = some (.tup (qs.map V.str)) ∧ ps.length ≤ 1000 ∧
  (∀ y ∈ ps, y ∈ W.map (·.1)) ∧ ∀ H', Nx No F H F H' → Q (.int (byd (lfn W) ps qs)) H'
/-- what two would get, each of the other -/
def gx (M : Hld) (W : Lvs) (x y : Str) : Int := byd (lfn W) (hLf M y) (hLf M x)
def spGain (C CB : Addr) : Sp := fun vs H Q E => ∃ (F : Hp) (g : Addr) (M : Hld) (W : Lvs) (cs : Bars) (x y : Str), vs = [.ref g, .str x, .str y] ∧ Sub F H ∧ Gr F C g M W cs ∧ x ∈ M.map (·.1) ∧ y ∈ M.map (·.1) ∧
  ((x = y ∨ barP cs x y) → ∀ F' H', Nx No F H F' H' → E (.ref CB) none H') ∧
  (x ≠ y → ¬ barP cs x y → ∀ p F' H', Nx No F H F' H' → F' p = some (.tup [.int (gx M W x y), .int (gx M W y x)]) → Q (.ref p) H')
def spCheck (C CB CI CU : Addr) : Sp := fun vs H Q E => ∃ (F : Hp) (g : Addr) (M : Hld) (W : Lvs) (cs : Bars) (x y : Str), vs = [.ref g, .str x, .str y] ∧ Sub F H ∧ Gr F C g M W cs ∧ x ∈ M.map (·.1) ∧ y ∈ M.map (·.1) ∧
  ((x = y ∨ barP cs x y) → ∀ F' H', Nx No F H F' H' → E (.ref CB) none H') ∧
  (x ≠ y → ¬ barP cs x y → gx M W x y = 0 → gx M W y x = 0 → ∀ F' H', Nx No F H F' H' → E (.ref CI) none H') ∧
  (x ≠ y → ¬ barP cs x y → gx M W x y ≠ gx M W y x → ∀ d F' H', Nx No F H F' H' → H d = none → H' d = some (.xd [("gets", .int (gx M W x y)), ("gives", .int (gx M W y x))]) → E (.ref CU) (some d) H') ∧
  (x ≠ y → ¬ barP cs x y → gx M W x y = gx M W y x → gx M W x y ≠ 0 → ∀ F' H', Nx No F H F' H' → Q .non H')
end EV
end

section
set_option maxHeartbeats 2000000
/-! ### a name for a dict that a comprehension makes -/
namespace EV
open PySem PySem.Spec PyProof.Rows L2
section
variable {X : Cx}
theorem ps_setDc {i : Nat} {y : Str} {py : Pos} {kx vx tg iter : Expr} {ifs : List Expr} {scope : Scope} {own : List (Str × Nat)} {pos spos : Pos} {wi : TI} {g : TG} {tt : TT} {tk tv : TE} (hc : X.calm = true) (hN : X.N.Nodup) (hy : X.N[i]? = some y) (hyl : X.env.scope.names.lookup y = some .local)
    (hsw : swapsWith (.DictComp kx vx [⟨tg, iter, ifs, 0⟩] scope pos) (some (.Name y py)) spos.line X.env = pure true) (hi : PI X tg iter wi) (ok : BlkOk X.N X.env.scope scope own)
    (hg : ∀ (s : Shared) (H : Hp) (C : Addr) (cl : List (Str × Addr)) (fp : List Addr), PG (X.blk s H scope (compEnvC scope cl C X.env) fp) tg g) (hts : ∀ (s : Shared) (H : Hp) (C : Addr) (cl : List (Str × Addr)) (fp : List Addr), PTs (X.blk s H scope (compEnvC scope cl C X.env) fp) ifs tt)
    (hkx : ∀ (s : Shared) (H : Hp) (C : Addr) (cl : List (Str × Addr)) (fp : List Addr), PE (X.blk s H scope (compEnvC scope cl C X.env) fp) kx tk) (hvx : ∀ (s : Shared) (H : Hp) (C : Addr) (cl : List (Str × Addr)) (fp : List Addr), PE (X.blk s H scope (compEnvC scope cl C X.env) fp) vx tv) (hs : ∀ x, foldedSetIterable iter X.env x = pure x := by intro _; rfl) :
    PS X (.Assign [.Name y py] (.DictComp kx vx [⟨tg, iter, ifs, 0⟩] scope pos) spos) (tAsg (tDc wi g tt tk tv (own.map (·.2))) (gName i)) := by
  refine ⟨fun pins s σ H D I ht => ?_⟩
  have h : tDc wi g tt tk tv (own.map (·.2)) σ H (fun x H1 => gName i x σ H1 D.nx) := ht
  rw [exec_Assign_Name_used _ _ _ _ hsw]; refine wpAny_bind (wpAny_standAt (wpAny_bind ?_))
  show wpAny _ X.A (do let _ ← comprehension (.DictComp kx vx [⟨tg, iter, ifs, 0⟩] scope pos) scope X.env (firstIterPos [⟨tg, iter, ifs, 0⟩] pos) newDict false (eval iter X.env) (some (assign (.Name y py) X.env))) _ _ s
  refine wpAny_bind (thn (dc_core (Qf := fun _ s' => SP X pins D .next s') hc hN I hi ok hg hts hkx hvx hs h fun L C s' m H' I' q hn f => ?_) fun _ s' hq => wpAny_pure (wpAny_pure hq))
  show wpAny _ _ (assign (.Name y py) X.env (.ref L)) _ _ _
  refine wpAny_assign_Name (store_ok2 (v := V.ref L) I' hN hy (.inl hyl) rfl (fun s2 I2 ⟨a, sb, ha⟩ => ?_) (.inr hyl))
  have haC : C ≠ a := ha.elim (fun z => by rw [z]; exact f.2.1) fun z e => f.2.2.2.2.1 y a z e.symm
  exact ⟨m, hn.sameBut sb haC, fun h3 sb3 => ⟨_, H', I2.turned (t' := s2.toks) (fun b o hb e => (sb3.2 b hb).trans e) f.1 f.2.1 f.2.2.2.1 f.2.2.2.2.1 f.2.2.2.2.2, q⟩⟩
theorem sw_trueD {kx vx : Expr} {gs : List Comprehension} {scope : Scope} {pos py : Pos} {y : Str} {l : Nat} {env : Env} (hk : env.scope.kind = .function) (hy : env.scope.names.lookup y = some .local) (hl : (py.line == pos.line) = true)
    (hno : (scope.names.any fun (n, k) => n == y && (k == .local || k == .cell)) = false) : swapsWith (.DictComp kx vx gs scope pos) (some (.Name y py)) l env = pure true := by
  have hb : env.blockKind = .function := by unfold Env.blockKind; rw [hk]; rfl
  unfold swapsWith; simp only [hb, show env.kindOf y = some .local from hy, hno, Expr.pos, hl]; rfl
end
end EV
end

section
set_option maxHeartbeats 2000000
local macro_rules | `(tactic| walk_at "za") => `(tactic| (first | exact Or.inl ⟨by omega, by omega⟩ | exact Or.inr ⟨by omega, by omega⟩ | exact ⟨by omega, by omega⟩ | exact ⟨by omega, by omega, by omega⟩ | omega))
local macro_rules | `(tactic| walk_at "z") => `(tactic| (first
  | with_reducible refine EV.z_seq ?_ | with_reducible refine EV.z_next ?_ | with_reducible refine EV.z_nx ?_ | with_reducible refine EV.z_rt ?_ | with_reducible refine EV.z_asg ?_ | with_reducible refine EV.z_name ?_
  | with_reducible refine EV.z_drop ?_ | with_reducible refine EV.z_ret ?_ | with_reducible refine EV.z_if ?_
  | ((with_reducible refine EV.z_var (v := ?vv) ?hv ?_); (case hv => exact rfl)) | with_reducible refine EV.z_c ?_ | with_reducible refine EV.z_op ?_ | with_reducible refine EV.z_un ?_ | with_reducible refine EV.z_I0 ?_ | with_reducible refine EV.z_U ?_ | ((with_reducible refine EV.z_I ?hc ?_); (case hc => walk_at "za"))
  | ((with_reducible refine EV.z_eq ?hv ?_); (case hv => exact rfl)) | ((with_reducible refine EV.z_ne ?hv ?_); (case hv => exact rfl))
  | with_reducible refine EV.z_test ?_ | with_reducible refine EV.z_bl ?_ | with_reducible refine EV.z_B ?_ | with_reducible refine EV.z_and ?_ | with_reducible refine EV.z_or ?_ | with_reducible refine EV.z_not ?_ | with_reducible refine EV.z_andV ?_
  | with_reducible refine EV.z_orV ?_ | with_reducible refine EV.z_notV ?_ | with_reducible refine EV.z_ifE ?_ | with_reducible refine EV.z_nil ?_ | with_reducible refine EV.z_cons ?_ | with_reducible refine EV.z_tup ?_ | with_reducible refine EV.z_lst ?_
  | with_reducible refine EV.z_cb ?_ | with_reducible refine EV.z_call ?_ | with_reducible refine EV.z_dget ?_ | with_reducible refine EV.z_dput ?_ | with_reducible refine EV.z_chain ?_ | with_reducible refine EV.z_then ?_ | with_reducible refine EV.z_fld ?_ | with_reducible refine EV.z_bm ?_
  | with_reducible refine EV.z_par ?_ | with_reducible refine EV.z_par3 ?_ | with_reducible refine EV.z_ex2 ?_ | with_reducible refine EV.z_ex3 ?_ | with_reducible refine EV.z_tyes ?_ | ((with_reducible refine EV.z_wipe ?hv ?_); (case hv => exact rfl))
  | with_reducible refine EV.z_lc ?_ | with_reducible refine EV.z_ltS ?_ | with_reducible refine EV.z_disp ?_ | with_reducible refine EV.z_pc ?_ | with_reducible refine EV.z_pn ?_ | with_reducible refine EV.z_m1 ?_ | with_reducible refine EV.z_isS ?_ | with_reducible refine EV.z_sl ?_ | with_reducible refine EV.z_np ?_ | with_reducible refine EV.z_pt ?_ | with_reducible refine EV.z_exI ?_ | with_reducible refine EV.z_is ?_ | with_reducible refine EV.z_istr ?_ | with_reducible refine EV.z_no ?_ | with_reducible refine EV.z_yes ?_ | with_reducible refine EV.z_for ?_ | with_reducible refine EV.z_il ?_ | with_reducible refine EV.z_it ?_ | with_reducible refine EV.z_r1 ?_ | with_reducible refine EV.z_ik ?_ | with_reducible refine EV.z_din ?_ | with_reducible refine EV.z_dnin ?_ | with_reducible refine EV.z_dsd ?_ | with_reducible refine EV.z_gs ?_ | with_reducible refine EV.z_gc ?_ | with_reducible refine EV.z_gn ?_ | with_reducible refine EV.z_turn ?_))
local macro_rules | `(tactic| walk_at "zz") => `(tactic| repeat walk_at "z")
local macro_rules | `(tactic| walk_at "z") => `(tactic| (first | with_reducible refine EV.z_mt ?_ | with_reducible refine EV.z_cS ?_ | with_reducible refine EV.z_mkO ?_ | with_reducible refine EV.z_mkK ?_))
/-! ### a group made by its class's name -/
namespace EV
open PySem PySem.Spec PyProof.Rows L2
structure MkG (P : Program) (w : World) (K : PySem.W.Frag) (mg : Str → Option Value) (base : Heap) (C : Addr) : Prop where
  ex : ∃ (f : Addr) (fd : FuncData) (g : List Value → List Value → List Value), Mk K C f ∧ FnOk P w K mg base C8.CX0 4 f fd P_Group___init__ (spInit C) ∧ mg "Group" = some (.ref C) ∧ KBn K fd P_Group___init__ 2 ["leaves", "barred"] g (fun vs zs => vs ++ zs)
theorem pe_mkG {X : Cx} {C : Addr} {j : Nat} {e : Expr} {es : List Expr} {kws : List Keyword} {p pos : Pos} {t tk : TA} (c : MkG X.prog X.w X.K X.mg X.base C) (hr : Room j X.A) (hk : 5 ≤ j) (hg : Gl X "Group") (ha : PA X (e :: es) t) (hkw : PK X kws tk)
    (hall : (backToKw pos (keywordEach kws X.env)).all (·.1.isSome) = true := by rfl) (hks : (backToKw pos (keywordEach kws X.env)).filterMap (·.1) = (["leaves", "barred"] : List Str) := by rfl)
    (he : starEach (e :: es) X.env = (false, eval e X.env) :: starEach es X.env := by rfl) (hpl : ((backTo pos (starEach (e :: es) X.env)).any (·.1) || (backToKw pos (keywordEach kws X.env)).any (·.1.isNone)) = false := by rfl) :
    PE X (.Call (.Name "Group" p) (e :: es) kws pos) (tMakeK C 1 2 (spInit C) (fun vs zs => vs ++ zs) C8.E0 t tk) := by
  obtain ⟨f, fd, g, M, F, hm, kb⟩ := c.ex
  exact pe_makeK M F (hr.mono hk) hg hm kb C8.pass0 ha hkw hall hks (by decide) he hpl
/-- what it comes to -/
theorem mkG_ok {C : Addr} {F H : Hp} {hd lv br : Addr} {L : Hld} {W : Lvs} {bs : Bars} {Q : VK} {E : XK} (sF : Sub F H) (hh : H hd = some (.dK (heldK L))) (fh : F hd = none) (hlv : H lv = some (.dK (lvK W))) (hbr : F br = some (.lst (bs.map fun t => V.ref t.1))) (hba : BarsA F bs) (hO : HeldO F L) (D : WD L W bs)
    (k : ∀ x M W' cs F' H', Nx No F H F' H' → Gr F' C x M W' cs → Cor L W bs M W' cs → Q (.ref x) H') :
    ([V.ref hd] : List V).length = 1 ∧ ([V.ref lv, V.ref br] : List V).length = 2 ∧ ∀ x dx, H x = none → H dx = none → dx ≠ x → spInit C ([V.ref x, V.ref hd] ++ [V.ref lv, V.ref br]) (upd (upd H dx (.own x)) x (.ins C dx [])) (fun v H3 => v = .non ∧ Q (.ref x) H3) E := by
  refine ⟨rfl, rfl, fun x dx hx hdx ne => ?_⟩
  have up : ∀ {a o}, H a = some o → (upd (upd H dx (.own x)) x (.ins C dx [])) a = some o := fun {a o} h => by
    rw [upd_ne (ne_of_none h hx), upd_ne (ne_of_none h hdx)]; exact h
  have ew : wo (upd (upd H dx (.own x)) x (.ins C dx [])) x x = upd H dx (.own x) := by
    funext b
    by_cases e : b = x
    · subst e; rw [wo_l, upd_ne ne.symm, hx]
    · rw [wo_ne e e, upd_ne e]
  refine ⟨F, x, dx, hd, lv, br, L, W, bs, rfl, upd_same, fun a o h => up (sF a o h), sF.none hx, up hh, fh, ne_of_none hh hx, up hlv, hbr, hba, hO, D, fun h1 l1 b1 M W' cs F' H' Z gp gd co => ?_⟩
  rw [ew] at Z
  exact ⟨rfl, k x M W' cs F' H' ((Nx.mak (o := .own x) sF hdx).trans Z) ⟨⟨_, _, _, gp⟩, gd⟩ co⟩
/-! ### what one would get -/
section
variable {M : Hld} {W : Lvs} {cs : Bars} {x y : Str}
theorem GD.nds (G : GD M W cs) (hx : x ∈ M.map (·.1)) : (hLf M x).Nodup := by
  obtain ⟨t, ht, _, e⟩ := G.d.at hx
  rw [e]; exact (G.d.ok ht).1
theorem GD.srt (G : GD M W cs) (hx : x ∈ M.map (·.1)) : Srt (hLf M x) := by
  obtain ⟨t, ht, _, e⟩ := G.d.at hx
  rw [e]; exact G.pages t ht
theorem GD.cov (G : GD M W cs) (hx : x ∈ M.map (·.1)) {u : Str} (hu : u ∈ hLf M x) : u ∈ W.map (·.1) := by
  obtain ⟨t, ht, _, e⟩ := G.d.at hx
  rw [e] at hu; exact (G.d.ok ht).2 u hu
theorem GD.f1 (G : GD M W cs) (hx : x ∈ M.map (·.1)) : ∀ u ∈ hLf M x, 1 ≤ lfn W u := fun u hu => G.d.lf1 (G.cov hx hu)
theorem GD.l12 (G : GD M W cs) (hx : x ∈ M.map (·.1)) : (hLf M x).length ≤ 12 := by
  obtain ⟨t, ht, _, e⟩ := G.d.at hx
  rw [e]; exact G.d.pl ht
/-- two may call evenly just where each gets as much as it gives, and more than nothing -/
theorem GD.even (G : GD M W cs) (hx : x ∈ M.map (·.1)) (hy : y ∈ M.map (·.1)) : evenF (hLf M) (lfn W) cs x y ↔ x ≠ y ∧ ¬ barP cs x y ∧ gx M W x y = gx M W y x ∧ gx M W x y ≠ 0 := by
  have nx := G.nds hx
  have ny := G.nds hy
  have fx := G.f1 hx
  have fy := G.f1 hy
  constructor
  · intro e
    have ev := (even_byd (f := lfn W) nx ny).mp e.2.2.2
    refine ⟨e.1, e.2.1, ev.symm, fun z => ?_⟩
    have s2 := (byd_zero (qs := hLf M x) fy).mp z
    have s1 := (byd_zero (qs := hLf M y) fx).mp (by rw [ev]; exact z)
    exact e.2.2.1 ((List.perm_ext_iff_of_nodup nx ny).mpr fun u => ⟨s1 u, s2 u⟩)
  · rintro ⟨ne, nb, e, n0⟩
    refine ⟨ne, nb, fun p => n0 ?_, (even_byd nx ny).mpr e.symm⟩
    exact (byd_zero (qs := hLf M x) fy).mpr fun u hu => p.mem_iff.mpr hu
end
/-! ### two groups alike -/
theorem srt_eq {l m : List Str} (sl : Srt l) (sm : Srt m) (nl : l.Nodup) (nm : m.Nodup) (h : ∀ x, x ∈ l ↔ x ∈ m) : l = m := sl.eq sm ((List.perm_ext_iff_of_nodup nl nm).mpr h)
theorem lvs_ext : ∀ {W W' : Lvs}, (W.map (·.1)).Nodup → W.map (·.1) = W'.map (·.1) → (∀ x ∈ W.map (·.1), lfn W x = lfn W' x) → W = W'
  | [], [], _, _, _ => rfl
  | [], _ :: _, _, e, _ => by cases e
  | _ :: _, [], _, e, _ => by cases e
  | (a, n) :: W, (b, m) :: W', nd, e, h => by
    have e0 : a = b := (List.cons.inj e).1
    have et : W.map (·.1) = W'.map (·.1) := (List.cons.inj e).2
    subst e0
    rw [List.map_cons, List.nodup_cons] at nd
    have nd' : a ∉ W'.map (·.1) := by rw [← et]; exact nd.1
    have h0 := h a (by simp)
    have n1 : (((a, n) :: W).map (·.1)).Nodup := by rw [List.map_cons, List.nodup_cons]; exact nd
    have n2 : (((a, m) :: W').map (·.1)).Nodup := by rw [List.map_cons, List.nodup_cons]; exact ⟨nd', by rw [← et]; exact nd.2⟩
    rw [lfn_mem (W := (a, n) :: W) (q := (a, n)) n1 List.mem_cons_self, lfn_mem (W := (a, m) :: W') (q := (a, m)) n2 List.mem_cons_self] at h0
    have hn : n = m := h0
    subst hn
    congr 1
    refine lvs_ext nd.2 et fun x hx => ?_
    have hx' : x ∈ W'.map (·.1) := by rw [← et]; exact hx
    have hh := h x (List.mem_cons_of_mem _ hx)
    obtain ⟨q, hq, rfl⟩ := List.mem_map.mp hx
    obtain ⟨r, hr, er⟩ := List.mem_map.mp hx'
    rw [lfn_mem n1 (List.mem_cons_of_mem _ hq), ← er, lfn_mem n2 (List.mem_cons_of_mem _ hr)] at hh
    rw [lfn_mem nd.2 hq, ← er, lfn_mem (by rw [← et]; exact nd.2) hr]
    exact hh
theorem risP_nd {cs : Bars} (h : RisP cs) : (cs.map (·.2)).Nodup := by
  refine List.pairwise_map.mpr (h.imp fun {u v} l e => ?_)
  rw [e] at l
  have := Sets.ltP_asymm l
  rw [l] at this
  cases this
theorem risP_eq {cs ds : Bars} (h : RisP cs) (g : RisP ds) (m : ∀ q, q ∈ cs.map (·.2) ↔ q ∈ ds.map (·.2)) : cs.map (·.2) = ds.map (·.2) := by
  refine ((List.perm_ext_iff_of_nodup (risP_nd h) (risP_nd g)).mpr m).eq_of_pairwise (le := fun a b => Sets.ltP a b = true) (fun a b _ _ l1 l2 => ?_) (List.pairwise_map.mpr h) (List.pairwise_map.mpr g)
  rw [Sets.ltP_asymm l1] at l2
  cases l2
theorem barP_iff {bs : Bars} {x y : Str} : barP bs x y ↔ (x, y) ∈ bs.map (·.2) ∨ (y, x) ∈ bs.map (·.2) := by
  constructor
  · rintro ⟨t, ht, e | e⟩
    · exact .inl (e ▸ List.mem_map_of_mem ht)
    · exact .inr (e ▸ List.mem_map_of_mem ht)
  · rintro (h | h)
    · obtain ⟨t, ht, e⟩ := List.mem_map.mp h
      exact ⟨t, ht, .inl e⟩
    · obtain ⟨t, ht, e⟩ := List.mem_map.mp h
      exact ⟨t, ht, .inr e⟩
theorem barP_congr {bs cs : Bars} (h : ∀ q, q ∈ cs.map (·.2) ↔ q ∈ bs.map (·.2)) {x y : Str} : barP cs x y ↔ barP bs x y := by rw [barP_iff, barP_iff, h, h]
/-- a group made of another one's things in order is made of these very leaves and bars -/
theorem cor_lvs {L M : Hld} {W W' : Lvs} {bs cs : Bars} (D : WD L W bs) (sW : Srt (W.map (·.1))) (G : GD M W' cs) (c : Cor L W bs M W' cs) : W' = W := by
  have mem : ∀ y, y ∈ W'.map (·.1) ↔ y ∈ W.map (·.1) := fun y => by
    constructor
    · intro h
      obtain ⟨q, hq, rfl⟩ := List.mem_map.mp h
      obtain ⟨t, ht, hy⟩ := G.d.wh hq
      have hn : t.1 ∈ L.map (·.1) := c.names.mem_iff.mp (List.mem_map_of_mem ht)
      obtain ⟨u, hu, _, e⟩ := D.at hn
      exact (D.ok hu).2 _ (by rw [← e]; exact (c.pages t ht).mem_iff.mp hy)
    · intro h
      obtain ⟨q, hq, rfl⟩ := List.mem_map.mp h
      obtain ⟨u, hu, hy⟩ := D.wh hq
      have hn : u.1 ∈ M.map (·.1) := c.names.mem_iff.mpr (List.mem_map_of_mem hu)
      obtain ⟨t, ht, et⟩ := List.mem_map.mp hn
      refine (G.d.ok ht).2 _ ((c.pages t ht).mem_iff.mpr ?_)
      rw [et, hLf_of D.nd hu]
      exact hy
  exact lvs_ext G.d.wn (srt_eq G.lvs sW G.d.wn D.wn mem) fun x hx => c.lvs x hx
end EV
end

section
set_option maxHeartbeats 2000000
local macro_rules | `(tactic| walk_at "za") => `(tactic| (first | exact Or.inl ⟨by omega, by omega⟩ | exact Or.inr ⟨by omega, by omega⟩ | exact ⟨by omega, by omega⟩ | exact ⟨by omega, by omega, by omega⟩ | omega))
local macro_rules | `(tactic| walk_at "z") => `(tactic| (first
  | with_reducible refine EV.z_seq ?_ | with_reducible refine EV.z_next ?_ | with_reducible refine EV.z_nx ?_ | with_reducible refine EV.z_rt ?_ | with_reducible refine EV.z_asg ?_ | with_reducible refine EV.z_name ?_
  | with_reducible refine EV.z_drop ?_ | with_reducible refine EV.z_ret ?_ | with_reducible refine EV.z_if ?_
  | ((with_reducible refine EV.z_var (v := ?vv) ?hv ?_); (case hv => exact rfl)) | with_reducible refine EV.z_c ?_ | with_reducible refine EV.z_op ?_ | with_reducible refine EV.z_un ?_ | with_reducible refine EV.z_I0 ?_ | with_reducible refine EV.z_U ?_ | ((with_reducible refine EV.z_I ?hc ?_); (case hc => walk_at "za"))
  | ((with_reducible refine EV.z_eq ?hv ?_); (case hv => exact rfl)) | ((with_reducible refine EV.z_ne ?hv ?_); (case hv => exact rfl))
  | with_reducible refine EV.z_test ?_ | with_reducible refine EV.z_bl ?_ | with_reducible refine EV.z_B ?_ | with_reducible refine EV.z_and ?_ | with_reducible refine EV.z_or ?_ | with_reducible refine EV.z_not ?_ | with_reducible refine EV.z_andV ?_
  | with_reducible refine EV.z_orV ?_ | with_reducible refine EV.z_notV ?_ | with_reducible refine EV.z_ifE ?_ | with_reducible refine EV.z_nil ?_ | with_reducible refine EV.z_cons ?_ | with_reducible refine EV.z_tup ?_ | with_reducible refine EV.z_lst ?_
  | with_reducible refine EV.z_cb ?_ | with_reducible refine EV.z_call ?_ | with_reducible refine EV.z_dget ?_ | with_reducible refine EV.z_dput ?_ | with_reducible refine EV.z_chain ?_ | with_reducible refine EV.z_then ?_ | with_reducible refine EV.z_fld ?_ | with_reducible refine EV.z_bm ?_
  | with_reducible refine EV.z_par ?_ | with_reducible refine EV.z_par3 ?_ | with_reducible refine EV.z_ex2 ?_ | with_reducible refine EV.z_ex3 ?_ | with_reducible refine EV.z_tyes ?_ | ((with_reducible refine EV.z_wipe ?hv ?_); (case hv => exact rfl))
  | with_reducible refine EV.z_lc ?_ | with_reducible refine EV.z_ltS ?_ | with_reducible refine EV.z_disp ?_ | with_reducible refine EV.z_pc ?_ | with_reducible refine EV.z_pn ?_ | with_reducible refine EV.z_m1 ?_ | with_reducible refine EV.z_isS ?_ | with_reducible refine EV.z_sl ?_ | with_reducible refine EV.z_np ?_ | with_reducible refine EV.z_pt ?_ | with_reducible refine EV.z_exI ?_ | with_reducible refine EV.z_is ?_ | with_reducible refine EV.z_istr ?_ | with_reducible refine EV.z_no ?_ | with_reducible refine EV.z_yes ?_ | with_reducible refine EV.z_for ?_ | with_reducible refine EV.z_il ?_ | with_reducible refine EV.z_it ?_ | with_reducible refine EV.z_r1 ?_ | with_reducible refine EV.z_ik ?_ | with_reducible refine EV.z_din ?_ | with_reducible refine EV.z_dnin ?_ | with_reducible refine EV.z_dsd ?_ | with_reducible refine EV.z_gs ?_ | with_reducible refine EV.z_gc ?_ | with_reducible refine EV.z_gn ?_ | with_reducible refine EV.z_turn ?_))
local macro_rules | `(tactic| walk_at "zz") => `(tactic| repeat walk_at "z")
local macro_rules | `(tactic| walk_at "z") => `(tactic| (first | with_reducible refine EV.z_mt ?_ | with_reducible refine EV.z_cS ?_ | with_reducible refine EV.z_mkO ?_ | with_reducible refine EV.z_mkK ?_))
/-! ### all that is held, all leaves -/
namespace EV
open PySem PySem.Spec PyProof.Rows L2
def spAllHeld (C : Addr) : Sp := fun vs H Q _ => ∃ (F : Hp) (g : Addr) (M : Hld) (W : Lvs) (cs : Bars), vs = [.ref g] ∧ Sub F H ∧ Gr F C g M W cs ∧
  ∀ (D : Addr) F' H' (L : Hld), Nx No F H F' H' → H D = none → F' D = none → H' D = some (.dK (heldK L)) → HeldT F' L → L.map (·.1) = M.map (·.1) → (∀ t ∈ L, t.2.2 = hLf M t.1) → Q (.ref D) H'
def spAllLeaves (C : Addr) : Sp := fun vs H Q _ => ∃ (F : Hp) (g : Addr) (M : Hld) (W : Lvs) (cs : Bars), vs = [.ref g] ∧ Sub F H ∧ Gr F C g M W cs ∧
  ∀ (D : Addr) F' H', Nx No F H F' H' → H D = none → F' D = none → H' D = some (.dK (lvK W)) → Q (.ref D) H'
end EV
end

section
set_option maxHeartbeats 4000000
local macro_rules | `(tactic| walk_at "za") => `(tactic| (first | exact Or.inl ⟨by omega, by omega⟩ | exact Or.inr ⟨by omega, by omega⟩ | exact ⟨by omega, by omega⟩ | exact ⟨by omega, by omega, by omega⟩ | omega))
local macro_rules | `(tactic| walk_at "z") => `(tactic| (first
  | with_reducible refine EV.z_seq ?_ | with_reducible refine EV.z_next ?_ | with_reducible refine EV.z_nx ?_ | with_reducible refine EV.z_rt ?_ | with_reducible refine EV.z_asg ?_ | with_reducible refine EV.z_name ?_
  | with_reducible refine EV.z_drop ?_ | with_reducible refine EV.z_ret ?_ | with_reducible refine EV.z_if ?_
  | ((with_reducible refine EV.z_var (v := ?vv) ?hv ?_); (case hv => exact rfl)) | with_reducible refine EV.z_c ?_ | with_reducible refine EV.z_op ?_ | with_reducible refine EV.z_un ?_ | with_reducible refine EV.z_I0 ?_ | with_reducible refine EV.z_U ?_ | ((with_reducible refine EV.z_I ?hc ?_); (case hc => walk_at "za"))
  | ((with_reducible refine EV.z_eq ?hv ?_); (case hv => exact rfl)) | ((with_reducible refine EV.z_ne ?hv ?_); (case hv => exact rfl))
  | with_reducible refine EV.z_test ?_ | with_reducible refine EV.z_bl ?_ | with_reducible refine EV.z_B ?_ | with_reducible refine EV.z_and ?_ | with_reducible refine EV.z_or ?_ | with_reducible refine EV.z_not ?_ | with_reducible refine EV.z_andV ?_
  | with_reducible refine EV.z_orV ?_ | with_reducible refine EV.z_notV ?_ | with_reducible refine EV.z_ifE ?_ | with_reducible refine EV.z_nil ?_ | with_reducible refine EV.z_cons ?_ | with_reducible refine EV.z_tup ?_ | with_reducible refine EV.z_lst ?_
  | with_reducible refine EV.z_cb ?_ | with_reducible refine EV.z_call ?_ | with_reducible refine EV.z_dget ?_ | with_reducible refine EV.z_dput ?_ | with_reducible refine EV.z_chain ?_ | with_reducible refine EV.z_then ?_ | with_reducible refine EV.z_fld ?_ | with_reducible refine EV.z_bm ?_
  | with_reducible refine EV.z_par ?_ | with_reducible refine EV.z_par3 ?_ | with_reducible refine EV.z_ex2 ?_ | with_reducible refine EV.z_ex3 ?_ | with_reducible refine EV.z_tyes ?_ | ((with_reducible refine EV.z_wipe ?hv ?_); (case hv => exact rfl))
  | with_reducible refine EV.z_lc ?_ | with_reducible refine EV.z_ltS ?_ | with_reducible refine EV.z_disp ?_ | with_reducible refine EV.z_pc ?_ | with_reducible refine EV.z_pn ?_ | with_reducible refine EV.z_m1 ?_ | with_reducible refine EV.z_isS ?_ | with_reducible refine EV.z_sl ?_ | with_reducible refine EV.z_np ?_ | with_reducible refine EV.z_pt ?_ | with_reducible refine EV.z_exI ?_ | with_reducible refine EV.z_is ?_ | with_reducible refine EV.z_istr ?_ | with_reducible refine EV.z_no ?_ | with_reducible refine EV.z_yes ?_ | with_reducible refine EV.z_for ?_ | with_reducible refine EV.z_il ?_ | with_reducible refine EV.z_it ?_ | with_reducible refine EV.z_r1 ?_ | with_reducible refine EV.z_ik ?_ | with_reducible refine EV.z_din ?_ | with_reducible refine EV.z_dnin ?_ | with_reducible refine EV.z_dsd ?_ | with_reducible refine EV.z_gs ?_ | with_reducible refine EV.z_gc ?_ | with_reducible refine EV.z_gn ?_ | with_reducible refine EV.z_turn ?_))
local macro_rules | `(tactic| walk_at "zz") => `(tactic| repeat walk_at "z")
local macro_rules | `(tactic| walk_at "z") => `(tactic| (first | with_reducible refine EV.z_mt ?_ | with_reducible refine EV.z_cS ?_ | with_reducible refine EV.z_mkO ?_ | with_reducible refine EV.z_mkK ?_))
/-! ### a call -/
namespace EV
open PySem PySem.Spec PyProof.Rows L2
theorem WD.alk {L L' : Hld} {W : Lvs} {bs bs' : Bars} (D : WD L W bs) (n : L'.map (·.1) = L.map (·.1)) (a : ∀ t ∈ L', t.2.2.Perm (hLf L t.1)) (b : bs'.map (·.2) = bs.map (·.2)) : WD L' W bs' := by
  have ll : L'.length = L.length := by have := congrArg List.length n; simpa using this
  have bl : bs'.length = bs.length := by have := congrArg List.length b; simpa using this
  obtain ⟨sheets, s12, snm, ok⟩ := D.sh
  have at' : ∀ {t}, t ∈ L' → ∃ u ∈ L, u.1 = t.1 ∧ t.2.2.Perm u.2.2 := fun {t} ht => by
    obtain ⟨u, hu, e, eh⟩ := D.at (by rw [← n]; exact List.mem_map_of_mem ht)
    exact ⟨u, hu, e, by rw [← eh]; exact a t ht⟩
  refine ⟨by rw [ll]; exact D.n1, by rw [ll]; exact D.n6, fun t ht => ?_, ⟨sheets, s12, snm, ⟨by rw [n]; exact ok.nd, fun t ht => ?_, ok.wnd, ok.wsh, fun q hq => ?_⟩⟩, by rw [bl]; exact D.b36, fun t ht => ?_⟩
  · obtain ⟨u, hu, e, _⟩ := at' ht
    rw [← e]; exact D.nm u hu
  · obtain ⟨u, hu, _, p⟩ := at' ht
    exact ⟨p.nodup_iff.mpr (ok.ok u hu).1, fun x hx => (ok.ok u hu).2 x (p.mem_iff.mp hx)⟩
  · obtain ⟨u, hu, hq'⟩ := ok.wh q hq
    have : u.1 ∈ L'.map (·.1) := by rw [n]; exact List.mem_map_of_mem hu
    obtain ⟨t, ht, e⟩ := List.mem_map.mp this
    have p := a t ht
    rw [e, hLf_of D.nd hu] at p
    exact ⟨t, ht, p.mem_iff.mpr hq'⟩
  · have : t.2 ∈ bs.map (·.2) := by rw [← b]; exact List.mem_map_of_mem ht
    obtain ⟨u, hu, e⟩ := List.mem_map.mp this
    rw [← e, n]; exact D.bk u hu
def spCalled (C : Addr) : Sp := fun vs H Q _ => ∃ (F : Hp) (g : Addr) (M : Hld) (W : Lvs) (cs : Bars) (x y : Str), vs = [.ref g, .str x, .str y] ∧ Sub F H ∧ Gr F C g M W cs ∧ x ∈ M.map (·.1) ∧ y ∈ M.map (·.1) ∧ evenF (hLf M) (lfn W) cs x y ∧
  ∀ g' M' cs' F' H', Nx No F H F' H' → Gr F' C g' M' W cs' → M'.map (·.1) = M.map (·.1) → cs'.map (·.2) = cs.map (·.2) → Alk (M.map (·.1)) (hLf M') (stp (hLf M) x y) → Q (.ref g') H'
theorem setH_same {L : Hld} {x : Str} {l : Addr} {ps : List Str} {F : Hp} (h : ∀ t ∈ L, SeqO F t.2.1 (t.2.2.map V.str)) (g : SeqO F l (ps.map V.str)) : ∀ t ∈ setH L x l ps, SeqO F t.2.1 (t.2.2.map V.str) := fun t ht => by
  rcases setH_mem ht with ⟨_, e1, e2⟩ | ⟨_, hu⟩
  · rw [e1, e2]; exact g
  · exact h t hu
end EV
end

section
set_option maxHeartbeats 2000000
/-! ### two dicts compared, their values ints, or nested lists and tuples -/
namespace EV
open PySem PySem.Spec PyProof.Rows L2
inductive VE (K : PySem.W.Frag) (H : Hp) : V → V → Bool → Prop
  | int (i j : Int) : VE K H (.int i) (.int j) (i == j)
  | ref {a b : Addr} {d e : PyData} : Dp K H (.ref a) d → Dp K H (.ref b) e → SeqAt.shaped d = true → SeqAt.shaped e = true → (a = b → PyData.eqv d e = true) → VE K H (.ref a) (.ref b) (PyData.eqv d e)
inductive HitsV (K : PySem.W.Frag) (H : Hp) (ls : List (Key × V)) : List (Key × V) → Bool → Prop
  | nil : HitsV K H ls [] true
  | miss {k : Key} {v : V} {r : List (Key × V)} : valV ls k = none → HitsV K H ls ((k, v) :: r) false
  | hit {k : Key} {v u : V} {r : List (Key × V)} {e b : Bool} : valV ls k = some u → VE K H v u e → HitsV K H ls r b → HitsV K H ls ((k, v) :: r) (e && b)
section
variable {X : Cx} {pins : List (Addr × Obj)} {σ : L2.St} {H : Hp} {s : Shared}
theorem VE.run (I : L2.Inv X pins σ H s) {A : Around} (hu : A.units + 64 < cLine) {x y : V} {e : Bool} (h : VE X.K H x y e) {v u : Value} (rx : RelV x v) (ry : RelV y u) : SeqAt.EqP X.prog X.w A s v u e := by
  cases h with
  | int i j =>
    obtain ⟨t, rfl⟩ := rx
    obtain ⟨t', rfl⟩ := ry
    exact (SeqAt.EqAt.int_int i t j t').eqP
  | @ref a b d e hd he sd se same =>
    cases (show v = Value.ref a from rx)
    cases (show u = Value.ref b from ry)
    by_cases ab : a = b
    · subst ab
      rw [same rfl]
      exact (SeqAt.EqAt.same _).eqP
    · obtain ⟨as, r1⟩ := Dp.reads I d _ _ hd (show RelV (.ref a) (.ref a) from rfl)
      obtain ⟨bs, r2⟩ := Dp.reads I e _ _ he (show RelV (.ref b) (.ref b) from rfl)
      exact SeqAt.eqP_refs ab fun E Q q => SeqAt.compareEq_shaped r1 r2 sd se hu q
theorem HitsV.run (I : L2.Inv X pins σ H s) {A : Around} (hu : A.units + 64 < cLine) {ls : List (Key × V)} {vb : List (Key × Value)} (rb : KV ls vb) {ks : List (Key × V)} {e : Bool} (h : HitsV X.K H ls ks e) : ∀ {va : List (Key × Value)}, KV ks va → PySem.W.KeqHitsP X.prog X.w A s vb va e := by
  induction h with
  | nil =>
    intro va ra
    unfold KV at ra
    cases ra
    exact .nil
  | @miss k v r hn =>
    intro va ra
    unfold KV at ra
    cases ra with
    | @cons _ q _ _ h1 h2 =>
      obtain ⟨key, w⟩ := q
      obtain ⟨e1, e2⟩ := h1
      cases (show k = key from e1)
      have rr : RelO (none : Option V) (valueAt vb k) := by rw [← hn]; exact rb.val k
      refine .miss ?_
      cases z : valueAt vb k with
      | none => rfl
      | some y => rw [z] at rr; exact False.elim rr
  | @hit k v u r e b hv ve _ ih =>
    intro va ra
    unfold KV at ra
    cases ra with
    | @cons _ q _ qs h1 h2 =>
      obtain ⟨key, w⟩ := q
      obtain ⟨e1, e2⟩ := h1
      cases (show k = key from e1)
      have rr : RelO (some u) (valueAt vb k) := by rw [← hv]; exact rb.val k
      obtain ⟨y, hy, ry⟩ := rr.some_of
      exact .hit hy (ve.run I hu e2 ry) (ih h2)
end
def rEqDX (K : PySem.W.Frag) : R2 := fun x y H Q => ∃ (a b : Addr) (ks ls : List (Key × V)) (e : Bool), x = .ref a ∧ y = .ref b ∧ H a = some (.dK ks) ∧ H b = some (.dK ls) ∧ HitsV K H ls ks e ∧ Q (.bl (ks.length == ls.length && e)) H
theorem op_eqDX (K : PySem.W.Frag) {X : Cx} (hu : X.A.units + 65 < cLine) (hK : X.K = K := by rfl) : OpR X (compareOp .Eq) (rEqDX K) := by
  subst hK
  rintro pins s σ H x y v u Q I rx ry ⟨a, b, ks, ls, e, rfl, rfl, ha, hb, hits, q⟩
  cases (show v = Value.ref a from rx)
  cases (show u = Value.ref b from ry)
  obtain ⟨_, ya, va, ra, da⟩ := (show ObjOk X.prog X.w H s.heap a (.dK ks) from I.hok a _ ha)
  obtain ⟨_, yb, vb, rb, db⟩ := (show ObjOk X.prog X.w H s.heap b (.dK ls) from I.hok b _ hb)
  refine PySem.W.rcP_dicts (knd := mixKind X.prog X.w) (r := e) ya yb da db (by omega) (fun _ => hits.run I (A := X.A.in1) (by show X.A.units + 1 + 64 < cLine; omega) rb ra) _ _ ⟨.bl (ks.length == ls.length && e), H, I, ?_, q⟩
  show Value.bool _ = Value.bool _
  rw [← ra.length, ← rb.length]
end EV
end

section
set_option maxHeartbeats 4000000
local macro_rules | `(tactic| walk_at "za") => `(tactic| (first | exact Or.inl ⟨by omega, by omega⟩ | exact Or.inr ⟨by omega, by omega⟩ | exact ⟨by omega, by omega⟩ | exact ⟨by omega, by omega, by omega⟩ | omega))
local macro_rules | `(tactic| walk_at "z") => `(tactic| (first
  | with_reducible refine EV.z_seq ?_ | with_reducible refine EV.z_next ?_ | with_reducible refine EV.z_nx ?_ | with_reducible refine EV.z_rt ?_ | with_reducible refine EV.z_asg ?_ | with_reducible refine EV.z_name ?_
  | with_reducible refine EV.z_drop ?_ | with_reducible refine EV.z_ret ?_ | with_reducible refine EV.z_if ?_
  | ((with_reducible refine EV.z_var (v := ?vv) ?hv ?_); (case hv => exact rfl)) | with_reducible refine EV.z_c ?_ | with_reducible refine EV.z_op ?_ | with_reducible refine EV.z_un ?_ | with_reducible refine EV.z_I0 ?_ | with_reducible refine EV.z_U ?_ | ((with_reducible refine EV.z_I ?hc ?_); (case hc => walk_at "za"))
  | ((with_reducible refine EV.z_eq ?hv ?_); (case hv => exact rfl)) | ((with_reducible refine EV.z_ne ?hv ?_); (case hv => exact rfl))
  | with_reducible refine EV.z_test ?_ | with_reducible refine EV.z_bl ?_ | with_reducible refine EV.z_B ?_ | with_reducible refine EV.z_and ?_ | with_reducible refine EV.z_or ?_ | with_reducible refine EV.z_not ?_ | with_reducible refine EV.z_andV ?_
  | with_reducible refine EV.z_orV ?_ | with_reducible refine EV.z_notV ?_ | with_reducible refine EV.z_ifE ?_ | with_reducible refine EV.z_nil ?_ | with_reducible refine EV.z_cons ?_ | with_reducible refine EV.z_tup ?_ | with_reducible refine EV.z_lst ?_
  | with_reducible refine EV.z_cb ?_ | with_reducible refine EV.z_call ?_ | with_reducible refine EV.z_dget ?_ | with_reducible refine EV.z_dput ?_ | with_reducible refine EV.z_chain ?_ | with_reducible refine EV.z_then ?_ | with_reducible refine EV.z_fld ?_ | with_reducible refine EV.z_bm ?_
  | with_reducible refine EV.z_par ?_ | with_reducible refine EV.z_par3 ?_ | with_reducible refine EV.z_ex2 ?_ | with_reducible refine EV.z_ex3 ?_ | with_reducible refine EV.z_tyes ?_ | ((with_reducible refine EV.z_wipe ?hv ?_); (case hv => exact rfl))
  | with_reducible refine EV.z_lc ?_ | with_reducible refine EV.z_ltS ?_ | with_reducible refine EV.z_disp ?_ | with_reducible refine EV.z_pc ?_ | with_reducible refine EV.z_pn ?_ | with_reducible refine EV.z_m1 ?_ | with_reducible refine EV.z_isS ?_ | with_reducible refine EV.z_sl ?_ | with_reducible refine EV.z_np ?_ | with_reducible refine EV.z_pt ?_ | with_reducible refine EV.z_exI ?_ | with_reducible refine EV.z_is ?_ | with_reducible refine EV.z_istr ?_ | with_reducible refine EV.z_no ?_ | with_reducible refine EV.z_yes ?_ | with_reducible refine EV.z_for ?_ | with_reducible refine EV.z_il ?_ | with_reducible refine EV.z_it ?_ | with_reducible refine EV.z_r1 ?_ | with_reducible refine EV.z_ik ?_ | with_reducible refine EV.z_din ?_ | with_reducible refine EV.z_dnin ?_ | with_reducible refine EV.z_dsd ?_ | with_reducible refine EV.z_gs ?_ | with_reducible refine EV.z_gc ?_ | with_reducible refine EV.z_gn ?_ | with_reducible refine EV.z_turn ?_))
local macro_rules | `(tactic| walk_at "zz") => `(tactic| repeat walk_at "z")
local macro_rules | `(tactic| walk_at "z") => `(tactic| (first | with_reducible refine EV.z_mt ?_ | with_reducible refine EV.z_cS ?_ | with_reducible refine EV.z_mkO ?_ | with_reducible refine EV.z_mkK ?_))
/-! ### two groups compared; may; a row of calls -/
namespace EV
open PySem PySem.Spec PyProof.Rows L2
/-- what isinstance asks of the class -/
structure GIs (K : PySem.W.Frag) (C : Addr) : Prop where
  ha : PySem.W.findIn K (.ref C) "__class__" = some (some (.builtin "object.__class__"))
  hn : PySem.W.specialIn K (.builtin "object.__class__") "__get__" = some (some (.builtin "getset_descriptor.__get__"))
  ht : PySem.W.takesIn K (.builtin "object.__class__") = some true
  hm : PySem.W.mroIn K C (.type "object") = some true
theorem kit_self {K : PySem.W.Frag} {C : Addr} : PySem.W.kitOne K (.ref C) (.ref C) = some true := by
  unfold PySem.W.kitOne
  rw [if_pos (by simp)]
theorem z_isG {K : PySem.W.Frag} {C : Addr} (c : GCls K C) (i : GIs K C) {H : Hp} {a dx : Addr} {fs : List (Str × V)} {Q : VK} (h : H a = some (.ins C dx fs)) (q : Q (.bl true) H) : rIsi K [.ref a, .ref C] H Q :=
  ⟨_, _, _, _, true, rfl, .own C, .base (.ins h c.cls i.ha i.hn i.ht i.hm), kit_self, q⟩
/-- people and pages, as they are -/
def vw (M : Hld) : List (Str × List Str) := M.map fun t => (t.1, t.2.2)
theorem vw_keys {M : Hld} : (vw M).map (·.1) = M.map (·.1) := by rw [vw, List.map_map]; rfl
def eqR (C : Addr) (a b : Addr) (H : Hp) : Prop := ∃ (F : Hp) (M M' : Hld) (W : Lvs) (cs cs' : Bars), Sub F H ∧ Gr F C a M W cs ∧ Gr F C b M' W cs' ∧ vw M = vw M' ∧ cs.map (·.2) = cs'.map (·.2)
theorem shTs {xs : List Str} (h : ∀ x ∈ xs, PyData.strOk x = true) : SeqAt.shaped (.tuple (xs.map .str)) = true := shT h
theorem eqv_tup (xs ys : List Str) : PyData.eqv (.tuple (xs.map .str)) (.tuple (ys.map .str)) = decide (xs = ys) := by
  show PyData.eqvAll _ _ = _
  exact eqvS xs ys
theorem held_hits {K : PySem.W.Frag} {F H : Hp} (sF : Sub F H) {M' : Hld} (nd' : (M'.map (·.1)).Nodup) (h' : HeldT F M') (ok : ∀ t ∈ M', ∀ x ∈ t.2.2, PyData.strOk x = true) : ∀ {L : Hld}, HeldT F L → (∀ t ∈ L, ∃ u ∈ M', u.1 = t.1 ∧ u.2.2 = t.2.2) → HitsV K H (heldK M') (heldK L) true
  | [], _, _ => .nil
  | t :: L, h, m => by
    obtain ⟨u, hu, e1, e2⟩ := m t List.mem_cons_self
    have v : valV (heldK M') (key t.1) = some (.ref u.2.1) := by rw [← e1]; exact held_val nd' hu
    have ht := h t List.mem_cons_self
    have hu' := h' u hu
    have oku := ok u hu
    rw [e2] at hu' oku
    have r := held_hits (K := K) sF nd' h' ok (L := L) (fun q hq => h q (List.mem_cons_of_mem _ hq)) fun q hq => m q (List.mem_cons_of_mem _ hq)
    have ve : VE K H (.ref t.2.1) (.ref u.2.1) true := by
      have q := VE.ref (K := K) (H := H) (.tup (sF.sqt ht) (dpS t.2.2)) (.tup (sF.sqt hu') (dpS t.2.2)) (shT oku) (shT oku) fun _ => by rw [eqv_tup]; exact decide_eq_true rfl
      rw [eqv_tup, decide_eq_true rfl] at q
      exact q
    exact .hit v ve r
theorem lv_hits {K : PySem.W.Frag} {H : Hp} {W : Lvs} (nd : (W.map (·.1)).Nodup) : ∀ {V' : Lvs}, (∀ q ∈ V', q ∈ W) → HitsV K H (lvK W) (lvK V') true
  | [], _ => .nil
  | q :: V', m => by
    have hq := m q List.mem_cons_self
    have v : valV (lvK W) (key q.1) = some (.int q.2) := by
      have := lv_val (W := W) (x := q.1) (List.mem_map_of_mem hq)
      rwa [lfn_mem nd hq] at this
    have r := lv_hits (K := K) (H := H) nd (V' := V') fun u hu => m u (List.mem_cons_of_mem _ hu)
    have ve : VE K H (.int q.2) (.int q.2) true := by
      have z := VE.int (K := K) (H := H) q.2 q.2
      rwa [show (q.2 == q.2) = true from by simp] at z
    exact .hit v ve r
theorem z_eqPs {K : PySem.W.Frag} {H : Hp} {Q : VK} {l m : Addr} {bs cs : Bars} (hl : SqL K H l (bs.map fun t => V.ref t.1)) (hb : ∀ t ∈ bs, SqT K H t.1 [.str t.2.1, .str t.2.2]) (hm : SqL K H m (cs.map fun t => V.ref t.1)) (hc : ∀ t ∈ cs, SqT K H t.1 [.str t.2.1, .str t.2.2])
    (ob : ∀ t ∈ bs, PyData.strOk t.2.1 = true ∧ PyData.strOk t.2.2 = true) (oc : ∀ t ∈ cs, PyData.strOk t.2.1 = true ∧ PyData.strOk t.2.2 = true) (k : Q (.bl (decide (bs.map (·.2) = cs.map (·.2)))) H) : rEqD K (.ref l) (.ref m) H Q := by
  refine ⟨.list (bs.map fun t => dP t.2), .list (cs.map fun t => dP t.2), .lst hl (dp_pairs hb), .lst hm (dp_pairs hc), sh_dPs ob, sh_dPs oc, ?_⟩
  have e : ∀ bs cs : Bars, PyData.eqvAll (bs.map fun t => dP t.2) (cs.map fun t => dP t.2) = decide (bs.map (·.2) = cs.map (·.2)) := by
    intro bs
    induction bs with
    | nil => intro cs; cases cs <;> rfl
    | cons t bs ih =>
      intro cs
      cases cs with
      | nil => rfl
      | cons u cs =>
        show (PyData.eqv (dP t.2) (dP u.2) && PyData.eqvAll (bs.map fun t => dP t.2) (cs.map fun t => dP t.2)) = _
        rw [eqv_dP, ih cs]
        by_cases a : t.2 = u.2 <;> by_cases b : bs.map (·.2) = cs.map (·.2) <;> simp [a, b]
  show Q (.bl (PyData.eqvAll _ _)) H
  rw [e]
  exact k
theorem GD.ok {M : Hld} {W : Lvs} {cs : Bars} (G : GD M W cs) : (∀ t ∈ M, ∀ x ∈ t.2.2, PyData.strOk x = true) ∧ ∀ t ∈ cs, PyData.strOk t.2.1 = true ∧ PyData.strOk t.2.2 = true := by
  refine ⟨fun t ht x hx => (G.d.pNm ht hx).ok, fun t ht => ?_⟩
  obtain ⟨m1, m2, _⟩ := G.d.bk t ht
  obtain ⟨t1, h1, e1⟩ := List.mem_map.mp m1
  obtain ⟨t2, h2, e2⟩ := List.mem_map.mp m2
  rw [← e1, ← e2]
  exact ⟨(G.d.nm _ h1).ok, (G.d.nm _ h2).ok⟩
abbrev s_Group___eq__ : Stmt := inClass (top 23) 1
abbrev N_Group___eq__ : List Str := ["self", "other"]
abbrev P_Group___eq__ : List Str := ["self", "other"]
theorem sc_Group___eq__ : FnScope N_Group___eq__ P_Group___eq__ (defScope s_Group___eq__) := ⟨rfl, rfl, rfl, by decide +kernel, rfl, by decide +kernel, by decide +kernel⟩
section
variable {P : Program} {w : World} {K : PySem.W.Frag} {mg : Str → Option Value} {base : Heap} {C CB CI CU CH fU : Addr}
theorem ok_eq (T : Txt mg) (G : GCls K C) (GI : GIs K C) (gGroup : mg "Group" = some (.ref C)) {f fd} (D : C8.Fun K "__eq__" "Group.__eq__" s_Group___eq__ f fd) : FnOk P w K mg base C8.CX0 1 f fd P_Group___eq__ (spEq (eqR C)) := by
  refine C8.fn0 D sc_Group___eq__ (fun vs H Q E h => ?_) (fun cdv A outer s H vs Q E hr h => ?_)
  · obtain ⟨a, b, rfl, _⟩ := h
    rfl
  · obtain ⟨a, b, rfl, ⟨F, M, M', W, cs, cs', sF, ⟨⟨hd, lv, br, gp⟩, gd⟩, ⟨⟨hd', lv', br', gp'⟩, gd'⟩, ev, ec⟩, k⟩ := h
    have hu := hu_of hr
    have hu65 := hu65_of hr
    obtain ⟨dx', hx'⟩ := gp'.hx
    have en : M.map (·.1) = M'.map (·.1) := by rw [← vw_keys, ← vw_keys, ev]
    have ml : M.length = M'.length := by have := congrArg List.length en; simpa using this
    refine ⟨_, (pss_one (ps_ret (pe_and (pe_callB (k_isi K) rfl T.b_isinstance (by decide +kernel) (pa_cons (pv 1) (pa_cons (pe_glob (v := .ref C) rfl gGroup rfl) pa_nil))) (pe_and (pe_cmpR (op_eqDX K hu65) (k_fld K (pv 0)) (k_fld K (pv 1)) (nomark _)) (pe_and (pe_cmpR (op_eqDX K hu65) (k_fld K (pv 0)) (k_fld K (pv 1)) (nomark _)) (pe_one (pe_cmpR (k_eqD K hr.units) (k_fld K (pv 0)) (k_fld K (pv 1)) (nomark _)))))))), ?_⟩
    walk_at "zz"
    refine z_isG G GI (sF _ _ hx') ?_
    walk_at "zz"
    refine z_fH G gp sF ?_
    walk_at "zz"
    refine z_fH G gp' sF ?_
    refine ⟨hd, hd', _, _, true, rfl, rfl, sF _ _ gp.hh, sF _ _ gp'.hh, held_hits sF gd'.nd gp'.ht gd'.ok.1 gp.ht (fun t ht => ?_), ?_⟩
    · have : (t.1, t.2.2) ∈ vw M' := by rw [← ev]; exact List.mem_map_of_mem (f := fun t => (t.1, t.2.2)) ht
      obtain ⟨u, hu', e⟩ := List.mem_map.mp this
      exact ⟨u, hu', congrArg (·.1) e, congrArg (·.2) e⟩
    rw [held_len, held_len, ml]
    rw [show ((M'.length == M'.length) && true) = true from by simp]
    walk_at "zz"
    refine z_fL G gp sF ?_
    walk_at "zz"
    refine z_fL G gp' sF ?_
    refine ⟨lv, lv', _, _, true, rfl, rfl, sF _ _ gp.hv, sF _ _ gp'.hv, lv_hits gd'.d.wn (fun q hq => hq), ?_⟩
    rw [show (((lvK W).length == (lvK W).length) && true) = true from by simp]
    walk_at "zz"
    refine z_fB G gp sF ?_
    walk_at "zz"
    refine z_fB G gp' sF ?_
    refine z_eqPs (sF.sql gp.hb) (fun t ht => sF.sqt (gp.ba t ht)) (sF.sql gp'.hb) (fun t ht => sF.sqt (gp'.ba t ht)) gd.ok.2 gd'.ok.2 ?_
    rw [decide_eq_true ec]
    walk_at "zz"
    exact k H fun _ _ e => e
end
structure EqOk (P : Program) (w : World) (K : PySem.W.Frag) (mg : Str → Option Value) (base : Heap) (C : Addr) : Prop where
  ex : ∃ (f : Addr) (fd : FuncData), FnOk P w K mg base C8.CX0 1 f fd P_Group___eq__ (spEq (eqR C)) ∧ PySem.W.findIn K (.ref C) "__eq__" = some (some (.ref f)) ∧ PySem.W.isFn K (.ref f) = true ∧ Binds K fd P_Group___eq__ []
theorem op_eqGrp {X : Cx} {C : Addr} {j : Nat} (E : EqOk X.prog X.w X.K X.mg X.base C) (hr : Room j X.A) (hk : 1 ≤ j) : OpR X (compareOp .Eq) (rEqG (DIns C (eqR C))) := by
  obtain ⟨f, fd, F, hs, hf, b⟩ := E.ex
  exact op_eqG (rcG_ins F hs hf b (E := C8.E0) C8.pass0) (hr.mono hk)
theorem z_eqG {C a b : Addr} {F H : Hp} {M M' : Hld} {W : Lvs} {cs cs' : Bars} {Q : VK} (sF : Sub F H) (g : Gr F C a M W cs) (g' : Gr F C b M' W cs') (ev : vw M = vw M') (ec : cs.map (·.2) = cs'.map (·.2)) (q : ∀ H', Same H H' → Q (.bl true) H') : rEqG (DIns C (eqR C)) (.ref a) (.ref b) H Q := by
  obtain ⟨⟨_, _, _, gp⟩, _⟩ := id g
  obtain ⟨⟨_, _, _, gp'⟩, _⟩ := id g'
  obtain ⟨dx, hx⟩ := gp.hx
  obtain ⟨dx', hx'⟩ := gp'.hx
  exact ⟨⟨a, b, _, _, _, _, rfl, rfl, sF _ _ hx, sF _ _ hx', F, M, M', W, cs, cs', sF, g, g', ev, ec⟩, q⟩
end EV
end

section
set_option maxHeartbeats 4000000
local macro_rules | `(tactic| walk_at "za") => `(tactic| (first | exact Or.inl ⟨by omega, by omega⟩ | exact Or.inr ⟨by omega, by omega⟩ | exact ⟨by omega, by omega⟩ | exact ⟨by omega, by omega, by omega⟩ | omega))
local macro_rules | `(tactic| walk_at "z") => `(tactic| (first
  | with_reducible refine EV.z_seq ?_ | with_reducible refine EV.z_next ?_ | with_reducible refine EV.z_nx ?_ | with_reducible refine EV.z_rt ?_ | with_reducible refine EV.z_asg ?_ | with_reducible refine EV.z_name ?_
  | with_reducible refine EV.z_drop ?_ | with_reducible refine EV.z_ret ?_ | with_reducible refine EV.z_if ?_
  | ((with_reducible refine EV.z_var (v := ?vv) ?hv ?_); (case hv => exact rfl)) | with_reducible refine EV.z_c ?_ | with_reducible refine EV.z_op ?_ | with_reducible refine EV.z_un ?_ | with_reducible refine EV.z_I0 ?_ | with_reducible refine EV.z_U ?_ | ((with_reducible refine EV.z_I ?hc ?_); (case hc => walk_at "za"))
  | ((with_reducible refine EV.z_eq ?hv ?_); (case hv => exact rfl)) | ((with_reducible refine EV.z_ne ?hv ?_); (case hv => exact rfl))
  | with_reducible refine EV.z_test ?_ | with_reducible refine EV.z_bl ?_ | with_reducible refine EV.z_B ?_ | with_reducible refine EV.z_and ?_ | with_reducible refine EV.z_or ?_ | with_reducible refine EV.z_not ?_ | with_reducible refine EV.z_andV ?_
  | with_reducible refine EV.z_orV ?_ | with_reducible refine EV.z_notV ?_ | with_reducible refine EV.z_ifE ?_ | with_reducible refine EV.z_nil ?_ | with_reducible refine EV.z_cons ?_ | with_reducible refine EV.z_tup ?_ | with_reducible refine EV.z_lst ?_
  | with_reducible refine EV.z_cb ?_ | with_reducible refine EV.z_call ?_ | with_reducible refine EV.z_dget ?_ | with_reducible refine EV.z_dput ?_ | with_reducible refine EV.z_chain ?_ | with_reducible refine EV.z_then ?_ | with_reducible refine EV.z_fld ?_ | with_reducible refine EV.z_bm ?_
  | with_reducible refine EV.z_par ?_ | with_reducible refine EV.z_par3 ?_ | with_reducible refine EV.z_ex2 ?_ | with_reducible refine EV.z_ex3 ?_ | with_reducible refine EV.z_tyes ?_ | ((with_reducible refine EV.z_wipe ?hv ?_); (case hv => exact rfl))
  | with_reducible refine EV.z_lc ?_ | with_reducible refine EV.z_ltS ?_ | with_reducible refine EV.z_disp ?_ | with_reducible refine EV.z_pc ?_ | with_reducible refine EV.z_pn ?_ | with_reducible refine EV.z_m1 ?_ | with_reducible refine EV.z_isS ?_ | with_reducible refine EV.z_sl ?_ | with_reducible refine EV.z_np ?_ | with_reducible refine EV.z_pt ?_ | with_reducible refine EV.z_exI ?_ | with_reducible refine EV.z_is ?_ | with_reducible refine EV.z_istr ?_ | with_reducible refine EV.z_no ?_ | with_reducible refine EV.z_yes ?_ | with_reducible refine EV.z_for ?_ | with_reducible refine EV.z_il ?_ | with_reducible refine EV.z_it ?_ | with_reducible refine EV.z_r1 ?_ | with_reducible refine EV.z_ik ?_ | with_reducible refine EV.z_din ?_ | with_reducible refine EV.z_dnin ?_ | with_reducible refine EV.z_dsd ?_ | with_reducible refine EV.z_gs ?_ | with_reducible refine EV.z_gc ?_ | with_reducible refine EV.z_gn ?_ | with_reducible refine EV.z_turn ?_))
local macro_rules | `(tactic| walk_at "zz") => `(tactic| repeat walk_at "z")
local macro_rules | `(tactic| walk_at "z") => `(tactic| (first | with_reducible refine EV.z_mt ?_ | with_reducible refine EV.z_cS ?_ | with_reducible refine EV.z_mkO ?_ | with_reducible refine EV.z_mkK ?_))
namespace EV
open PySem PySem.Spec PyProof.Rows L2
/-- what the clause catches -/
structure XH (K : PySem.W.Frag) (mg : Str → Option Value) (CH CB CI CU : Addr) : Prop where
  g : mg "HandError" = some (.ref CH)
  eB : PySem.W.exmOne K (.ref CB) (.ref CH) = some true
  eI : PySem.W.exmOne K (.ref CI) (.ref CH) = some true
  eU : PySem.W.exmOne K (.ref CU) (.ref CH) = some true
def spMay (C : Addr) : Sp := fun vs H Q _ => ∃ (F : Hp) (g : Addr) (M : Hld) (W : Lvs) (cs : Bars) (x y : Str), vs = [.ref g, .str x, .str y] ∧ Sub F H ∧ Gr F C g M W cs ∧ x ∈ M.map (·.1) ∧ y ∈ M.map (·.1) ∧
  ∀ (b : Bool) F' H', Nx No F H F' H' → (b = true ↔ evenF (hLf M) (lfn W) cs x y) → Q (.bl b) H'
def spBehind (C : Addr) : Sp := fun vs H Q _ => ∃ (F : Hp) (g l : Addr) (M : Hld) (W : Lvs) (cs ds : Bars) (h' : Hs), vs = [.ref g, .ref l] ∧ Sub F H ∧ Gr F C g M W cs ∧ F l = some (.lst (ds.map fun t => V.ref t.1)) ∧ BarsA F ds ∧ Run (M.map (·.1)) (lfn W) cs (hLf M) (ds.map (·.2)) h' ∧
  ∀ g' M' cs' F' H', Nx No F H F' H' → Gr F' C g' M' W cs' → M'.map (·.1) = M.map (·.1) → cs'.map (·.2) = cs.map (·.2) → Alk (M.map (·.1)) (hLf M') h' → Q (.ref g') H'
theorem z_loopI {J : It} {n : Nat} {G : Hp → Prop} {Y : Nat → Hp → V → Hp → Prop} (w : Walk J n G Y) {g : TG} {tb : TS} {nx : L2.St → Hp → Prop} {rt : V → Hp → Prop} {σ : L2.St} {H : Hp} (Pv : Nat → L2.St → Hp → Prop) (h0 : Pv 0 σ H) (hG : ∀ i σ H, i ≤ n → Pv i σ H → G H)
    (hs : ∀ i x σ H H', i < n → Pv i σ H → Y i H x H' → g x σ H' fun σ2 H2 => tb ⟨Pv (i + 1), rt, nx, Pv (i + 1)⟩ σ2 H2) (hd : ∀ σ H, Pv n σ H → nx σ H) :
    ∃ W : Nat → Nat → L2.St → Hp → Prop, (∃ m, W 0 m σ H) ∧ ∀ i m σ H, W i m σ H →
      (J.stop i H ∧ nx σ H) ∨ (J.go i H ∧ ∃ N : L2.St → Hp → Prop, (∀ σ' H', N σ' H' → ∃ m', m' < m ∧ W (i + 1) m' σ' H') ∧ ∀ x H', J.yld i H x H' → g x σ H' fun σ2 H2 => tb ⟨N, rt, nx, N⟩ σ2 H2) :=
  for_it (D := ⟨nx, rt, nx, nx⟩) w Pv h0 hG hs hd
theorem evenF_bars {h : Hs} {f : Str → Int} {bs cs : Bars} {x y : Str} (e : cs.map (·.2) = bs.map (·.2)) : evenF h f cs x y ↔ evenF h f bs x y := by
  have b := barP_congr (bs := bs) (cs := cs) (x := x) (y := y) fun q => by rw [e]
  exact ⟨fun z => ⟨z.1, fun q => z.2.1 (b.mpr q), z.2.2⟩, fun z => ⟨z.1, fun q => z.2.1 (b.mp q), z.2.2⟩⟩
theorem z_ie {K : PySem.W.Frag} {ta : TA} {σ : L2.St} {H : Hp} {R : It → Hp → Prop} (q : ta σ H fun vs H1 => ∃ a xs, vs = [.ref a] ∧ SqL K H1 a xs ∧ R (Ite K a) H1) : iEnum K ta σ H R := q
theorem Run.inv {N : List Str} {f : Str → Int} {bs : Bars} {h g : Hs} {q : Str × Str} {cs : List (Str × Str)} (r : Run N f bs h (q :: cs) g) : q.1 ∈ N ∧ q.2 ∈ N ∧ evenF h f bs q.1 q.2 ∧ Run N f bs (stp h q.1 q.2) cs g := by
  cases r with
  | cons a b c d => exact ⟨a, b, c, d⟩
section
variable {P : Program} {w : World} {K : PySem.W.Frag} {mg : Str → Option Value} {base : Heap} {C CB CI CU CH fU : Addr}
end
end EV
end

section
set_option maxHeartbeats 4000000
local macro_rules | `(tactic| walk_at "za") => `(tactic| (first | exact Or.inl ⟨by omega, by omega⟩ | exact Or.inr ⟨by omega, by omega⟩ | exact ⟨by omega, by omega⟩ | exact ⟨by omega, by omega, by omega⟩ | omega))
local macro_rules | `(tactic| walk_at "z") => `(tactic| (first
  | with_reducible refine EV.z_seq ?_ | with_reducible refine EV.z_next ?_ | with_reducible refine EV.z_nx ?_ | with_reducible refine EV.z_rt ?_ | with_reducible refine EV.z_asg ?_ | with_reducible refine EV.z_name ?_
  | with_reducible refine EV.z_drop ?_ | with_reducible refine EV.z_ret ?_ | with_reducible refine EV.z_if ?_
  | ((with_reducible refine EV.z_var (v := ?vv) ?hv ?_); (case hv => exact rfl)) | with_reducible refine EV.z_c ?_ | with_reducible refine EV.z_op ?_ | with_reducible refine EV.z_un ?_ | with_reducible refine EV.z_I0 ?_ | with_reducible refine EV.z_U ?_ | ((with_reducible refine EV.z_I ?hc ?_); (case hc => walk_at "za"))
  | ((with_reducible refine EV.z_eq ?hv ?_); (case hv => exact rfl)) | ((with_reducible refine EV.z_ne ?hv ?_); (case hv => exact rfl))
  | with_reducible refine EV.z_test ?_ | with_reducible refine EV.z_bl ?_ | with_reducible refine EV.z_B ?_ | with_reducible refine EV.z_and ?_ | with_reducible refine EV.z_or ?_ | with_reducible refine EV.z_not ?_ | with_reducible refine EV.z_andV ?_
  | with_reducible refine EV.z_orV ?_ | with_reducible refine EV.z_notV ?_ | with_reducible refine EV.z_ifE ?_ | with_reducible refine EV.z_nil ?_ | with_reducible refine EV.z_cons ?_ | with_reducible refine EV.z_tup ?_ | with_reducible refine EV.z_lst ?_
  | with_reducible refine EV.z_cb ?_ | with_reducible refine EV.z_call ?_ | with_reducible refine EV.z_dget ?_ | with_reducible refine EV.z_dput ?_ | with_reducible refine EV.z_chain ?_ | with_reducible refine EV.z_then ?_ | with_reducible refine EV.z_fld ?_ | with_reducible refine EV.z_bm ?_
  | with_reducible refine EV.z_par ?_ | with_reducible refine EV.z_par3 ?_ | with_reducible refine EV.z_ex2 ?_ | with_reducible refine EV.z_ex3 ?_ | with_reducible refine EV.z_tyes ?_ | ((with_reducible refine EV.z_wipe ?hv ?_); (case hv => exact rfl))
  | with_reducible refine EV.z_lc ?_ | with_reducible refine EV.z_ltS ?_ | with_reducible refine EV.z_disp ?_ | with_reducible refine EV.z_pc ?_ | with_reducible refine EV.z_pn ?_ | with_reducible refine EV.z_m1 ?_ | with_reducible refine EV.z_isS ?_ | with_reducible refine EV.z_sl ?_ | with_reducible refine EV.z_np ?_ | with_reducible refine EV.z_pt ?_ | with_reducible refine EV.z_exI ?_ | with_reducible refine EV.z_is ?_ | with_reducible refine EV.z_istr ?_ | with_reducible refine EV.z_no ?_ | with_reducible refine EV.z_yes ?_ | with_reducible refine EV.z_for ?_ | with_reducible refine EV.z_il ?_ | with_reducible refine EV.z_it ?_ | with_reducible refine EV.z_r1 ?_ | with_reducible refine EV.z_ik ?_ | with_reducible refine EV.z_din ?_ | with_reducible refine EV.z_dnin ?_ | with_reducible refine EV.z_dsd ?_ | with_reducible refine EV.z_gs ?_ | with_reducible refine EV.z_gc ?_ | with_reducible refine EV.z_gn ?_ | with_reducible refine EV.z_turn ?_))
local macro_rules | `(tactic| walk_at "zz") => `(tactic| repeat walk_at "z")
local macro_rules | `(tactic| walk_at "z") => `(tactic| (first | with_reducible refine EV.z_mt ?_ | with_reducible refine EV.z_cS ?_ | with_reducible refine EV.z_mkO ?_ | with_reducible refine EV.z_mkK ?_))
/-! ### the world's group -/
namespace EV
open PySem PySem.Spec PyProof.Rows L2
noncomputable def frzS (F1 H1 : Hp) (S : Addr → Prop) : Hp := fun x => @ite _ (S x ∧ F1 x = none) (Classical.propDecidable _) (H1 x) (F1 x)
theorem frzS_old {F1 H1 : Hp} {S : Addr → Prop} {x : Addr} {o : HO} (h : F1 x = some o) : frzS F1 H1 S x = some o := by
  unfold frzS
  rw [if_neg (fun z => by rw [z.2] at h; cases h)]
  exact h
theorem frzS_new {F1 H1 : Hp} {S : Addr → Prop} {x : Addr} {o : HO} (hs : S x) (h : H1 x = some o) (s : Sub F1 H1) : frzS F1 H1 S x = some o := by
  unfold frzS
  by_cases z : S x ∧ F1 x = none
  · rw [if_pos z]; exact h
  · rw [if_neg z]
    cases e : F1 x with
    | none => exact absurd ⟨hs, e⟩ z
    | some u => rw [s _ _ e] at h; exact h
theorem frzS_no {F1 H1 : Hp} {S : Addr → Prop} {x : Addr} (hs : ¬ S x) (h : F1 x = none) : frzS F1 H1 S x = none := by
  unfold frzS
  rw [if_neg (fun z => hs z.1)]
  exact h
/-- all that is new and of S is laid down -/
theorem Nx.frzS {M : Addr → Prop} {F H F1 H1 : Hp} (a : Nx M F H F1 H1) (S : Addr → Prop) (hS : ∀ x, S x → H x = none) : Nx M F H (EV.frzS F1 H1 S) H1 := by
  refine ⟨fun x o e => ?_, fun x o e => frzS_old (a.mono x o e), fun x h e => frzS_no (fun z => h (hS x z)) (a.new x h e), a.keep, a.alive⟩
  unfold EV.frzS at e
  by_cases z : S x ∧ F1 x = none
  · rw [if_pos z] at e; exact e
  · rw [if_neg z] at e; exact a.sub x o e
theorem mergeK_held : ∀ {L A : Hld}, ((A ++ L).map (·.1)).Nodup → mergeK (heldK A) (heldK L) = heldK (A ++ L)
  | [], A, _ => by rw [List.append_nil]; rfl
  | t :: L, A, nd => by
    have e : A ++ t :: L = (A ++ [t]) ++ L := by simp
    rw [e] at nd ⊢
    rw [← mergeK_held nd]
    have new : t.1 ∉ A.map (·.1) := by
      rw [List.map_append, List.map_append] at nd
      have := (List.nodup_append.mp (List.nodup_append.mp nd).1).2.2
      intro h
      exact this _ h _ (by simp) rfl
    show mergeK (putK (heldK A) (key t.1) (.ref t.2.1)) (heldK L) = _
    rw [held_put (ps := t.2.2) new]
theorem hLf_vw : ∀ {L L' : Hld}, vw L = vw L' → hLf L = hLf L'
  | [], [], _ => rfl
  | [], _ :: _, e => by cases e
  | _ :: _, [], e => by cases e
  | (a, l, ps) :: L, (b, m, qs) :: L', e => by
    have e1 := (List.cons.inj e).1
    have e2 : vw L = vw L' := (List.cons.inj e).2
    have ea : a = b := congrArg (·.1) e1
    have ep : ps = qs := congrArg (·.2) e1
    subst ea ep
    funext z
    rw [hLf, hLf, hLf_vw e2]
abbrev Quad := Addr × Str × Addr × List Str
theorem paired_of {K : PySem.W.Frag} {H : Hp} : ∀ {ps : List Quad}, (∀ p ∈ ps, SqT K H p.1 [.str p.2.1, .ref p.2.2.1]) → Paired (fun (p : Addr) (kv : Key × V) => SqT K H p [kV kv.1, kv.2]) (ps.map fun p => p.1) (heldK (ps.map fun p => (p.2.1, p.2.2.1, p.2.2.2)))
  | [], _ => .nil
  | p :: ps, h => .cons (h p List.mem_cons_self) (paired_of fun q hq => h q (List.mem_cons_of_mem _ hq))
def spMade (C : Addr) : Sp := fun vs H Q _ => ∃ (F : Hp) (wa hd lv br : Addr) (L : Hld) (W : Lvs) (bs : Bars), vs = [.ref wa] ∧ Sub F H ∧ Wd F wa hd lv br L W bs ∧ WD L W bs ∧
  ∀ g M W' cs F' H', Nx No F H F' H' → Gr F' C g M W' cs → Cor L W bs M W' cs → Q (.ref g) H'
abbrev s_made : Stmt := top 42
abbrev N_made : List Str := ["world", "person", "held"]
abbrev P_made : List Str := ["world"]
theorem sc_made : FnScope N_made P_made (defScope s_made) := ⟨rfl, rfl, rfl, by decide +kernel, rfl, by decide +kernel, by decide +kernel⟩
section
variable {P : Program} {w : World} {K : PySem.W.Frag} {mg : Str → Option Value} {base : Heap} {C : Addr}
theorem ok_made (T : Txt mg) (c_Group : MkG P w K mg base C) {f fd} (D : C8.Def K mg "_law_made" s_made f fd) (b : Binds K fd P_made []) : C8.Cal P w K mg base 6 "_law_made" (spMade C) [] := by
  refine C8.cal0 D b .nil sc_made (fun vs H Q E h => ?_) (fun cdv A outer s H vs Q E hr h => ?_)
  · obtain ⟨F, wa, hd, lv, br, L, W, bs, rfl, _⟩ := h
    rfl
  · obtain ⟨F, wa, hd, lv, br, L, W, bs, rfl, sF, d, D, k⟩ := h
    have hu := hu_of hr
    refine ⟨_, (pss_cons (ps_set (i := 2) sc_made.nd rfl (Or.inl rfl) (pe_callTy (call_dictP rfl) rfl T.b_dict (by decide +kernel) (pa_cons (pe_lock (pe_lc (own := [("person", 1)]) rfl sc_made.nd (pi_keys (pe_dget hu (pv 0) pe_str (fun _ _ => rfl))) (blkOk_by (N := N_made) (sc := defScope s_made) (by decide +kernel)) (fun _ _ _ _ _ => (pg_name (i := 1) sc_made.nd rfl (Or.inl rfl))) (fun _ _ _ _ _ => pts_nil) (fun _ _ _ _ _ => (pe_tup (pa_cons (pv 1) (pa_cons (pe_callTy (k_listOf K) rfl T.b_list (by decide +kernel) (pa_cons (pe_dget hu (pe_dget hu (pv 0) pe_str (fun _ _ => rfl)) (pv 1) (fun _ _ => rfl)) pa_nil)) pa_nil)))))) pa_nil)))
  (pss_one (ps_ret (pe_mkG c_Group hr (by decide) rfl (pa_cons (pv 2) pa_nil) (pk_cons (pe_callTy call_dictD rfl T.b_dict (by decide +kernel) (pa_cons (pe_dget hu (pv 0) pe_str (fun _ _ => rfl)) pa_nil)) (pk_cons (pe_callTy (k_listOf K) rfl T.b_list (by decide +kernel) (pa_cons (pe_dget hu (pv 0) pe_str (fun _ _ => rfl)) pa_nil)) pk_nil)))))), ?_⟩
    have hh := sF _ _ d.hh
    have hw := sF _ _ d.hw
    have l6 := D.n6
    have whd : wa ≠ hd := fun z => by
      have a := d.hw
      rw [z, d.hh] at a
      have b : heldK L = wK hd lv br := HO.dK.inj (Option.some.inj a)
      cases e : L with
      | nil => rw [e] at b; cases b
      | cons t L' =>
        rw [e] at b
        have q : t.2.1 = hd := V.ref.inj (congrArg (·.2) (List.cons.inj b).1)
        have h := d.ha t (by rw [e]; exact List.mem_cons_self)
        rw [q, d.hh] at h
        cases h
    walk_at "zz"
    refine z_lockE hh (by trivial) fun od => ?_
    have hL : (upd H hd (.frz od (.dK (heldK L)))) hd = some (.frz od (.dK (heldK L))) := upd_same
    have hwL : (upd H hd (.frz od (.dK (heldK L)))) wa = some (.dK (wK hd lv br)) := by rw [upd_ne whd]; exact hw
    have hpL : ∀ t ∈ L, (upd H hd (.frz od (.dK (heldK L)))) t.2.1 = some (.lst (t.2.2.map V.str)) := fun t ht => by
      rw [upd_ne (ne_of (sF _ _ (d.ha t ht)) hh (fun z => nomatch z))]; exact sF _ _ (d.ha t ht)
    have oldL : ∀ {x}, (upd H hd (.frz od (.dK (heldK L)))) x = none → H x = none := fun {x} h => by
      by_cases z : x = hd
      · rw [z, upd_same] at h; cases h
      · rwa [upd_ne z] at h
    have unl : ∀ {H1 : Hp}, (∀ x o, (upd H hd (.frz od (.dK (heldK L)))) x = some o → H1 x = some o) → Nx No F H F (upd H1 hd (.dK (heldK L))) := fun h => nx_unlock sF hh h
    generalize upd H hd (.frz od (.dK (heldK L))) = HL at hL hwL hpL oldL unl ⊢
    walk_at "zz"
    refine z_dgetR (.inl hwL) w_held ?_
    refine ⟨hd, od, rfl, .inl ⟨heldK L, hL, fun D' hD => ?_⟩⟩
    refine lc_it walk_keys (fun i H' => (∀ x o, HL x = some o → H' x = some o) ∧ ∃ ps : List Quad, H' D' = some (.lst (ps.map fun p => V.ref p.1)) ∧ ps.map (fun p => (p.2.1, p.2.2.2)) = (L.take i).map (fun t => (t.1, t.2.2)) ∧
        ∀ p ∈ ps, H' p.1 = some (.tup [.str p.2.1, .ref p.2.2.1]) ∧ H' p.2.2.1 = some (.lst (p.2.2.2.map V.str)) ∧ HL p.2.2.1 = none ∧ p.2.2.1 ≠ D') ⟨fun x o e => upd_keep e hD, [], upd_same, rfl, fun p hp => (by cases hp)⟩ (fun i H' _ h => h.1 _ _ hL) ?_ ?_
    · rintro i v H1 H2 hi ⟨k1, ps, h1, e1, q1⟩ ⟨rfl, ky, vv, hk, rfl⟩
      rw [held_len] at hi
      obtain ⟨t, ht, et⟩ : ∃ t, L[i]? = some t ∧ (key t.1, V.ref t.2.1) = (ky, vv) := by
        rw [heldK, List.getElem?_map] at hk
        cases e : L[i]? with
        | none => rw [e] at hk; cases hk
        | some t => rw [e] at hk; exact ⟨t, rfl, Option.some.inj hk⟩
      obtain ⟨rfl, rfl⟩ := Prod.mk.inj et
      have tm := List.mem_of_getElem? ht
      have pl : ps.length ≤ 6 := by have := congrArg List.length e1; rw [List.length_map, List.length_map, List.length_take] at this; omega
      walk_at "zz"
      refine z_dgetR (.inl (k1 _ _ hwL)) w_held ?_
      walk_at "zz"
      refine z_dgetR (frz_rd (k1 _ _ hL)) (held_val D.nd tm) ?_
      walk_at "zz"
      refine z_list (.inl (SqL.of (k1 _ _ (hpL t tm)))) fun l hl => ?_
      have lD : l ≠ D' := (ne_of_none h1 hl).symm
      have h2 := upd_keep (o := .lst (t.2.2.map V.str)) h1 hl
      have g2 : (upd H2 l (.lst (t.2.2.map V.str))) l = some (.lst (t.2.2.map V.str)) := upd_same
      have lL : HL l = none := by
        cases z : HL l with
        | none => rfl
        | some o => rw [k1 _ _ z] at hl; cases hl
      have k2 : ∀ x o, H2 x = some o → (upd H2 l (.lst (t.2.2.map V.str))) x = some o := fun x o e => upd_keep e hl
      generalize upd H2 l (.lst (t.2.2.map V.str)) = H3 at h2 g2 k2 ⊢
      walk_at "zz"
      refine ⟨sz (by show 2 ≤ 100000; decide), fun r hr' => ?_⟩
      have h3 := upd_keep (o := .tup [.str t.1, .ref l]) h2 hr'
      have rD : D' ≠ r := ne_of_none h2 hr'
      refine ⟨_, h3, szl (by rw [List.length_map]; omega), fun x o e => ?_, ps ++ [(r, t.1, l, t.2.2)], ?_, ?_, fun p hp => ?_⟩
      · rw [upd_ne (fun z => by rw [z, hD] at e; cases e)]
        exact upd_keep (k2 _ _ (k1 _ _ e)) hr'
      · rw [upd_same, List.map_append]; rfl
      · rw [List.map_append, e1, take_step ht, List.map_append]; rfl
      · rcases List.mem_append.mp hp with hp | hp
        · obtain ⟨a1, a2, a3, a4⟩ := q1 p hp
          refine ⟨?_, ?_, a3, a4⟩
          · rw [upd_ne (ne_of a1 h1 (fun z => nomatch z))]; exact upd_keep (k2 _ _ a1) hr'
          · rw [upd_ne a4]; exact upd_keep (k2 _ _ a2) hr'
        · rw [List.mem_singleton.mp hp]
          refine ⟨?_, ?_, lL, lD⟩
          · rw [upd_ne rD.symm]; exact upd_same
          · rw [upd_ne lD]; exact upd_keep g2 hr'
    · rintro H1 ⟨k1, ps, h1, e1, q1⟩
      rw [held_len, List.take_length] at e1
      refine ⟨k1 _ _ hL, ?_⟩
      have N1 := unl k1
      have Dh : D' ≠ hd := fun z => by rw [z, hL] at hD; cases hD
      have h2 : (upd H1 hd (.dK (heldK L))) D' = some (.lst (ps.map fun p => V.ref p.1)) := by rw [upd_ne Dh]; exact h1
      have q2 : ∀ p ∈ ps, (upd H1 hd (.dK (heldK L))) p.1 = some (.tup [.str p.2.1, .ref p.2.2.1]) ∧ (upd H1 hd (.dK (heldK L))) p.2.2.1 = some (.lst (p.2.2.2.map V.str)) ∧ H p.2.2.1 = none := fun p hp => by
        obtain ⟨a1, a2, a3, _⟩ := q1 p hp
        refine ⟨?_, ?_, oldL a3⟩
        · rw [upd_ne (ne_of a1 (k1 _ _ hL) (fun z => nomatch z))]; exact a1
        · rw [upd_ne (fun z => by rw [z, hL] at a3; cases a3)]; exact a2
      generalize upd H1 hd (.dK (heldK L)) = H2 at N1 h2 q2 ⊢
      walk_at "zz"
      have evw : vw (ps.map fun p => (p.2.1, p.2.2.1, p.2.2.2)) = vw L := by rw [← show L.map (fun t => (t.1, t.2.2)) = vw L from rfl, ← e1, vw, List.map_map]; rfl
      have ekeys : (ps.map fun p => (p.2.1, p.2.2.1, p.2.2.2)).map (·.1) = L.map (·.1) := by rw [← vw_keys, ← vw_keys, evw]
      have pd := paired_of (K := K) (H := H2) (ps := ps) fun p hp => SqT.of (q2 p hp).1
      refine ⟨D', ps.map (fun p : Quad => p.1), heldK (ps.map fun p : Quad => (p.2.1, p.2.2.1, p.2.2.2)), rfl, SqL.of (by rw [List.map_map]; exact h2), pd, fun q hq => ?_⟩
      have mk := mergeK_held (L := ps.map fun p => (p.2.1, p.2.2.1, p.2.2.2)) (A := []) (by rw [List.nil_append, ekeys]; exact D.nd)
      rw [List.nil_append] at mk
      rw [show mergeK [] (heldK (ps.map fun p => (p.2.1, p.2.2.1, p.2.2.2))) = heldK (ps.map fun p => (p.2.1, p.2.2.1, p.2.2.2)) from mk]
      have hL3 : ∀ t ∈ (ps.map fun p => ((p.2.1, p.2.2.1, p.2.2.2) : Str × Addr × List Str)), H2 t.2.1 = some (.lst (t.2.2.map V.str)) ∧ H t.2.1 = none := fun t ht => by
        obtain ⟨p, hp, rfl⟩ := List.mem_map.mp ht
        exact (q2 p hp).2
      generalize (ps.map fun p => ((p.2.1, p.2.2.1, p.2.2.2) : Str × Addr × List Str)) = L3 at evw ekeys hL3 ⊢
      have N2 := N1.trans (Nx.mak (M := No) (o := .dK (heldK L3)) N1.sub hq)
      have hq3 : (upd H2 q (.dK (heldK L3))) q = some (.dK (heldK L3)) := upd_same
      have hL4 : ∀ t ∈ L3, (upd H2 q (.dK (heldK L3))) t.2.1 = some (.lst (t.2.2.map V.str)) ∧ H t.2.1 = none ∧ t.2.1 ≠ q := fun t ht => ⟨upd_keep (hL3 t ht).1 hq, (hL3 t ht).2, ne_of_none (hL3 t ht).1 hq⟩
      have fq := N1.sub.none hq
      generalize upd H2 q (.dK (heldK L3)) = H3 at N2 hq3 hL4 ⊢
      have N3 := N2.frzS (fun x => H x = none ∧ x ≠ q) fun x h => h.1
      have fq3 : frzS F H3 (fun x => H x = none ∧ x ≠ q) q = none := frzS_no (fun z => z.2 rfl) fq
      have hO3 : HeldO (frzS F H3 (fun x => H x = none ∧ x ≠ q)) L3 := fun t ht => by
        obtain ⟨a1, a2, a3⟩ := hL4 t ht
        exact .inl (frzS_new ⟨a2, a3⟩ a1 N2.sub)
      have d3 := d.sub N3.mono
      generalize frzS F H3 (fun x => H x = none ∧ x ≠ q) = F3 at N3 fq3 hO3 d3
      walk_at "zz"
      refine z_dgetR (.inl (N3.sub _ _ d3.hw)) w_leaves ?_
      walk_at "zz"
      refine ⟨lv, _, rfl, .inl (N3.sub _ _ d3.hv), fun p2 hp2 => ?_⟩
      have N4 := N3.trans (Nx.mak (M := No) (o := .dK (lvK W)) N3.sub hp2)
      have h4q := upd_keep (o := .dK (lvK W)) hq3 hp2
      have h4p : (upd H3 p2 (.dK (lvK W))) p2 = some (.dK (lvK W)) := upd_same
      generalize upd H3 p2 (.dK (lvK W)) = H4 at N4 h4q h4p ⊢
      walk_at "zz"
      refine z_dgetR (.inl (N4.sub _ _ d3.hw)) w_bars ?_
      walk_at "zz"
      refine z_list (.inl (N4.sub.sql d3.hb)) fun b2 hb2 => ?_
      have N5 := N4.trans (Nx.lay (M := No) (o := .lst (bs.map fun t => V.ref t.1)) N4.sub hb2)
      have fb2 := N4.sub.none hb2
      have D3 : WD L3 W bs := D.alk ekeys (fun t ht => by
        have nd3 : (L3.map (·.1)).Nodup := by rw [ekeys]; exact D.nd
        rw [← hLf_vw evw, hLf_of nd3 ht]) rfl
      walk_at "zz"
      refine mkG_ok N5.sub (upd_keep h4q hb2) (by rw [upd_ne (ne_of_none h4q hb2)]; exact fq3) (upd_keep h4p hb2) upd_same (fun t ht => upd_keep (d3.ba t ht) fb2) (fun t ht => (hO3 t ht).imp (fun e => upd_keep e fb2) fun e => upd_keep e fb2) D3 fun g M W' cs F' H' N6 gr co => ?_
      walk_at "zz"
      refine k g M W' cs F' H' (N5.trans N6) gr ⟨by rw [← ekeys]; exact co.names, fun t ht => by rw [← hLf_vw evw]; exact co.pages t ht, co.lvs, co.bars⟩
end
end EV
end

section
set_option maxHeartbeats 2000000
/-! ### the text of a truth; the least of a pair of ints; tuples of texts compared -/
namespace EV
open PySem PySem.Spec PyProof.Rows L2
section
variable {X : Cx}
theorem call_repr_bool : CallR X (.builtin "repr") (fun xs H Q => ∃ b : Bool, xs = [.bl b] ∧ Q (.str (if b then "True" else "False")) H) := by
  rintro pins s σ H xs us Q I r ⟨b, rfl, q⟩
  obtain ⟨u, rfl, ru⟩ := vals1 r
  cases (show u = Value.bool b from ru)
  exact PySem.P.repr_of_bool ⟨.str _, H, I.tok _, ⟨_, rfl⟩, q⟩
def rMinP (K : PySem.W.Frag) : List V → Hp → VK → Prop := fun vs H Q => ∃ (p : Addr) (n m : Int), vs = [V.ref p] ∧ SqT K H p [.int n, .int m] ∧ Q (.int (if m < n then m else n)) H
theorem k_minT (K : PySem.W.Frag) (hc : X.calm = true) (hu : X.A.units + 64 < cLine) (hK : X.K = K := by rfl) : CallR X (.builtin "min") (rMinP K) := by
  subst hK
  rintro pins s σ H xs us Q I r ⟨p, n, m, rfl, h, q⟩
  rw [Vals.ref1 r]
  obtain ⟨its, rv, ht, _⟩ := I.tuple h
  obtain ⟨as, rd⟩ := Dp.readsAll I [.int n, .int m] [.int n, .int m] its (.cons (.int n) (.cons (.int m) .nil)) rv
  have hd : X.A.in1.units + PyData.depthAll [PyData.int n, PyData.int m] < cLine := by
    have : PyData.depthAll [PyData.int n, PyData.int m] ≤ 2 := by simp [PyData.depthAll, PyData.depth]
    show X.A.units + 1 + _ < cLine
    omega
  refine PySem.W.min_tuple_data (x := .int n) (xs := [.int m]) (I.ok.hd hc) ht (by simpa using rd) ⟨fun x hx y hy => ?_, fun x hx => ?_⟩ hd fun i v h' tk bs hv rd' hk => ?_
  · simp only [List.mem_cons, List.not_mem_nil, or_false] at hx hy
    rcases hx with rfl | rfl <;> rcases hy with rfl | rfl <;> rfl
  · simp only [List.mem_cons, List.not_mem_nil, or_false] at hx
    rcases hx with rfl | rfl <;> exact fun z => nomatch z
  · have e : PySem.W.minD (PyData.int n) [PyData.int m] = PyData.int (min n m) := PySem.W.minD_ints n [m]
    rw [show min n m = if m < n then m else n by rw [Int.min_def]; split <;> split <;> omega] at e
    rw [e] at rd'
    cases rd' with
    | int i t => exact ⟨.int _, H, I.kept hk, ⟨t, rfl⟩, q⟩
end
end EV
end

section
set_option maxHeartbeats 2000000
/-! ### defs that know that no text of a list or a tuple is under way -/
namespace EV
open PySem PySem.Spec PyProof.Rows L2
/-- as FnOk, where nothing is under way -/
structure FnG (P : Program) (w : World) (K : PySem.W.Frag) (mg : Str → Option Value) (base : Heap) (k : Nat) (f : Addr) (fd : FuncData) (ps : List Str) (sp : Sp) : Prop where
  len : ∀ vs H Q E, sp vs H Q E → vs.length = ps.length
  go : ∀ (A : Around) (outer : List Env) (s : Shared) (H : Hp) (args : Args) (us : List Value) (vs : List V) (Q : VK) (E : XK), A.guards = some [] → Room k A → Env0 P w K mg base A outer s H → BindsTo s fd args (ps.zip us) → Vals vs us → sp vs H Q E →
    codeAny (model P w) A (.call (.ref f) args) (CR C8.CX0 outer P w H s Q E) s
theorem fnG_of {P : Program} {w : World} {K : PySem.W.Frag} {mg : Str → Option Value} {base : Heap} {k : Nat} {f : Addr} {x qual : Str} {st : Stmt} {fd : FuncData} {N ps : List Str} {sp : Sp} (F : C8.Fun K x qual st f fd) (S : FnScope N ps (C8.fnScope st)) (len : ∀ vs H Q E, sp vs H Q E → vs.length = ps.length)
    (hbody : ∀ (cdv : Value) (A : Around) (outer : List Env) (s : Shared) (H : Hp) (vs : List V) (Q : VK) (E : XK), A.guards = some [] → Room k (A.deeper (envOfC qual (C8.fnScope st) s.heap.objs.size f cdv)) → sp vs H Q E →
      ∃ t, PSs (cxOf C8.CX0 P w K mg base N qual (C8.fnScope st) f cdv A outer s H E).nox (C8.fnBody st) t ∧ t { nx := fun _ H' => Q .non H', rt := Q } (start N vs) H) : FnG P w K mg base (k + 1) f fd ps sp := by
  obtain ⟨oc, od, dV, kV, doc, pm, an, cdv, ct, osl, rfl, lk, hcd⟩ := F.ex
  refine ⟨len, fun A outer s H args us vs Q E hG hr e0 hb r hsp => ?_⟩
  have KX : K.In s.heap := e0.mod.kin.keeps fun b o e => (e0.bs b o e).1
  have kinds : ∀ y ∈ ps.zip us, (C8.fnScope st).names.lookup y.1 = some .local ∨ ((C8.fnScope st).names.lookup y.1 = some .cell ∧ ((cellsFrom (s.heap.objs.size + 1) (C8.fnScope st).names []).lookup y.1).isSome = true) := fun y hy =>
    (S.par y.1 (List.of_mem_zip (a := y.1) (b := y.2) hy).1).imp (fun q => q) fun q => ⟨q, PySem.W.cellsFrom_some _ _ _ (.inl q)⟩
  refine codeAny_call_function hr.depth (KX _ _ lk) rfl S.co S.gen rfl (PySem.W.codeRec_of KX hcd) (hb _ _ _ _ (wpAny_newFunctionEnv_cells S.kind kinds fun env he s1 x => ?_))
  subst he
  refine ⟨(e0.mod.nolimit.keeps fun b o e => (e0.bs b o e).1).keeps x.toInCall.keep, codeAny_func ?_⟩
  obtain ⟨t, ht, hq⟩ := hbody cdv A outer s H vs Q E hG (hr.deeper _) hsp
  have I : Inv (cxOf C8.CX0 P w K mg base N qual (C8.fnScope st) f cdv A outer s H E) [] (start N vs) H s1 := inv_start S hr.hd e0 (len _ _ _ _ hsp) r x
  refine wpAny_mono (ht.nox.run [] s1 (start N vs) H _ I hq) (fun fl s' hs => ?_) fun e s' hs => hs
  match fl, hs with
  | .ret u, ⟨v, σ', H', J, rv, q⟩ => exact ⟨v, H', J.os, J.bare, J.base, J.hok, rv, q⟩
  | .next, ⟨σ', H', J, q⟩ => exact ⟨V.non, H', J.os, J.bare, J.base, J.hok, rfl, q⟩
  | .brk, ⟨_, _, _, q⟩ => exact False.elim q
  | .cont, ⟨_, _, _, q⟩ => exact False.elim q
structure CalG (P : Program) (w : World) (K : PySem.W.Frag) (mg : Str → Option Value) (base : Heap) (k : Nat) (x : Str) (sp : Sp) : Prop where
  ex : ∃ (f : Addr) (fd : FuncData) (ps : List Str), FnG P w K mg base k f fd ps sp ∧ mg x = some (.ref f) ∧ PySem.W.keepIn K (.ref f) = true ∧ Binds K fd ps []
theorem calG0 {P : Program} {w : World} {K : PySem.W.Frag} {mg : Str → Option Value} {base : Heap} {x : Str} {st : Stmt} {f : Addr} {fd : FuncData} {N ps : List Str} {k : Nat} {sp : Sp} (F : C8.Def K mg x st f fd) (b : Binds K fd ps []) (S : FnScope N ps (C8.fnScope st)) (len : ∀ vs H Q E, sp vs H Q E → vs.length = ps.length)
    (hbody : ∀ (cdv : Value) (A : Around) (outer : List Env) (s : Shared) (H : Hp) (vs : List V) (Q : VK) (E : XK), A.guards = some [] → Room k (A.deeper (envOfC x (C8.fnScope st) s.heap.objs.size f cdv)) → sp vs H Q E →
      ∃ t, PSs (cxOf C8.CX0 P w K mg base N x (C8.fnScope st) f cdv A outer s H E).nox (C8.fnBody st) t ∧ t { nx := fun _ H' => Q .non H', rt := Q } (start N vs) H) : CalG P w K mg base (k + 1) x sp :=
  ⟨f, fd, ps, fnG_of F.fn S len hbody, F.mgf, F.kp, b⟩
theorem pe_g {X : Cx} {k j : Nat} {x : Str} {sp : Sp} {p pos : Pos} {e : Expr} {es : List Expr} {t : TA} (c : CalG X.prog X.w X.K X.mg X.base k x sp) (hG : X.A.guards = some []) (hr : Room j X.A) (hk : k ≤ j) (hg : Gl X x) (ha : PA X (e :: es) t)
    (hdb : (x == ("__debug__" : Str)) = false := by decide) (he : starEach (e :: es) X.env = (false, eval e X.env) :: starEach es X.env := by rfl) (hpl : (backTo pos (starEach es X.env)).any (·.1) = false := by rfl) :
    PE X (.Call (.Name x p) (e :: es) [] pos) (tCall sp [] C8.E0 t) := by
  obtain ⟨f, fd, ps, F, hm, kp, b⟩ := c.ex
  refine ⟨fun pins s σ H Q I h => wpAny_Call_Name_kw (ld_glob I hg hm ?_ hdb)⟩
  refine PySem.W.callWith_K (h₀ := X.base) I.ok.mod.kin kp (thn (ha.run pos pins s σ H _ I h) fun us s1 ⟨vs, H1, I1, r, q⟩ => ⟨I1.kIn, ?_⟩) he hpl
  have q2 : sp vs H1 Q C8.E0 := by have z : sp (vs ++ []) H1 Q C8.E0 := q; rwa [List.append_nil] at z
  have hl : us.length = ps.length := by rw [← r.length]; exact F.len _ _ _ _ q2
  have b2 := b s1 us I1.kIn (by rw [List.append_nil]; exact hl)
  rw [List.append_nil] at b2
  refine wpAny_call (codeAny_mono (F.go X.A X.stack s1 H1 ⟨us, []⟩ us vs Q C8.E0 hG (hr.mono hk) I1.env0 b2 r q2) fun r s' hq => ?_)
  match r, hq with
  | .error e, hq => exact hq.elim
  | .ok (.ret u), hq => exact I1.after hq
  | .ok .next, hq => exact False.elim hq
  | .ok .brk, hq => exact False.elim hq
  | .ok .cont, hq => exact False.elim hq
/-- the text of data -/
def rReprD (K : PySem.W.Frag) : List V → Hp → VK → Prop := fun xs H Q => ∃ (a : Addr) (d : PyData), xs = [.ref a] ∧ Dp K H (.ref a) d ∧ d.showable = true ∧ d.hasDict = false ∧ PyData.depth d ≤ 50 ∧ d.shown.length ≤ sizeLine ∧ Q (.str d.shown) H
theorem call_repr_data (K : PySem.W.Frag) {X : Cx} (hG : X.A.guards = some []) (hu : X.A.units + 64 < cLine) (hK : X.K = K := by rfl) : CallR X (.builtin "repr") (rReprD K) := by
  subst hK
  rintro pins s σ H xs us Q I r ⟨a, d, rfl, hd, hs, hno, hdp, hz, q⟩
  rw [Vals.ref1 r]
  obtain ⟨as, rd⟩ := Dp.reads I d _ _ hd (show RelV (.ref a) (.ref a) from rfl)
  exact repr_of_reads' rd hs (PyData.noDict_hsm hno) hG (by omega) (fun _ _ e => e) (fun h' u tk hk => ⟨.str d.shown, H, I.kept hk, ⟨u, rfl⟩, q⟩) hz
/-! ### the end of a law whose def knows so -/
theorem law_G {P : Program} {w : World} {K : PySem.W.Frag} {mg mb : Str → Option Value} {k : Nat} {fa a : Addr} {fd : FuncData} {x : Str} {sp : Sp} {s₁ : Shared} {vs : List Value} {ns : List Int} (KX : K.In s₁.heap) (hns : s₁.heap.Ns mainGlobals mg) (hb : s₁.heap.Ns builtinsNs mb) (hbb : ∀ x : Str, x ≠ "__name__" → mb x = bootBuiltins x)
    (hlim : s₁.heap.NoLimit) (hgn : s₁.gens = #[]) (ha : s₁.heap.get? a = some { cls := .type "list", data := .seq vs.toArray }) (hi : IntsAre vs ns) (hl : ns.length ≤ sizeLine) (hr : Room k callerA) (F : ∀ base : Heap, K.In base → base.Ns mainGlobals mg → FnG P w K mg base k fa fd [x] sp) (hbind : ∀ (s : Shared) (u : Value), BindsTo s fd ⟨[u], []⟩ [(x, u)])
    (hsp : ∀ H : Hp, Only H → SqL K H a (ns.map V.int) → sp [.ref a] H (fun v _ => v = .bl true) fun _ _ _ => False) :
    codeAny (model P w) callerA (.call (.ref fa) ⟨[.ref a], []⟩) (fun r s' => r = .ok (.ret (.bool true)) ∧ OldK s₁.heap s'.heap ∧ s'.os = s₁.os ∧ AllBare s'.gens) s₁ := by
  have rv := vals_ints hi; have lenV := hi.length
  -- whatever is tracked: the script alone, or nothing
  have core : ∀ H : Hp, Only H → SqL K H a (ns.map V.int) → HOk P w H s₁.heap → (∀ b, H b ≠ none → b = a) → (H a ≠ none → K.lookup a = none) → codeAny (model P w) callerA (.call (.ref fa) ⟨[.ref a], []⟩) (fun r s' => r = .ok (.ret (.bool true)) ∧ OldK s₁.heap s'.heap ∧ s'.os = s₁.os ∧ AllBare s'.gens) s₁ := by
    intro H hO hS hok hA hK
    have noA : ∀ {b : Addr} {o : Obj} {es : Array DictEntry} {ep : Nat}, s₁.heap.get? b = some o → o.data = .dict es ep → H b = none := fun {b o es ep} e d => by
      cases q : H b with
      | none => rfl
      | some u =>
        have eb := hA b (by rw [q]; simp)
        rw [eb, ha] at e; rw [← Option.some.inj e] at d; cases d
    have nsK : ∀ {b : Addr} {m : Str → Option Value}, s₁.heap.Ns b m → (hidT s₁.heap H).Ns b m := fun {b m} ⟨o, es, ep, e, d, r⟩ => ⟨o, es, ep, hidT_get e (noA e d), d, r⟩
    have hKb : K.In (hidT s₁.heap H) := fun b o e => hidT_get (KX b o e) (by
      cases q : H b with
      | none => rfl
      | some u => have eb := hA b (by rw [q]; simp); rw [eb] at q e; rw [hK (by rw [q]; simp)] at e; cases e)
    have hM : Mod K mg (hidT s₁.heap H) := ⟨hKb, nsK hns, ⟨mb, nsK hb, hbb⟩, let ⟨mc, h1, h2⟩ := hlim; ⟨mc, nsK h1, h2⟩⟩
    have env : Env0 P w K mg (hidT s₁.heap H) callerA [] s₁ H := ⟨rfl, hM, fun b o e => of_hidT e, Nat.le_of_eq (hidT_size _ _), trivial, fun b hb => absurd (show b ∈ ([] : List Addr) from hb) (by simp), hok, .of_eq hgn⟩
    refine codeAny_mono ((F _ hKb (nsK hns)).go callerA [] s₁ H ⟨[.ref a], []⟩ [.ref a] [.ref a] _ _ rfl hr env (hbind s₁ (.ref a)) (.cons rfl .nil) (hsp H hO hS)) fun r s' h => ?_
    match r, h with
    | .error e, h => exact h.elim
    | .ok .next, h => exact False.elim h
    | .ok .brk, h => exact False.elim h
    | .ok .cont, h => exact False.elim h
    | .ok (.ret u), ⟨v, H', os, bare, un, hok', r', (q : v = .bl true)⟩ =>
      subst q
      obtain rfl : u = Value.bool true := r'
      refine ⟨rfl, OldK.of_keep fun b o e => ?_, os, bare⟩
      rcases hO b with z | ⟨ob, xs, z⟩
      · exact un.keep b o e z (fun m => absurd (show b ∈ ([] : List Addr) from m) (by simp)) (by simp)
      · obtain ⟨e1, _⟩ := hok b _ z; obtain ⟨e2, _⟩ := hok' b _ (un.frzs b ob _ z)
        rw [e] at e1; cases e1; exact e2
  cases hk : K.lookup a with
  | some o =>
    have e := KX a o hk; rw [ha] at e; cases e
    exact core (fun _ => none) (fun _ => .inl rfl) (.inr ⟨_, vs.toArray, _, hk, rfl, rfl, rfl, by rw [List.size_toArray, lenV]; exact hl, by simpa using rv⟩) (fun b u z => nomatch (show (none : Option HO) = some u from z)) (fun b z => absurd rfl z) fun z => absurd rfl z
  | none =>
    have at_ : ∀ b, (fun c => if c = a then some (HO.frz { cls := .type "list", data := .seq vs.toArray } (.lst (ns.map V.int))) else none) b = if b = a then some (HO.frz { cls := .type "list", data := .seq vs.toArray } (.lst (ns.map V.int))) else none := fun _ => rfl
    refine core (fun c => if c = a then some (.frz { cls := .type "list", data := .seq vs.toArray } (.lst (ns.map V.int))) else none) (fun b => ?_) (.inl (.inr ⟨{ cls := .type "list", data := .seq vs.toArray }, if_pos rfl⟩)) (fun b u z => ?_) (fun b z => ?_) fun _ => hk
    · by_cases hb : b = a
      · exact .inr ⟨_, _, if_pos hb⟩
      · exact .inl (if_neg hb)
    · by_cases hb : b = a
      · rw [at_, if_pos hb] at z
        cases z; subst hb
        exact ⟨ha, by rw [List.length_map]; exact hl, vs, _, rv, ha⟩
      · rw [at_, if_neg hb] at z; cases z
    · by_cases hb : b = a
      · exact hb
      · exact absurd (if_neg hb) z
theorem walk_G {l : PySem.W.OpenLaw} {n k : Nat} {q : Program} {loose : List Str} {XP : (Str → Option Value) → Heap → Prop} {YP : World → Heap → Prop} {d : DefRec} {x : Str} (hn : l.most = some n) (hn2 : n ≤ sizeLine) (hdf : d.params.defaults = []) (hr : Room k callerA)
    (F : ∀ (w : World) (mg : Str → Option Value) (fa : Addr) (h : Heap), YP w h → h.Ns mainGlobals mg → mg d.name = some (.ref fa) → ∃ (K : PySem.W.Frag) (fd : FuncData) (sp : Sp), K.In h ∧ (∀ (s : Shared) (u : Value), BindsTo s fd ⟨[u], []⟩ [(x, u)]) ∧
        (∀ (H : Hp) (a : Addr) (ns : List Int), ns.length ≤ n → Only H → SqL K H a (ns.map V.int) → sp [.ref a] H (fun v _ => v = .bl true) fun _ _ _ => False) ∧ ∀ base : Heap, K.In base → base.Ns mainGlobals mg → FnG l.prog w K mg base k fa fd [x] sp) :
    PySem.W.WalkO q loose XP YP l.row.toRowW d [] (fun f vs => PySem.call f vs) := by
  refine Att.attach_call hn hdf fun w s₀ s₁ mg mb fa o pm cd doc a vs ns G Y ho hd hcd hmg hobj hints hlen hg => ?_
  obtain ⟨K, fd, sp, KX, hb, hsp, hF⟩ := F w mg fa _ Y G.T.g hmg
  exact law_G KX G.T.g G.T.b G.T.builtins G.T.nolimit hg hobj hints (Nat.le_trans hlen hn2) hr hF hb fun H hO hS => hsp H a ns hlen hO hS
end EV
end

section
set_option maxHeartbeats 2000000
/-! ### an own ==, whatever it answers -/
namespace EV
open PySem PySem.Spec PyProof.Rows L2
def rEqOwn (C : Addr) (sp : Sp) : R2 := fun x y H Q => ∃ (a b dx dy : Addr) (fs gs : List (Str × V)), x = .ref a ∧ y = .ref b ∧ H a = some (.ins C dx fs) ∧ H b = some (.ins C dy gs) ∧ sp [.ref a, .ref b] H (fun v H' => ∃ k, v = .bl k ∧ Q (.bl k) H') C8.E0
theorem op_eqOwn {X : Cx} {C f : Addr} {fd : FuncData} {ps : List Str} {sp : Sp} {n : Nat} (F : FnOk X.prog X.w X.K X.mg X.base C8.CX0 n f fd ps sp) (hs : PySem.W.findIn X.K (.ref C) "__eq__" = some (some (.ref f))) (hf : PySem.W.isFn X.K (.ref f) = true) (hb : Binds X.K fd ps []) (hr : Room n X.A) : OpR X (compareOp .Eq) (rEqOwn C sp) := by
  rintro pins s σ H x y u v Q I rx ry ⟨a, b, dx, dy, fs, gs, rfl, rfl, ha, hb', hsp⟩
  cases (show u = Value.ref a from rx)
  cases (show v = Value.ref b from ry)
  obtain ⟨mA, J, _⟩ := ins_get I.hok ha
  obtain ⟨mB, J', _⟩ := ins_get I.hok hb'
  obtain ⟨od, J, _⟩ := J.look
  obtain ⟨od', J', _⟩ := J'.look
  obtain ⟨m, hF⟩ := I.fr
  show wpAny (model X.prog X.w) X.A (richCompare .Eq (.ref a) (.ref b)) (EP X pins σ Q) X.xe s
  refine PySem.W.cmp_K (op := .Eq) (tb := .ref C) hr.units0 hF I.ok.mod.kin J J'.type (by simp [PySem.W.notFirst]) hs hf ?_
  have r2 : Vals [V.ref a, V.ref b] [Value.ref a, Value.ref b] := .cons rfl (.cons rfl .nil)
  have hl := F.len _ _ _ _ hsp
  have b2 := hb s [.ref a, .ref b] I.kIn (by simpa using hl)
  rw [List.append_nil] at b2
  refine wpAny_call (codeAny_mono (F.run X.A X.stack s H ⟨[.ref a, .ref b], []⟩ [.ref a, .ref b] [.ref a, .ref b] _ C8.E0 hr I.env0 b2 r2 hsp) fun r s' hq => ?_)
  match r, hq with
  | .error e, hq => exact hq.elim
  | .ok .next, hq => exact False.elim hq
  | .ok .brk, hq => exact False.elim hq
  | .ok .cont, hq => exact False.elim hq
  | .ok (.ret w), hq =>
    obtain ⟨z, H', I', rz, k, rfl, q⟩ := I.after hq
    cases (show w = Value.bool k from rz)
    exact ⟨.bl k, H', I', rfl, q⟩
end EV
end

section
set_option maxHeartbeats 4000000
local macro_rules | `(tactic| walk_at "za") => `(tactic| (first | exact Or.inl ⟨by omega, by omega⟩ | exact Or.inr ⟨by omega, by omega⟩ | exact ⟨by omega, by omega⟩ | exact ⟨by omega, by omega, by omega⟩ | omega))
local macro_rules | `(tactic| walk_at "z") => `(tactic| (first
  | with_reducible refine EV.z_seq ?_ | with_reducible refine EV.z_next ?_ | with_reducible refine EV.z_nx ?_ | with_reducible refine EV.z_rt ?_ | with_reducible refine EV.z_asg ?_ | with_reducible refine EV.z_name ?_
  | with_reducible refine EV.z_drop ?_ | with_reducible refine EV.z_ret ?_ | with_reducible refine EV.z_if ?_
  | ((with_reducible refine EV.z_var (v := ?vv) ?hv ?_); (case hv => exact rfl)) | with_reducible refine EV.z_c ?_ | with_reducible refine EV.z_op ?_ | with_reducible refine EV.z_un ?_ | with_reducible refine EV.z_I0 ?_ | with_reducible refine EV.z_U ?_ | ((with_reducible refine EV.z_I ?hc ?_); (case hc => walk_at "za"))
  | ((with_reducible refine EV.z_eq ?hv ?_); (case hv => exact rfl)) | ((with_reducible refine EV.z_ne ?hv ?_); (case hv => exact rfl))
  | with_reducible refine EV.z_test ?_ | with_reducible refine EV.z_bl ?_ | with_reducible refine EV.z_B ?_ | with_reducible refine EV.z_and ?_ | with_reducible refine EV.z_or ?_ | with_reducible refine EV.z_not ?_ | with_reducible refine EV.z_andV ?_
  | with_reducible refine EV.z_orV ?_ | with_reducible refine EV.z_notV ?_ | with_reducible refine EV.z_ifE ?_ | with_reducible refine EV.z_nil ?_ | with_reducible refine EV.z_cons ?_ | with_reducible refine EV.z_tup ?_ | with_reducible refine EV.z_lst ?_
  | with_reducible refine EV.z_cb ?_ | with_reducible refine EV.z_call ?_ | with_reducible refine EV.z_dget ?_ | with_reducible refine EV.z_dput ?_ | with_reducible refine EV.z_chain ?_ | with_reducible refine EV.z_then ?_ | with_reducible refine EV.z_fld ?_ | with_reducible refine EV.z_bm ?_
  | with_reducible refine EV.z_par ?_ | with_reducible refine EV.z_par3 ?_ | with_reducible refine EV.z_ex2 ?_ | with_reducible refine EV.z_ex3 ?_ | with_reducible refine EV.z_tyes ?_ | ((with_reducible refine EV.z_wipe ?hv ?_); (case hv => exact rfl))
  | with_reducible refine EV.z_lc ?_ | with_reducible refine EV.z_ltS ?_ | with_reducible refine EV.z_disp ?_ | with_reducible refine EV.z_pc ?_ | with_reducible refine EV.z_pn ?_ | with_reducible refine EV.z_m1 ?_ | with_reducible refine EV.z_isS ?_ | with_reducible refine EV.z_sl ?_ | with_reducible refine EV.z_np ?_ | with_reducible refine EV.z_pt ?_ | with_reducible refine EV.z_exI ?_ | with_reducible refine EV.z_is ?_ | with_reducible refine EV.z_istr ?_ | with_reducible refine EV.z_no ?_ | with_reducible refine EV.z_yes ?_ | with_reducible refine EV.z_for ?_ | with_reducible refine EV.z_il ?_ | with_reducible refine EV.z_it ?_ | with_reducible refine EV.z_r1 ?_ | with_reducible refine EV.z_ik ?_ | with_reducible refine EV.z_din ?_ | with_reducible refine EV.z_dnin ?_ | with_reducible refine EV.z_dsd ?_ | with_reducible refine EV.z_gs ?_ | with_reducible refine EV.z_gc ?_ | with_reducible refine EV.z_gn ?_ | with_reducible refine EV.z_turn ?_))
local macro_rules | `(tactic| walk_at "zz") => `(tactic| repeat walk_at "z")
local macro_rules | `(tactic| walk_at "z") => `(tactic| (first | with_reducible refine EV.z_mt ?_ | with_reducible refine EV.z_cS ?_ | with_reducible refine EV.z_mkO ?_ | with_reducible refine EV.z_mkK ?_))
/-! ### two groups compared, alike or not -/
namespace EV
open PySem PySem.Spec PyProof.Rows L2
theorem held_hitsX {K : PySem.W.Frag} {F H : Hp} (sF : Sub F H) {M' : Hld} (nd' : (M'.map (·.1)).Nodup) (h' : HeldT F M') (ok : ∀ t ∈ M', ∀ x ∈ t.2.2, PyData.strOk x = true) : ∀ {L : Hld}, HeldT F L → (∀ t ∈ L, ∀ x ∈ t.2.2, PyData.strOk x = true) → (∀ t ∈ L, t.1 ∈ M'.map (·.1)) → HitsV K H (heldK M') (heldK L) (decide (∀ t ∈ L, t.2.2 = hLf M' t.1))
  | [], _, _, _ => by
    rw [decide_eq_true (fun t h => (by cases h))]
    exact .nil
  | t :: L, h, okl, m => by
    obtain ⟨u, hu, e1⟩ := List.mem_map.mp (m t List.mem_cons_self)
    have v : valV (heldK M') (key t.1) = some (.ref u.2.1) := by rw [← e1]; exact held_val nd' hu
    have ht := h t List.mem_cons_self
    have hu' := h' u hu
    have oku := ok u hu
    have okt := okl t List.mem_cons_self
    have eu : hLf M' t.1 = u.2.2 := by rw [← e1]; exact hLf_of nd' hu
    have r := held_hitsX (K := K) sF nd' h' ok (L := L) (fun q hq => h q (List.mem_cons_of_mem _ hq)) (fun q hq => okl q (List.mem_cons_of_mem _ hq)) fun q hq => m q (List.mem_cons_of_mem _ hq)
    have ve : VE K H (.ref t.2.1) (.ref u.2.1) (decide (t.2.2 = u.2.2)) := by
      have q := VE.ref (K := K) (H := H) (.tup (sF.sqt ht) (dpS t.2.2)) (.tup (sF.sqt hu') (dpS u.2.2)) (shT okt) (shT oku) fun ab => by
        rw [eqv_tup, decide_eq_true_eq]
        rw [ab, hu'] at ht
        exact (List.map_inj_right (fun a b z => V.str.inj z)).mp (HO.tup.inj (Option.some.inj ht)).symm
      rw [eqv_tup] at q
      exact q
    have e : decide (∀ q ∈ t :: L, q.2.2 = hLf M' q.1) = (decide (t.2.2 = u.2.2) && decide (∀ q ∈ L, q.2.2 = hLf M' q.1)) := by
      rw [← Bool.decide_and]
      refine decide_eq_decide.mpr ?_
      rw [List.forall_mem_cons, eu]
    rw [e]
    exact .hit v ve r
theorem vw_dec {M M' : Hld} (nd : (M.map (·.1)).Nodup) (nd' : (M'.map (·.1)).Nodup) (e : M.map (·.1) = M'.map (·.1)) : decide (∀ t ∈ M, t.2.2 = hLf M' t.1) = decide (vw M = vw M') := by
  refine decide_eq_decide.mpr ?_
  have v : ∀ {N : Hld}, (N.map (·.1)).Nodup → vw N = (N.map (·.1)).map fun x => (x, hLf N x) := fun {N} nd => by
    rw [vw, List.map_map]
    refine List.map_congr_left fun t ht => ?_
    show _ = (t.1, hLf N t.1)
    rw [hLf_of nd ht]
  constructor
  · intro h
    rw [v nd', ← e, List.map_map, vw]
    refine List.map_congr_left fun t ht => ?_
    show _ = (t.1, hLf M' t.1)
    rw [← h t ht]
  · intro h t ht
    have m : (t.1, t.2.2) ∈ vw M' := by rw [← h]; exact List.mem_map_of_mem (f := fun t : Str × Addr × List Str => (t.1, t.2.2)) ht
    obtain ⟨u, hu, eu⟩ := List.mem_map.mp m
    have e1 : u.1 = t.1 := congrArg (·.1) eu
    have e2 : u.2.2 = t.2.2 := congrArg (·.2) eu
    rw [← e1, hLf_of nd' hu, e2]
def spEqX (C : Addr) : Sp := fun vs H Q _ => ∃ (a b : Addr) (F : Hp) (M M' : Hld) (W : Lvs) (cs cs' : Bars), vs = [.ref a, .ref b] ∧ Sub F H ∧ Gr F C a M W cs ∧ Gr F C b M' W cs' ∧ M.map (·.1) = M'.map (·.1) ∧ cs.map (·.2) = cs'.map (·.2) ∧ ∀ H', Same H H' → Q (.bl (decide (vw M = vw M'))) H'
section
variable {P : Program} {w : World} {K : PySem.W.Frag} {mg : Str → Option Value} {base : Heap} {C : Addr}
theorem ok_eqX (T : Txt mg) (G : GCls K C) (GI : GIs K C) (gGroup : mg "Group" = some (.ref C)) {f fd} (D : C8.Fun K "__eq__" "Group.__eq__" s_Group___eq__ f fd) : FnOk P w K mg base C8.CX0 1 f fd P_Group___eq__ (spEqX C) := by
  refine C8.fn0 D sc_Group___eq__ (fun vs H Q E h => ?_) (fun cdv A outer s H vs Q E hr h => ?_)
  · obtain ⟨a, b, _, _, _, _, _, _, rfl, _⟩ := h
    rfl
  · obtain ⟨a, b, F, M, M', W, cs, cs', rfl, sF, ⟨⟨hd, lv, br, gp⟩, gd⟩, ⟨⟨hd', lv', br', gp'⟩, gd'⟩, en, ec, k⟩ := h
    have hu := hu_of hr
    have hu65 := hu65_of hr
    obtain ⟨dx', hx'⟩ := gp'.hx
    have ml : M.length = M'.length := by have := congrArg List.length en; simpa using this
    refine ⟨_, (pss_one (ps_ret (pe_and (pe_callB (k_isi K) rfl T.b_isinstance (by decide +kernel) (pa_cons (pv 1) (pa_cons (pe_glob (v := .ref C) rfl gGroup rfl) pa_nil))) (pe_and (pe_cmpR (op_eqDX K hu65) (k_fld K (pv 0)) (k_fld K (pv 1)) (nomark _)) (pe_and (pe_cmpR (op_eqDX K hu65) (k_fld K (pv 0)) (k_fld K (pv 1)) (nomark _)) (pe_one (pe_cmpR (k_eqD K hr.units) (k_fld K (pv 0)) (k_fld K (pv 1)) (nomark _)))))))), ?_⟩
    walk_at "zz"
    refine z_isG G GI (sF _ _ hx') ?_
    walk_at "zz"
    refine z_fH G gp sF ?_
    walk_at "zz"
    refine z_fH G gp' sF ?_
    refine ⟨hd, hd', _, _, _, rfl, rfl, sF _ _ gp.hh, sF _ _ gp'.hh, held_hitsX sF gd'.nd gp'.ht gd'.ok.1 gp.ht gd.ok.1 (fun t ht => by rw [← en]; exact List.mem_map_of_mem ht), ?_⟩
    rw [held_len, held_len, ml, vw_dec gd.nd gd'.nd en]
    by_cases ev : vw M = vw M'
    · rw [decide_eq_true ev] at k ⊢
      rw [show ((M'.length == M'.length) && true) = true from by simp]
      walk_at "zz"
      refine z_fL G gp sF ?_
      walk_at "zz"
      refine z_fL G gp' sF ?_
      refine ⟨lv, lv', _, _, true, rfl, rfl, sF _ _ gp.hv, sF _ _ gp'.hv, lv_hits gd'.d.wn (fun q hq => hq), ?_⟩
      rw [show (((lvK W).length == (lvK W).length) && true) = true from by simp]
      walk_at "zz"
      refine z_fB G gp sF ?_
      walk_at "zz"
      refine z_fB G gp' sF ?_
      refine z_eqPs (sF.sql gp.hb) (fun t ht => sF.sqt (gp.ba t ht)) (sF.sql gp'.hb) (fun t ht => sF.sqt (gp'.ba t ht)) gd.ok.2 gd'.ok.2 ?_
      rw [decide_eq_true ec]
      walk_at "zz"
      exact k H fun _ _ e => e
    · rw [decide_eq_false ev] at k ⊢
      rw [Bool.and_false]
      walk_at "zz"
      exact k H fun _ _ e => e
end
structure EqOkX (P : Program) (w : World) (K : PySem.W.Frag) (mg : Str → Option Value) (base : Heap) (C : Addr) : Prop where
  ex : ∃ (f : Addr) (fd : FuncData), FnOk P w K mg base C8.CX0 1 f fd P_Group___eq__ (spEqX C) ∧ PySem.W.findIn K (.ref C) "__eq__" = some (some (.ref f)) ∧ PySem.W.isFn K (.ref f) = true ∧ Binds K fd P_Group___eq__ []
theorem op_eqGX {X : Cx} {C : Addr} {j : Nat} (E : EqOkX X.prog X.w X.K X.mg X.base C) (hr : Room j X.A) (hk : 1 ≤ j) : OpR X (compareOp .Eq) (rEqOwn C (spEqX C)) := by
  obtain ⟨f, fd, F, hs, hf, b⟩ := E.ex
  exact op_eqOwn F hs hf b (hr.mono hk)
theorem z_eqGX {C a b : Addr} {F H : Hp} {M M' : Hld} {W : Lvs} {cs cs' : Bars} {Q : VK} (sF : Sub F H) (g : Gr F C a M W cs) (g' : Gr F C b M' W cs') (en : M.map (·.1) = M'.map (·.1)) (ec : cs.map (·.2) = cs'.map (·.2)) (q : ∀ H', Same H H' → Q (.bl (decide (vw M = vw M'))) H') : rEqOwn C (spEqX C) (.ref a) (.ref b) H Q := by
  obtain ⟨⟨_, _, _, gp⟩, _⟩ := id g
  obtain ⟨⟨_, _, _, gp'⟩, _⟩ := id g'
  obtain ⟨dx, hx⟩ := gp.hx
  obtain ⟨dx', hx'⟩ := gp'.hx
  exact ⟨a, b, _, _, _, _, rfl, rfl, sF _ _ hx, sF _ _ hx', a, b, F, M, M', W, cs, cs', rfl, sF, g, g', en, ec, fun H' s => ⟨_, rfl, q H' s⟩⟩
/-! ### a world and its group -/
section
variable {L M M' : Hld} {W W' W2 : Lvs} {bs cs cs' : Bars} {x y : Str}
theorem Cor.at (c : Cor L W bs M W' cs) (G : GD M W' cs) (hx : x ∈ L.map (·.1)) : x ∈ M.map (·.1) ∧ (hLf M x).Perm (hLf L x) := by
  have m := c.names.mem_iff.mpr hx
  obtain ⟨t, ht, rfl⟩ := List.mem_map.mp m
  refine ⟨m, ?_⟩
  rw [hLf_of G.nd ht]
  exact c.pages t ht
theorem byd_perm {f g : Str → Int} {ps ps' qs qs' : List Str} (a : ps.Perm ps') (b : qs.Perm qs') (e : ∀ z ∈ ps, f z = g z) : byd f ps qs = byd g ps' qs' := by
  unfold byd
  have q : ∀ z : Str, (!decide (z ∈ qs)) = (!decide (z ∈ qs')) := fun z => by rw [decide_eq_decide.mpr b.mem_iff]
  rw [List.filter_congr (fun z _ => q z), ← sum_perm g (a.filter _)]
  exact sum_congr fun z hz => e z (List.mem_filter.mp hz).1
theorem Cor.gx (c : Cor L W bs M W' cs) (G : GD M W' cs) (hx : x ∈ L.map (·.1)) (hy : y ∈ L.map (·.1)) : EV.gx M W' x y = byd (lfn W) (hLf L y) (hLf L x) := by
  obtain ⟨mx, px⟩ := c.at G hx
  obtain ⟨my, py⟩ := c.at G hy
  exact byd_perm py px fun z hz => c.lvs z (G.cov my hz)
theorem Cor.bar (c : Cor L W bs M W' cs) : barP cs x y ↔ barP bs x y := barP_congr c.bars
theorem Cor.mem (D : WD L W bs) (G : GD M W' cs) (c : Cor L W bs M W' cs) : ∀ y, y ∈ W'.map (·.1) ↔ y ∈ W.map (·.1) := fun y => by
  constructor
  · intro h
    obtain ⟨q, hq, rfl⟩ := List.mem_map.mp h
    obtain ⟨t, ht, hy⟩ := G.d.wh hq
    have hn : t.1 ∈ L.map (·.1) := c.names.mem_iff.mp (List.mem_map_of_mem ht)
    obtain ⟨u, hu, _, e⟩ := D.at hn
    exact (D.ok hu).2 _ (by rw [← e]; exact (c.pages t ht).mem_iff.mp hy)
  · intro h
    obtain ⟨q, hq, rfl⟩ := List.mem_map.mp h
    obtain ⟨u, hu, hy⟩ := D.wh hq
    have hn : u.1 ∈ M.map (·.1) := c.names.mem_iff.mpr (List.mem_map_of_mem hu)
    obtain ⟨t, ht, et⟩ := List.mem_map.mp hn
    refine (G.d.ok ht).2 _ ((c.pages t ht).mem_iff.mpr ?_)
    rw [et, hLf_of D.nd hu]
    exact hy
/-- one world, one group -/
theorem Cor.one (D : WD L W bs) (c : Cor L W bs M W' cs) (G : GD M W' cs) (c2 : Cor L W bs M' W2 cs') (G2 : GD M' W2 cs') : W' = W2 ∧ M.map (·.1) = M'.map (·.1) ∧ vw M = vw M' ∧ cs.map (·.2) = cs'.map (·.2) := by
  have en : M.map (·.1) = M'.map (·.1) := G.names.eq G2.names (c.names.trans c2.names.symm)
  refine ⟨lvs_ext G.d.wn (srt_eq G.lvs G2.lvs G.d.wn G2.d.wn fun y => (c.mem D G y).trans (c2.mem D G2 y).symm) fun x hx => ?_, en, ?_, risP_eq G.bars G2.bars fun q => (c.bars q).trans (c2.bars q).symm⟩
  · rw [c.lvs x hx, c2.lvs x ((c2.mem D G2 x).mpr ((c.mem D G x).mp hx))]
  · have v : ∀ {N : Hld}, (N.map (·.1)).Nodup → vw N = (N.map (·.1)).map fun x => (x, hLf N x) := fun {N} nd => by
      rw [vw, List.map_map]
      refine List.map_congr_left fun t ht => ?_
      show _ = (t.1, hLf N t.1)
      rw [hLf_of nd ht]
    rw [v G.nd, v G2.nd, ← en]
    refine List.map_congr_left fun x hx => ?_
    have hx' : x ∈ M'.map (·.1) := by rw [← en]; exact hx
    have hl := c.names.mem_iff.mp hx
    rw [(G.srt hx).eq (G2.srt hx') ((c.at G hl).2.trans (c2.at G2 hl).2.symm)]
/-- behind a call -/
theorem Cor.met {L2 : Hld} (D : WD L W bs) (c : Cor L W bs M W' cs) (G : GD M W' cs) (G' : GD M' W' cs') (hx : x ∈ L.map (·.1)) (hy : y ∈ L.map (·.1)) (en : M'.map (·.1) = M.map (·.1)) (ec : cs'.map (·.2) = cs.map (·.2)) (al : Alk (M.map (·.1)) (hLf M') (stp (hLf M) x y))
    (n2 : L2.map (·.1) = L.map (·.1)) (h2 : ∀ z ∈ L.map (·.1), hLf L2 z = stp (hLf L) x y z) : Cor L2 W bs M' W' cs' := by
  have aL : Alk (M.map (·.1)) (hLf M) (hLf L) := fun z hz => (c.at G (c.names.mem_iff.mp hz)).2
  have a2 := stp_alk (fun z hz => G.nds hz) aL (c.at G hx).1 (c.at G hy).1
  refine ⟨by rw [en, n2]; exact c.names, fun t ht => ?_, c.lvs, fun q => by rw [ec]; exact c.bars q⟩
  have m : t.1 ∈ M.map (·.1) := by rw [← en]; exact List.mem_map_of_mem ht
  have p := (al t.1 m).trans (a2 t.1 m)
  rw [hLf_of G'.nd ht, ← h2 t.1 (c.names.mem_iff.mp m)] at p
  exact p
end
end EV
end

section
set_option maxHeartbeats 2000000
/-! ### texts of rows of words -/
namespace EV.TT
open PySem PySem.Spec PyProof.Rows L2 TL PySem.StrLaws
abbrev blank : Str := " "
abbrev feed : Str := "\n"
abbrev none' : Str := ""
def rowT (ws : List Str) : Str := Txt.join blank ws
def textT (rows : List Str) : Str := Txt.join none' (rows.map (· ++ feed))
theorem jl_nil : ∀ ps : List (List Nat), joinL [] ps = ps.flatten
  | [] => rfl
  | [p] => by simp [joinL]
  | p :: q :: r => by rw [joinL, jl_nil (q :: r)]; simp
theorem jl_feed : ∀ qs : List (List Nat), joinL [10] (qs ++ [[]]) = (qs.map (· ++ [10])).flatten
  | [] => rfl
  | [q] => by simp [joinL]
  | q :: r :: l => by
    have ih := jl_feed (r :: l)
    rw [List.cons_append] at ih
    show joinL [10] (q :: r :: (l ++ [[]])) = _
    rw [joinL, ih]; simp
theorem tl_feed : tl feed = [10] := by decide +kernel
theorem tl_blank : tl blank = [32] := by decide +kernel
theorem tl_none : tl none' = [] := by decide +kernel
theorem textT_join (rows : List Str) : textT rows = Txt.join feed (rows ++ [none']) := by
  have e : tl (textT rows) = tl (Txt.join feed (rows ++ [none'])) := by
    rw [textT, join_eq, join_eq, tl_join, tl_join, tl_none, tl_feed, jl_nil, List.map_append, List.map_singleton, tl_none, jl_feed, List.map_map, List.map_map]
    congr 1
    refine List.map_congr_left fun x _ => ?_
    show tl (x ++ feed) = tl x ++ [10]
    rw [tl_append, tl_feed]
  exact ext_tl e
theorem textT_inj {r1 r2 : List Str} (h1 : ∀ r ∈ r1, 10 ∉ tl r) (h2 : ∀ r ∈ r2, 10 ∉ tl r) (e : textT r1 = textT r2) : r1 = r2 := by
  rw [textT_join, textT_join] at e
  have k : ∀ {r : List Str}, (∀ x ∈ r, 10 ∉ tl x) → Txt.split (Txt.join feed (r ++ [none'])) feed = r ++ [none'] := fun {r} h => split_join (s := 10) (S := []) tl_feed (by decide +kernel) (by simp) fun p hp => by
    rcases List.mem_append.mp hp with hp | hp
    · exact h p hp
    · rw [List.mem_singleton.mp hp, tl_none]; simp
  have := congrArg (fun z => Txt.split z feed) e
  simp only [k h1, k h2] at this
  exact List.append_cancel_right this
theorem rowT_inj {w1 w2 : List Str} (n1 : w1 ≠ []) (n2 : w2 ≠ []) (h1 : ∀ r ∈ w1, 32 ∉ tl r) (h2 : ∀ r ∈ w2, 32 ∉ tl r) (e : rowT w1 = rowT w2) : w1 = w2 := by
  have k : ∀ {r : List Str}, r ≠ [] → (∀ x ∈ r, 32 ∉ tl x) → Txt.split (rowT r) blank = r := fun {r} n h => split_join (s := 32) (S := []) tl_blank (by decide +kernel) n h
  have := congrArg (fun z => Txt.split z blank) e
  simpa only [k n1 h1, k n2 h2] using this
theorem row_no10 {ws : List Str} (h : ∀ r ∈ ws, 10 ∉ tl r) : 10 ∉ tl (rowT ws) := by
  have k : ∀ ps : List (List Nat), (∀ p ∈ ps, 10 ∉ p) → 10 ∉ joinL [32] ps := fun ps => by
    induction ps with
    | nil => intro _; simp [joinL]
    | cons p ps ih =>
      intro hp
      have ih := ih fun q hq => hp q (List.mem_cons_of_mem _ hq)
      have hp0 := hp p List.mem_cons_self
      cases ps with
      | nil => simpa [joinL] using hp0
      | cons q r =>
        rw [joinL]
        simp only [List.mem_append, List.mem_singleton]
        rintro (z | z | z)
        · exact hp0 z
        · cases z
        · exact ih z
  rw [rowT, join_eq, tl_join, tl_blank]
  refine k _ fun p hp => ?_
  obtain ⟨z, hz, rfl⟩ := List.mem_map.mp hp
  exact h z hz
/-- rows of words are told by their text -/
theorem rows_inj {R1 R2 : List (List Str)} (h1 : ∀ ws ∈ R1, ws ≠ [] ∧ ∀ r ∈ ws, 10 ∉ tl r ∧ 32 ∉ tl r) (h2 : ∀ ws ∈ R2, ws ≠ [] ∧ ∀ r ∈ ws, 10 ∉ tl r ∧ 32 ∉ tl r) (e : textT (R1.map rowT) = textT (R2.map rowT)) : R1 = R2 := by
  have no : ∀ {R : List (List Str)}, (∀ ws ∈ R, ws ≠ [] ∧ ∀ r ∈ ws, 10 ∉ tl r ∧ 32 ∉ tl r) → ∀ r ∈ R.map rowT, 10 ∉ tl r := fun {R} h r hr => by
    obtain ⟨ws, hw, rfl⟩ := List.mem_map.mp hr
    exact row_no10 fun x hx => ((h ws hw).2 x hx).1
  have e2 := textT_inj (no h1) (no h2) e
  clear e
  induction R1 generalizing R2 with
  | nil => cases R2 with
    | nil => rfl
    | cons => cases e2
  | cons a R1 ih => cases R2 with
    | nil => cases e2
    | cons b R2 =>
      have ea := (List.cons.inj e2).1
      have er := (List.cons.inj e2).2
      obtain ⟨na, ca⟩ := h1 a List.mem_cons_self
      obtain ⟨nb, cb⟩ := h2 b List.mem_cons_self
      rw [rowT_inj na nb (fun x hx => (ca x hx).2) (fun x hx => (cb x hx).2) ea, ih (fun w hw => h1 w (List.mem_cons_of_mem _ hw)) (fun w hw => h2 w (List.mem_cons_of_mem _ hw)) er]
theorem row2 (a b : Str) : rowT [a, b] = a ++ blank ++ b := by rw [rowT, join_eq]; rfl
theorem row3 (a b c : Str) : rowT [a, b, c] = a ++ blank ++ (b ++ blank ++ c) := by rw [rowT, join_eq]; rfl
theorem len_app (a b : Str) : (a ++ b).length = a.length + b.length := by
  show (a.cps ++ b.cps).size = _
  rw [Array.size_append]; rfl
theorem app_assoc (a b c : Str) : a ++ b ++ c = a ++ (b ++ c) := by
  show (⟨a.cps ++ b.cps ++ c.cps⟩ : Str) = ⟨a.cps ++ (b.cps ++ c.cps)⟩
  rw [Array.append_assoc]
theorem row_len : ∀ {ws : List Str} {n : Nat}, (∀ r ∈ ws, r.length ≤ n) → (rowT ws).length ≤ ws.length * (n + 1)
  | [], n, _ => by rw [rowT, join_eq]; exact Nat.zero_le _
  | [a], n, h => by
    have := h a List.mem_cons_self
    rw [rowT, join_eq]
    show a.length ≤ _
    simp; omega
  | a :: b :: r, n, h => by
    have ih := row_len (ws := b :: r) fun x hx => h x (List.mem_cons_of_mem _ hx)
    have := h a List.mem_cons_self
    rw [rowT, join_eq] at ih ⊢
    show (a ++ blank ++ Str.join blank (b :: r)).length ≤ _
    rw [len_app, len_app]
    have e1 : blank.length = 1 := rfl
    have : (a :: b :: r).length * (n + 1) = (n + 1) + (b :: r).length * (n + 1) := by rw [List.length_cons, Nat.add_mul]; omega
    omega
theorem text_len {rows : List Str} {n : Nat} (h : ∀ r ∈ rows, r.length ≤ n) : (textT rows).length ≤ rows.length * (n + 1) := by
  rw [textT, join_eq]
  induction rows with
  | nil => exact Nat.zero_le _
  | cons a r ih =>
    have ih := ih fun x hx => h x (List.mem_cons_of_mem _ hx)
    have h0 := h a List.mem_cons_self
    have e1 : feed.length = 1 := rfl
    cases r with
    | nil =>
      show (a ++ feed).length ≤ _
      rw [len_app]; simp; omega
    | cons b r =>
      show ((a ++ feed) ++ none' ++ Str.join none' ((b :: r).map (· ++ feed))).length ≤ _
      rw [len_app, len_app, len_app]
      have e2 : none'.length = 0 := rfl
      have : (a :: b :: r).length * (n + 1) = (n + 1) + (b :: r).length * (n + 1) := by rw [List.length_cons, Nat.add_mul]; omega
      omega
theorem sum_le_mul {n : Nat} : ∀ {l : List Nat}, (∀ x ∈ l, x ≤ n) → l.sum ≤ l.length * n
  | [], _ => Nat.zero_le _
  | a :: l, h => by
    have := sum_le_mul (l := l) fun x hx => h x (List.mem_cons_of_mem _ hx)
    have := h a List.mem_cons_self
    rw [List.sum_cons, List.length_cons, Nat.add_mul]; omega
end EV.TT
end

section
set_option maxHeartbeats 2000000
/-! ### the text of a group -/
namespace EV
open PySem PySem.Spec PyProof.Rows L2 TT TL
abbrev wHold : Str := "hold"
abbrev wPage : Str := "page"
abbrev wBar : Str := "bar"
def rowsH (M : Hld) : List (List Str) := M.map fun t => wHold :: t.1 :: t.2.2
def rowsP (W : Lvs) : List (List Str) := (W.filter fun q => decide (1 < q.2)).map fun q => [wPage, q.1, (toString q.2 : Str)]
def rowsB (cs : Bars) : List (List Str) := cs.map fun t => [wBar, t.2.1, t.2.2]
def gRows (M : Hld) (W : Lvs) (cs : Bars) : List (List Str) := rowsH M ++ rowsP W ++ rowsB cs
def gText (M : Hld) (W : Lvs) (cs : Bars) : Str := textT ((gRows M W cs).map rowT)
theorem Nm.tl {x : Str} (h : Nm x) : 10 ∉ tl x ∧ 32 ∉ tl x := ⟨fun m => by have := h.2.2 10 m; omega, fun m => by have := h.2.2 32 m; omega⟩
theorem fig_ok {n : Int} (h1 : 1 ≤ n) (h9 : n ≤ 9) : (10 ∉ tl (toString n : Str) ∧ 32 ∉ tl (toString n : Str)) ∧ (toString n : Str).length = 1 := by
  obtain ⟨m, rfl⟩ := Int.eq_ofNat_of_zero_le (show 0 ≤ n by omega)
  have all : ∀ m, m < 10 → 1 ≤ m → (10 ∉ tl (toString ((m : Nat) : Int) : Str) ∧ 32 ∉ tl (toString ((m : Nat) : Int) : Str)) ∧ (toString ((m : Nat) : Int) : Str).length = 1 := by decide +kernel
  exact all m (by omega) (by omega)
theorem fig_inj {n m : Int} (h1 : 1 ≤ n) (h9 : n ≤ 9) (g1 : 1 ≤ m) (g9 : m ≤ 9) (e : (toString n : Str) = (toString m : Str)) : n = m := by
  obtain ⟨a, rfl⟩ := Int.eq_ofNat_of_zero_le (show 0 ≤ n by omega)
  obtain ⟨b, rfl⟩ := Int.eq_ofNat_of_zero_le (show 0 ≤ m by omega)
  have all : ∀ a, a < 10 → ∀ b, b < 10 → (toString ((a : Nat) : Int) : Str) = (toString ((b : Nat) : Int) : Str) → a = b := by decide +kernel
  rw [all a (by omega) b (by omega) e]
section
variable {M M2 : Hld} {W W2 : Lvs} {cs cs2 : Bars}
theorem GD.clean (G : GD M W cs) : ∀ ws ∈ gRows M W cs, ws ≠ [] ∧ ∀ r ∈ ws, 10 ∉ tl r ∧ 32 ∉ tl r := fun ws h => by
  have c : ∀ {z : Str}, (10 ∉ tl z ∧ 32 ∉ tl z) → ∀ {r : Str}, r = z → 10 ∉ tl r ∧ 32 ∉ tl r := fun a _ e => by rw [e]; exact a
  have nmN : ∀ x ∈ M.map (·.1), Nm x := fun x hx => by
    obtain ⟨t, ht, rfl⟩ := List.mem_map.mp hx
    exact G.d.nm t ht
  rcases List.mem_append.mp h with h | h
  · rcases List.mem_append.mp h with h | h
    · obtain ⟨t, ht, rfl⟩ := List.mem_map.mp h
      refine ⟨by simp, fun r hr => ?_⟩
      rcases List.mem_cons.mp hr with e | hr
      · exact c (by decide +kernel) e
      · rcases List.mem_cons.mp hr with e | hr
        · exact c (G.d.nm t ht).tl e
        · exact (G.d.wNm ((G.d.ok ht).2 r hr)).tl
    · obtain ⟨q, hq, rfl⟩ := List.mem_map.mp h
      have hq := (List.mem_filter.mp hq).1
      have w19 := G.d.w19 hq
      refine ⟨by simp, fun r hr => ?_⟩
      simp only [List.mem_cons, List.not_mem_nil, or_false] at hr
      rcases hr with e | e | e
      · exact c (by decide +kernel) e
      · exact c (G.d.wNm (List.mem_map_of_mem hq)).tl e
      · exact c (fig_ok w19.1 w19.2).1 e
  · obtain ⟨t, ht, rfl⟩ := List.mem_map.mp h
    obtain ⟨a, b, _⟩ := G.d.bk t ht
    refine ⟨by simp, fun r hr => ?_⟩
    simp only [List.mem_cons, List.not_mem_nil, or_false] at hr
    rcases hr with e | e | e
    · exact c (by decide +kernel) e
    · exact c (nmN _ a).tl e
    · exact c (nmN _ b).tl e
theorem hd_filter {A B C : List (List Str)} (hA : ∀ w ∈ A, w.head? = some wHold) (hB : ∀ w ∈ B, w.head? = some wPage) (hC : ∀ w ∈ C, w.head? = some wBar) :
    (A ++ B ++ C).filter (fun w => decide (w.head? = some wHold)) = A ∧ (A ++ B ++ C).filter (fun w => decide (w.head? = some wPage)) = B ∧ (A ++ B ++ C).filter (fun w => decide (w.head? = some wBar)) = C := by
  have n1 : wHold ≠ wPage := by decide +kernel
  have n2 : wHold ≠ wBar := by decide +kernel
  have n3 : wPage ≠ wBar := by decide +kernel
  have yes : ∀ {l : List (List Str)} {a : Str}, (∀ w ∈ l, w.head? = some a) → l.filter (fun w => decide (w.head? = some a)) = l := fun h => List.filter_eq_self.mpr fun w hw => decide_eq_true (h w hw)
  have no : ∀ {l : List (List Str)} {a b : Str}, a ≠ b → (∀ w ∈ l, w.head? = some a) → l.filter (fun w => decide (w.head? = some b)) = [] := fun n h => List.filter_eq_nil_iff.mpr fun w hw z => n (Option.some.inj ((h w hw).symm.trans (of_decide_eq_true z)))
  refine ⟨?_, ?_, ?_⟩
  · rw [List.filter_append, List.filter_append, yes hA, no n1.symm hB, no n2.symm hC]; simp
  · rw [List.filter_append, List.filter_append, no n1 hA, yes hB, no n3.symm hC]; simp
  · rw [List.filter_append, List.filter_append, no n2 hA, no n3 hB, yes hC]; simp
theorem rows_heads (M : Hld) (W : Lvs) (cs : Bars) : (∀ w ∈ rowsH M, w.head? = some wHold) ∧ (∀ w ∈ rowsP W, w.head? = some wPage) ∧ ∀ w ∈ rowsB cs, w.head? = some wBar := by
  refine ⟨fun w h => ?_, fun w h => ?_, fun w h => ?_⟩ <;> obtain ⟨t, _, rfl⟩ := List.mem_map.mp h <;> rfl
/-- one text, one group -/
theorem gText_inj (G : GD M W cs) (G2 : GD M2 W2 cs2) (e : gText M W cs = gText M2 W2 cs2) : vw M = vw M2 ∧ (∀ u, u ∈ W.map (·.1) → u ∈ W2.map (·.1) → lfn W u = lfn W2 u) ∧ cs.map (·.2) = cs2.map (·.2) := by
  have er := rows_inj G.clean G2.clean e
  obtain ⟨h1, h2, h3⟩ := rows_heads M W cs
  obtain ⟨g1, g2, g3⟩ := rows_heads M2 W2 cs2
  obtain ⟨a1, a2, a3⟩ := hd_filter h1 h2 h3
  obtain ⟨b1, b2, b3⟩ := hd_filter g1 g2 g3
  have er' : rowsH M ++ rowsP W ++ rowsB cs = rowsH M2 ++ rowsP W2 ++ rowsB cs2 := er
  rw [er'] at a1 a2 a3
  have eH := a1.symm.trans b1
  have eP := a2.symm.trans b2
  have eB := a3.symm.trans b3
  refine ⟨?_, fun u hu hu2 => ?_, ?_⟩
  · have k : ∀ N : Hld, vw N = (rowsH N).map fun w => (w.tail.headD wHold, w.tail.tail) := fun N => by rw [rowsH, List.map_map]; rfl
    rw [k, k, eH]
  · have put : ∀ {V : Lvs} {N : Hld} {ds : Bars}, GD N V ds → ∀ {u}, u ∈ V.map (·.1) → 1 < lfn V u → [wPage, u, (toString (lfn V u) : Str)] ∈ rowsP V := fun {V N ds} g {u} hu lt => by
      obtain ⟨q, hq, rfl⟩ := List.mem_map.mp hu
      have e := lfn_mem g.d.wn hq
      refine List.mem_map.mpr ⟨q, List.mem_filter.mpr ⟨hq, decide_eq_true (by rw [← e]; exact lt)⟩, by rw [e]⟩
    have get : ∀ {V : Lvs} {N : Hld} {ds : Bars}, GD N V ds → ∀ {u : Str} {z : Str}, [wPage, u, z] ∈ rowsP V → z = (toString (lfn V u) : Str) ∧ 1 < lfn V u := fun {V N ds} g {u z} h => by
      obtain ⟨q, hq, e⟩ := List.mem_map.mp h
      have e1 : q.1 = u := (List.cons.inj (List.cons.inj e).2).1
      have e2 : (toString q.2 : Str) = z := (List.cons.inj (List.cons.inj (List.cons.inj e).2).2).1
      obtain ⟨m, lt⟩ := List.mem_filter.mp hq
      have el := lfn_mem g.d.wn m
      rw [← e1, el]
      exact ⟨e2.symm, of_decide_eq_true lt⟩
    have l1 := G.d.lf1 hu
    have l2 := G2.d.lf1 hu2
    have k9 : ∀ {V : Lvs} {N : Hld} {ds : Bars}, GD N V ds → ∀ {u}, u ∈ V.map (·.1) → lfn V u ≤ 9 := fun {V N ds} g {u} hu => by
      obtain ⟨q, hq, rfl⟩ := List.mem_map.mp hu
      rw [lfn_mem g.d.wn hq]; exact (g.d.w19 hq).2
    by_cases lt : 1 < lfn W u
    · have m := put G hu lt
      rw [eP] at m
      exact fig_inj l1 (k9 G hu) l2 (k9 G2 hu2) (get G2 m).1
    · by_cases lt2 : 1 < lfn W2 u
      · have m := put G2 hu2 lt2
        rw [← eP] at m
        exact absurd (get G m).2 lt
      · omega
  · have k : ∀ ds : Bars, ds.map (·.2) = (rowsB ds).map fun w => (w.tail.headD wHold, w.tail.tail.headD wHold) := fun ds => by rw [rowsB, List.map_map]; rfl
    rw [k, k, eB]
end
/-- two worlds whose groups are unlike -/
def DiffW (L : Hld) (W : Lvs) (bs : Bars) (L2 : Hld) (W2 : Lvs) (bs2 : Bars) : Prop :=
  (∃ x, x ∈ L.map (·.1) ∧ x ∉ L2.map (·.1)) ∨ (∃ x, x ∈ L.map (·.1) ∧ x ∈ L2.map (·.1) ∧ ∃ u, u ∉ hLf L x ∧ u ∈ hLf L2 x) ∨ (∃ u, u ∈ W.map (·.1) ∧ u ∈ W2.map (·.1) ∧ lfn W u ≠ lfn W2 u) ∨ ∃ q, ¬ (q ∈ bs.map (·.2) ↔ q ∈ bs2.map (·.2))
theorem diff_text {L L2 M M2 : Hld} {W W2 V V2 : Lvs} {bs bs2 cs cs2 : Bars} (D : WD L W bs) (D2 : WD L2 W2 bs2) (G : GD M V cs) (c : Cor L W bs M V cs) (G2 : GD M2 V2 cs2) (c2 : Cor L2 W2 bs2 M2 V2 cs2) (df : DiffW L W bs L2 W2 bs2) : gText M2 V2 cs2 ≠ gText M V cs := fun e => by
  obtain ⟨ev, el, eb⟩ := gText_inj G G2 e.symm
  have en : M.map (·.1) = M2.map (·.1) := by rw [← vw_keys, ← vw_keys, ev]
  rcases df with ⟨x, hx, no⟩ | ⟨x, hx, hx2, u, nu, hu⟩ | ⟨u, hu, hu2, ne⟩ | ⟨q, nq⟩
  · exact no (c2.names.mem_iff.mp (by rw [← en]; exact c.names.mem_iff.mpr hx))
  · have m := (c2.at G2 hx2).2.mem_iff.mpr hu
    rw [← hLf_vw ev] at m
    exact nu ((c.at G hx).2.mem_iff.mp m)
  · have m := (c.mem D G u).mpr hu
    have m2 := (c2.mem D2 G2 u).mpr hu2
    have := el u m m2
    rw [c.lvs u m, c2.lvs u m2] at this
    exact ne this
  · exact nq ((c.bars q).symm.trans (by rw [eb]; exact c2.bars q))
/-- rows of a group's text: how many, how long -/
theorem GD.few {M : Hld} {W : Lvs} {cs : Bars} (G : GD M W cs) : (gRows M W cs).length ≤ 60 ∧ ∀ ws ∈ gRows M W cs, ws.length ≤ 14 ∧ ∀ r ∈ ws, r.length ≤ 6 := by
  have n6 := G.d.n6
  have w12 := G.d.wl
  have b36 := G.d.b36
  have nl : ∀ {x : Str}, Nm x → x.length ≤ 6 := fun {x} h => by
    have := h.2.1
    rw [Array.length_toList] at this
    exact this
  have nmN : ∀ x ∈ M.map (·.1), Nm x := fun x hx => by
    obtain ⟨t, ht, rfl⟩ := List.mem_map.mp hx
    exact G.d.nm t ht
  refine ⟨?_, fun ws h => ?_⟩
  · unfold gRows rowsH rowsP rowsB
    have := List.length_filter_le (fun q : Str × Int => decide (1 < q.2)) W
    simp only [List.length_append, List.length_map]
    omega
  · rcases List.mem_append.mp h with h | h
    · rcases List.mem_append.mp h with h | h
      · obtain ⟨t, ht, rfl⟩ := List.mem_map.mp h
        have pl := G.d.pl ht
        refine ⟨by simp only [List.length_cons]; omega, fun r hr => ?_⟩
        rcases List.mem_cons.mp hr with rfl | hr
        · decide
        · rcases List.mem_cons.mp hr with rfl | hr
          · exact nl (G.d.nm t ht)
          · exact nl (G.d.wNm ((G.d.ok ht).2 r hr))
      · obtain ⟨q, hq, rfl⟩ := List.mem_map.mp h
        have hq := (List.mem_filter.mp hq).1
        have w19 := G.d.w19 hq
        refine ⟨by simp, fun r hr => ?_⟩
        simp only [List.mem_cons, List.not_mem_nil, or_false] at hr
        rcases hr with rfl | rfl | rfl
        · decide
        · exact nl (G.d.wNm (List.mem_map_of_mem hq))
        · rw [(fig_ok w19.1 w19.2).2]; decide
    · obtain ⟨t, ht, rfl⟩ := List.mem_map.mp h
      obtain ⟨a, b, _⟩ := G.d.bk t ht
      refine ⟨by simp, fun r hr => ?_⟩
      simp only [List.mem_cons, List.not_mem_nil, or_false] at hr
      rcases hr with rfl | rfl | rfl
      · decide
      · exact nl (nmN _ a)
      · exact nl (nmN _ b)
end EV
end

section
set_option maxHeartbeats 2000000
/-! ### a star in a list, extend, index, repr of a text, calls without arguments -/
namespace EV
open PySem PySem.Spec PyProof.Rows L2
section
variable {X : Cx} {K : PySem.W.Frag} {e o : Expr} {es : List Expr} {te to : TE} {t : TA} {p pos apos cpos : Pos}
theorem k_star (K : PySem.W.Frag) (he : PE X e te) (hr : PA X es t) (hs : starEach (.Starred e p :: es) X.env = (true, eval e X.env) :: starEach es X.env := by rfl) (hK : X.K = K := by rfl) : PA X (.Starred e p :: es) (StX.tStar K te t) := by
  subst hK; exact StX.pa_star he hr hs
theorem k_extend (K : PySem.W.Frag) (ho : PE X o to) (ha : PA X (e :: es) t) (hK : X.K = K := by rfl)
    (hb : attributeBase o "extend" X.env (eval o X.env) = eval o X.env := by rfl)
    (hf : ((backTo cpos (starEach (e :: es) X.env)).all (fun x => !x.1) && (backToKw cpos (keywordEach [] X.env)).all (fun x => x.1.isSome)
      && decide ((e :: es).length + ([] : List Keyword).length + (if ([] : List Keyword).isEmpty then 0 else 1) < 30)) = true := by rfl)
    (hl : (apos.endLine == cpos.line) = true := by rfl) (hs : starEach (e :: es) X.env = (false, eval e X.env) :: starEach es X.env := by rfl) (hp : (backTo cpos (starEach es X.env)).any (·.1) = false := by rfl) :
    PE X (.Call (.Attribute o "extend" apos) (e :: es) [] cpos) (tBM K "list" rExtend to t) := by
  subst hK; exact pe_bm PySem.F.plainAttrs_list PySem.F.slot_list_extend PySem.F.type_list_extend mt_extend ho ha hb hf hl hs hp
theorem k_index (K : PySem.W.Frag) (ho : PE X o to) (ha : PA X (e :: es) t) (hK : X.K = K := by rfl)
    (hb : attributeBase o "index" X.env (eval o X.env) = eval o X.env := by rfl)
    (hf : ((backTo cpos (starEach (e :: es) X.env)).all (fun x => !x.1) && (backToKw cpos (keywordEach [] X.env)).all (fun x => x.1.isSome)
      && decide ((e :: es).length + ([] : List Keyword).length + (if ([] : List Keyword).isEmpty then 0 else 1) < 30)) = true := by rfl)
    (hl : (apos.endLine == cpos.line) = true := by rfl) (hs : starEach (e :: es) X.env = (false, eval e X.env) :: starEach es X.env := by rfl) (hp : (backTo cpos (starEach es X.env)).any (·.1) = false := by rfl) :
    PE X (.Call (.Attribute o "index" apos) (e :: es) [] cpos) (tBM K "list" (rIndex K) to t) := by
  subst hK; exact pe_bm PySem.F.plainAttrs_list PySem.F.slot_list_index PySem.F.type_list_index mt_index ho ha hb hf hl hs hp
theorem call_repr_text : CallR X (.builtin "repr") (fun xs H Q => ∃ x : Str, xs = [.str x] ∧ (∀ c ∈ x.cps.toList, c < 16 ^ 8) ∧ x.length ≤ 100000 ∧ Q (.str (reprText x)) H) := by
  rintro pins s σ H xs us Q I r ⟨x, rfl, hx, l, q⟩
  obtain ⟨u, rfl, ru⟩ := vals1 r
  obtain ⟨t, rfl⟩ := ru
  refine PySem.P.repr_of_str ⟨.str _, H, I.tok _, ⟨_, rfl⟩, q⟩ (hsz := ?_)
  have e := PySem.StrLaws.reprText_len x hx
  have e2 : x.length = x.cps.size := rfl
  exact Nat.le_trans (show (reprText x).length ≤ 2000000 by omega) (by decide)
def rJoin (K : PySem.W.Frag) : V → List V → Hp → VK → Prop := fun x xs H Q => ∃ (a : Str) (p : Addr) (ys : List Str), x = .str a ∧ xs = [.ref p] ∧ (SqL K H p (ys.map V.str) ∨ SqT K H p (ys.map V.str)) ∧ (ys.map (·.length)).sum + ys.length * a.length ≤ 16777216 ∧ Q (.str (Txt.join a ys)) H
theorem k_join (K : PySem.W.Frag) (ho : PE X o to) (he : PE X e te) (hK : X.K = K := by rfl) (hs : starEach [e] X.env = [(false, eval e X.env)] := by rfl) (hb : attributeBase o "join" X.env (eval o X.env) = eval o X.env := by rfl) (hl : (apos.endLine == pos.line) = true := by rfl) :
    PE X (.Call (.Attribute o "join" apos) [e] [] pos) (tM1 (rJoin K) to te) := by
  subst hK; exact pe_join ho he hs hb hl
theorem z_join {K : PySem.W.Frag} {H : Hp} {Q : VK} {a : Str} {p : Addr} {ys : List Str} (h : SqL K H p (ys.map V.str)) (l : (ys.map (·.length)).sum + ys.length * a.length ≤ 100000) (q : Q (.str (Txt.join a ys)) H) : rJoin K (.str a) [.ref p] H Q := ⟨a, p, ys, rfl, rfl, .inl h, Nat.le_trans l (by decide), q⟩
theorem pe_c0 {k j : Nat} {x : Str} {sp : Sp} (c : C8.Cal X.prog X.w X.K X.mg X.base k x sp []) (hr : Room j X.A) (hk : k ≤ j) (hg : Gl X x) (hdb : (x == ("__debug__" : Str)) = false := by decide) : PE X (.Call (.Name x p) [] [] pos) (tCall sp [] C8.E0 tNil) := by
  obtain ⟨f, fd, ps, ds, F, hm, kp, b, d⟩ := c.ex
  exact pe_call0 F (hr.mono hk) hg hm kp b d C8.pass0 hdb
end
end EV
end

section
set_option maxHeartbeats 4000000
local macro_rules | `(tactic| walk_at "za") => `(tactic| (first | exact Or.inl ⟨by omega, by omega⟩ | exact Or.inr ⟨by omega, by omega⟩ | exact ⟨by omega, by omega⟩ | exact ⟨by omega, by omega, by omega⟩ | omega))
local macro_rules | `(tactic| walk_at "z") => `(tactic| (first
  | with_reducible refine EV.z_seq ?_ | with_reducible refine EV.z_next ?_ | with_reducible refine EV.z_nx ?_ | with_reducible refine EV.z_rt ?_ | with_reducible refine EV.z_asg ?_ | with_reducible refine EV.z_name ?_
  | with_reducible refine EV.z_drop ?_ | with_reducible refine EV.z_ret ?_ | with_reducible refine EV.z_if ?_
  | ((with_reducible refine EV.z_var (v := ?vv) ?hv ?_); (case hv => exact rfl)) | with_reducible refine EV.z_c ?_ | with_reducible refine EV.z_op ?_ | with_reducible refine EV.z_un ?_ | with_reducible refine EV.z_I0 ?_ | with_reducible refine EV.z_U ?_ | ((with_reducible refine EV.z_I ?hc ?_); (case hc => walk_at "za"))
  | ((with_reducible refine EV.z_eq ?hv ?_); (case hv => exact rfl)) | ((with_reducible refine EV.z_ne ?hv ?_); (case hv => exact rfl))
  | with_reducible refine EV.z_test ?_ | with_reducible refine EV.z_bl ?_ | with_reducible refine EV.z_B ?_ | with_reducible refine EV.z_and ?_ | with_reducible refine EV.z_or ?_ | with_reducible refine EV.z_not ?_ | with_reducible refine EV.z_andV ?_
  | with_reducible refine EV.z_orV ?_ | with_reducible refine EV.z_notV ?_ | with_reducible refine EV.z_ifE ?_ | with_reducible refine EV.z_nil ?_ | with_reducible refine EV.z_cons ?_ | with_reducible refine EV.z_tup ?_ | with_reducible refine EV.z_lst ?_
  | with_reducible refine EV.z_cb ?_ | with_reducible refine EV.z_call ?_ | with_reducible refine EV.z_dget ?_ | with_reducible refine EV.z_dput ?_ | with_reducible refine EV.z_chain ?_ | with_reducible refine EV.z_then ?_ | with_reducible refine EV.z_fld ?_ | with_reducible refine EV.z_bm ?_
  | with_reducible refine EV.z_par ?_ | with_reducible refine EV.z_par3 ?_ | with_reducible refine EV.z_ex2 ?_ | with_reducible refine EV.z_ex3 ?_ | with_reducible refine EV.z_tyes ?_ | ((with_reducible refine EV.z_wipe ?hv ?_); (case hv => exact rfl))
  | with_reducible refine EV.z_lc ?_ | with_reducible refine EV.z_ltS ?_ | with_reducible refine EV.z_disp ?_ | with_reducible refine EV.z_pc ?_ | with_reducible refine EV.z_pn ?_ | with_reducible refine EV.z_m1 ?_ | with_reducible refine EV.z_isS ?_ | with_reducible refine EV.z_sl ?_ | with_reducible refine EV.z_np ?_ | with_reducible refine EV.z_pt ?_ | with_reducible refine EV.z_exI ?_ | with_reducible refine EV.z_is ?_ | with_reducible refine EV.z_istr ?_ | with_reducible refine EV.z_no ?_ | with_reducible refine EV.z_yes ?_ | with_reducible refine EV.z_for ?_ | with_reducible refine EV.z_il ?_ | with_reducible refine EV.z_it ?_ | with_reducible refine EV.z_r1 ?_ | with_reducible refine EV.z_ik ?_ | with_reducible refine EV.z_din ?_ | with_reducible refine EV.z_dnin ?_ | with_reducible refine EV.z_dsd ?_ | with_reducible refine EV.z_gs ?_ | with_reducible refine EV.z_gc ?_ | with_reducible refine EV.z_gn ?_ | with_reducible refine EV.z_turn ?_))
local macro_rules | `(tactic| walk_at "zz") => `(tactic| repeat walk_at "z")
local macro_rules | `(tactic| walk_at "z") => `(tactic| (first | with_reducible refine EV.z_mt ?_ | with_reducible refine EV.z_cS ?_ | with_reducible refine EV.z_mkO ?_ | with_reducible refine EV.z_mkK ?_))
/-! ### the text told -/
namespace EV
open PySem PySem.Spec PyProof.Rows L2 TT
theorem Nx.back {M : Addr → Prop} {F H F' H' : Hp} (n : Nx M F H F' H') : Nx M F H F H' := ⟨fun x o e => n.sub _ _ (n.mono x o e), fun _ _ e => e, fun _ _ e => e, n.keep, n.alive⟩
abbrev WR := List (Addr × List Str)
def WRows (F : Hp) (ps : WR) : Prop := ∀ t ∈ ps, F t.1 = some (.lst (t.2.map V.str))
theorem WRows.sub {F F' : Hp} {ps : WR} (h : WRows F ps) (s : Sub F F') : WRows F' ps := fun t ht => s _ _ (h t ht)
theorem WRows.app {F : Hp} {ps qs : WR} (h : WRows F ps) (g : WRows F qs) : WRows F (ps ++ qs) := fun t ht => (List.mem_append.mp ht).elim (h t) (g t)
theorem WRows.one {F : Hp} {a : Addr} {ws : List Str} (h : F a = some (.lst (ws.map V.str))) : WRows F [(a, ws)] := fun t ht => by rw [List.mem_singleton.mp ht]; exact h
theorem z_star {K : PySem.W.Frag} {te : TE} {t : TA} {σ : L2.St} {H : Hp} {Q : List V → Hp → Prop} (q : te σ H fun x H1 => ∃ p xs, x = V.ref p ∧ (SqT K H1 p xs ∨ SqL K H1 p xs) ∧ t σ H1 fun ys H2 => Q (xs ++ ys) H2) : StX.tStar K te t σ H Q := q
theorem z_ext {l b : Addr} {H : Hp} {xs zs : List V} {Q : VK} (h1 : H l = some (.lst xs)) (h2 : H b = some (.lst zs)) (hz : xs.length + zs.length ≤ 100000) (q : Q .non (upd H l (.lst (xs ++ zs)))) : rExtend (.ref l) [.ref b] H Q := ⟨l, b, xs, zs, rfl, rfl, h1, h2, sz hz, q⟩
theorem strI_ok {n : Int} (h1 : 1 ≤ n) (h9 : n ≤ 9) : n.natAbs.log2 < 1920 := by
  obtain ⟨m, rfl⟩ := Int.eq_ofNat_of_zero_le (show 0 ≤ n by omega)
  have all : ∀ m, m < 10 → ((m : Nat) : Int).natAbs.log2 < 1920 := by decide +kernel
  exact all m (by omega)
def spGText (C : Addr) : Sp := fun vs H Q _ => ∃ (F : Hp) (g : Addr) (M : Hld) (W : Lvs) (cs : Bars), vs = [.ref g] ∧ Sub F H ∧ Gr F C g M W cs ∧ ∀ H', Nx No F H F H' → Q (.str (gText M W cs)) H'
theorem rowsP_step {W : Lvs} {i : Nat} {q : Str × Int} (h : W[i]? = some q) : rowsP (W.take (i + 1)) = rowsP (W.take i) ++ (if 1 < q.2 then [[wPage, q.1, (toString q.2 : Str)]] else []) := by
  unfold rowsP
  rw [take_step h, List.filter_append, List.map_append]
  by_cases e : 1 < q.2 <;> simp [e]
theorem lv_get {W : Lvs} {i : Nat} {n : Str} (h : (W.map (·.1))[i]? = some n) : ∃ q, W[i]? = some q ∧ q.1 = n := by
  rw [List.getElem?_map] at h
  cases e : W[i]? with
  | none => rw [e] at h; cases h
  | some q => rw [e] at h; exact ⟨q, rfl, Option.some.inj h⟩
abbrev s_group_text : Stmt := top 25
abbrev N_group_text : List Str := ["group", "person", "rows", "page", "pair", "row"]
abbrev P_group_text : List Str := ["group"]
theorem sc_group_text : FnScope N_group_text P_group_text (defScope s_group_text) := ⟨rfl, rfl, rfl, by decide +kernel, rfl, by decide +kernel, by decide +kernel⟩
section
variable {P : Program} {w : World} {K : PySem.W.Frag} {mg : Str → Option Value} {base : Heap} {C : Addr}
theorem ok_group_text (T : Txt mg) (m_people : C8.Met P w K mg base 1 C "people" (spPeople C) []) (m_pages : C8.Met P w K mg base 1 C "pages" (spPages C) []) (m_held : C8.Met P w K mg base 1 C "held" (spGHeld C) []) (m_leaves : C8.Met P w K mg base 1 C "leaves" (spGLeaves C) [])
    (m_barred : C8.Met P w K mg base 1 C "barred" (spGBarred C) []) {f fd} (D : C8.Def K mg "group_text" s_group_text f fd) : FnOk P w K mg base C8.CX0 2 f fd P_group_text (spGText C) := by
  refine C8.fn0 D.fn sc_group_text (fun vs H Q E h => ?_) (fun cdv A outer s H vs Q E hr h => ?_)
  · obtain ⟨F, g, M, W, cs, rfl, _⟩ := h
    rfl
  · obtain ⟨F, g, M, W, cs, rfl, sF, gr, k⟩ := h
    obtain ⟨⟨hd, lv, br, gp⟩, G⟩ := id gr
    obtain ⟨dx, hgx⟩ := gp.hx
    have hu := hu_of hr
    have n6 := G.d.n6
    have w12 := G.d.wl
    have b36 := G.d.b36
    refine ⟨_, (pss_cons (ps_setLc (i := 2) (own := [("person", 1)]) rfl sc_group_text.nd rfl rfl (sw_true rfl rfl rfl (by decide +kernel)) (k_pil K (C8.pe_mt0 m_people hr (by decide) (pv 0))) (blkOk_by (N := N_group_text) (sc := defScope s_group_text) (by decide +kernel)) (fun _ _ _ _ _ => (pg_name (i := 1) sc_group_text.nd rfl (Or.inl rfl))) (fun _ _ _ _ _ => pts_nil) (fun _ _ _ _ _ => (pe_lst (pa_cons pe_str (pa_cons (pv 1) (k_star K (C8.pe_mt m_held hr (by decide) (pv 0) (pa_cons (pv 1) pa_nil)) pa_nil))))))
  (pss_cons (ps_expr (k_extend K (pv 2) (pa_cons (pe_lc (own := [("page", 3)]) rfl sc_group_text.nd (k_pil K (C8.pe_mt0 m_pages hr (by decide) (pv 0))) (blkOk_by (N := N_group_text) (sc := defScope s_group_text) (by decide +kernel)) (fun _ _ _ _ _ => (pg_name (i := 3) sc_group_text.nd rfl (Or.inl rfl))) (fun _ _ _ _ _ => (pts_one (pt_cmpR op_gt (C8.pe_mt m_leaves hr (by decide) (pv 0) (pa_cons (pv 3) pa_nil)) pe_int (nomark _)))) (fun _ _ _ _ _ => (pe_lst (pa_cons pe_str (pa_cons (pv 3) (pa_cons (pe_callTy call_str_int rfl T.b_str (by decide +kernel) (pa_cons (C8.pe_mt m_leaves hr (by decide) (pv 0) (pa_cons (pv 3) pa_nil)) pa_nil)) pa_nil)))))) pa_nil)))
  (pss_cons (ps_expr (k_extend K (pv 2) (pa_cons (pe_lc (own := [("pair", 4)]) rfl sc_group_text.nd (k_pil K (C8.pe_mt0 m_barred hr (by decide) (pv 0))) (blkOk_by (N := N_group_text) (sc := defScope s_group_text) (by decide +kernel)) (fun _ _ _ _ _ => (pg_name (i := 4) sc_group_text.nd rfl (Or.inl rfl))) (fun _ _ _ _ _ => pts_nil) (fun _ _ _ _ _ => (pe_lst (pa_cons pe_str (k_star K (pv 4) pa_nil))))) pa_nil)))
  (pss_one (ps_ret (k_join K pe_str (pe_lc (own := [("row", 5)]) rfl sc_group_text.nd (k_pil K (pv 2)) (blkOk_by (N := N_group_text) (sc := defScope s_group_text) (by decide +kernel)) (fun _ _ _ _ _ => (pg_name (i := 5) sc_group_text.nd rfl (Or.inl rfl))) (fun _ _ _ _ _ => pts_nil) (fun _ _ _ _ _ => (pe_op k_addS (k_join K pe_str (pv 5)) pe_str))))))))), ?_⟩
    walk_at "zz"
    refine ⟨g, dx, _, rfl, sF _ _ hgx, rfl, ?_⟩
    walk_at "zz"
    refine ⟨F, g, M, W, cs, rfl, sF, gr, fun l F2 H2 N2 hl => ?_⟩
    have gr2 := gr.sub N2.mono
    have hgx2 := N2.mono _ _ hgx
    walk_at "zz"
    refine ⟨l, rfl, ⟨_, N2.sub.sql hl⟩, fun D hD => ?_⟩
    have fD := N2.sub.none hD
    have hD0 := N2.old hD
    refine lc_it (walk_list (xs := (M.map (·.1)).map V.str)) (fun i H' => ∃ (F' : Hp) (ps : WR), Nx No F H F' H' ∧ Sub F2 F' ∧ F' D = none ∧ H' D = some (.lst (ps.map fun t => V.ref t.1)) ∧ WRows F' ps ∧ ps.map (·.2) = rowsH (M.take i))
      ⟨F2, [], N2.trans (Nx.mak N2.sub hD), fun _ _ e => e, fD, upd_same, fun t ht => (by cases ht), rfl⟩ (fun i H' _ ⟨_, _, N, s, _⟩ => N.sub.sql (s _ _ hl)) ?_ ?_
    · rintro i v H3 H4 hi ⟨F3, ps, N3, s3, fD3, h3, R3, e3⟩ ⟨rfl, hv⟩
      obtain ⟨n, hn, rfl⟩ := at_str hv
      walk_at "zz"
      refine z_star ?_
      walk_at "zz"
      refine ⟨g, dx, _, rfl, N3.sub _ _ (s3 _ _ hgx2), rfl, ?_⟩
      walk_at "zz"
      have nin := List.mem_of_getElem? hn
      refine ⟨F3, g, M, W, cs, n, rfl, N3.sub, gr2.sub s3, nin, fun p H5 N5 hp => ?_⟩
      have N6 := N3.trans N5
      have h5 := N5.keep _ _ h3 fun k => k
      refine ⟨p, _, rfl, .inl (N6.sub.sqt hp), ?_⟩
      walk_at "zz"
      have il : i < M.length := by rw [List.length_map, List.length_map] at hi; exact hi
      have hl12 := G.l12 nin
      refine ⟨sz (by simp only [List.length_cons, List.length_append, List.length_map, List.length_nil]; omega), fun q hq => ?_⟩
      have N7 := N6.trans (Nx.lay (M := No) (o := .lst ((wHold :: n :: hLf M n).map V.str)) N6.sub hq)
      have fq := N6.sub.none hq
      have pl : ps.length = i := by have := congrArg List.length e3; rw [List.length_map, rowsH, List.length_map, List.length_take] at this; omega
      rw [List.append_nil, show (V.str wHold :: V.str n :: (hLf M n).map V.str) = (wHold :: n :: hLf M n).map V.str from rfl]
      have h7 := upd_keep (o := .lst ((wHold :: n :: hLf M n).map V.str)) h5 hq
      have qD : D ≠ q := ne_of_none h5 hq
      have fD7 : (upd F3 q (.lst ((wHold :: n :: hLf M n).map V.str))) D = none := by rw [upd_ne qD]; exact fD3
      have s7 : Sub F3 (upd F3 q (.lst ((wHold :: n :: hLf M n).map V.str))) := fun x o e => upd_keep e fq
      refine ⟨_, h7, szl (by rw [List.length_map]; omega), _, ps ++ [(q, wHold :: n :: hLf M n)], N7.wr (.inl hD0) fD7, fun x o e => s7 _ _ (s3 _ _ e), fD7, by rw [upd_same, List.map_append]; rfl, (R3.sub s7).app (WRows.one upd_same), ?_⟩
      obtain ⟨t, ht, et⟩ : ∃ t, M[i]? = some t ∧ t.1 = n := by
        rw [List.getElem?_map] at hn
        cases e : M[i]? with
        | none => rw [e] at hn; cases hn
        | some t => rw [e] at hn; exact ⟨t, rfl, Option.some.inj hn⟩
      rw [List.map_append, e3, take_step ht, rowsH, rowsH, List.map_append]
      rw [← et, hLf_of G.nd (List.mem_of_getElem? ht)]; rfl
    · rintro H3 ⟨F3, ps, N3, s3, fD3, h3, R3, e3⟩
      rw [List.length_map, List.length_map, List.take_length] at e3
      have gr3 := gr2.sub s3
      have hgx3 := s3 _ _ hgx2
      have pl : ps.length = M.length := by have := congrArg List.length e3; rw [List.length_map, rowsH, List.length_map] at this; exact this
      clear N2 gr2 hgx2 hl hD fD
      walk_at "zz"
      refine ⟨.inl ⟨rfl, _, SqL.of h3⟩, ?_⟩
      walk_at "zz"
      refine ⟨g, dx, _, rfl, N3.sub _ _ hgx3, rfl, ?_⟩
      walk_at "zz"
      refine ⟨F3, g, M, W, cs, rfl, N3.sub, gr3, fun l5 F5 H5 N5 hl5 => ?_⟩
      have N6 := N3.trans N5
      have h5 := N5.keep _ _ h3 fun k => k
      have fD5 := N5.new _ (some_ne h3) fD3
      have gr5 := gr3.sub N5.mono
      have hgx5 := N5.mono _ _ hgx3
      have R5 := R3.sub N5.mono
      refine ⟨l5, rfl, ⟨_, N6.sub.sql hl5⟩, fun E1 hE => ?_⟩
      have fE := N6.sub.none hE
      have hE0 := N6.old hE
      have DE : D ≠ E1 := ne_of_none h5 hE
      refine lc_it (walk_list (xs := (W.map (·.1)).map V.str)) (fun i H' => ∃ (F' : Hp) (qs : WR), Nx No F H F' H' ∧ Sub F5 F' ∧ F' D = none ∧ F' E1 = none ∧ H' D = some (.lst (ps.map fun t => V.ref t.1)) ∧ H' E1 = some (.lst (qs.map fun t => V.ref t.1)) ∧ WRows F' qs ∧ qs.map (·.2) = rowsP (W.take i))
        ⟨F5, [], N6.trans (Nx.mak N6.sub hE), fun _ _ e => e, fD5, fE, upd_keep h5 hE, upd_same, fun t ht => (by cases ht), rfl⟩ (fun i H' _ ⟨_, _, N, s, _⟩ => N.sub.sql (s _ _ hl5)) ?_ ?_
      · rintro i v H6 H7 hi ⟨F6, qs, N6, s6, fD6, fE6, h6, g6, R6, e6⟩ ⟨rfl, hv⟩
        obtain ⟨n, hn, rfl⟩ := at_str hv
        obtain ⟨q, hq, rfl⟩ := lv_get hn
        have qin := List.mem_of_getElem? hn
        have il : i < W.length := (List.getElem?_eq_some_iff.mp hq).1
        have ql : qs.length ≤ 12 := by
          have := congrArg List.length e6
          rw [List.length_map, rowsP, List.length_map] at this
          have f := List.length_filter_le (fun q : Str × Int => decide (1 < q.2)) (W.take i)
          rw [List.length_take] at f
          omega
        have wl : lfn W q.1 = q.2 := lfn_mem G.d.wn (List.mem_of_getElem? hq)
        have w19 := G.d.w19 (List.mem_of_getElem? hq)
        walk_at "zz"
        refine ⟨g, dx, _, rfl, N6.sub _ _ (s6 _ _ hgx5), rfl, ?_⟩
        walk_at "zz"
        refine ⟨F6, g, M, W, cs, q.1, rfl, N6.sub, gr5.sub s6, qin, fun H8 N8 => ?_⟩
        have Z8 := N6.trans N8
        have h8 := N8.keep _ _ h6 fun k => k
        have g8 := N8.keep _ _ g6 fun k => k
        walk_at "zz"
        rw [wl]
        refine z_ite (fun lt => ?_) (fun nlt => ?_)
        · walk_at "zz"
          refine ⟨g, dx, _, rfl, Z8.sub _ _ (s6 _ _ hgx5), rfl, ?_⟩
          walk_at "zz"
          refine ⟨F6, g, M, W, cs, q.1, rfl, Z8.sub, gr5.sub s6, qin, fun H9 N9 => ?_⟩
          have Z9 := Z8.trans N9
          have h9 := N9.keep _ _ h8 fun k => k
          have g9 := N9.keep _ _ g8 fun k => k
          rw [wl]
          walk_at "zz"
          refine ⟨q.2, rfl, strI_ok w19.1 w19.2, ?_⟩
          walk_at "zz"
          refine ⟨sz (by show 3 ≤ 100000; decide), fun r hr' => ?_⟩
          have fr := Z9.sub.none hr'
          have N10 := Z9.trans (Nx.lay (M := No) (o := .lst (([wPage, q.1, (toString q.2 : Str)]).map V.str)) Z9.sub hr')
          have s10 : Sub F6 (upd F6 r (.lst (([wPage, q.1, (toString q.2 : Str)]).map V.str))) := fun x o e => upd_keep e fr
          have h10 := upd_keep (o := .lst (([wPage, q.1, (toString q.2 : Str)]).map V.str)) h9 hr'
          have g10 := upd_keep (o := .lst (([wPage, q.1, (toString q.2 : Str)]).map V.str)) g9 hr'
          have fD10 : (upd F6 r (.lst (([wPage, q.1, (toString q.2 : Str)]).map V.str))) D = none := by rw [upd_ne (ne_of_none h9 hr')]; exact fD6
          have fE10 : (upd F6 r (.lst (([wPage, q.1, (toString q.2 : Str)]).map V.str))) E1 = none := by rw [upd_ne (ne_of_none g9 hr')]; exact fE6
          refine ⟨_, g10, szl (by rw [List.length_map]; omega), _, qs ++ [(r, [wPage, q.1, (toString q.2 : Str)])], N10.wr (.inl hE0) fE10, fun x o e => s10 _ _ (s6 _ _ e), fD10, fE10, by rw [upd_ne DE]; exact h10, by rw [upd_same, List.map_append]; rfl, (R6.sub s10).app (WRows.one upd_same), ?_⟩
          rw [List.map_append, e6, rowsP_step hq, if_pos lt]; rfl
        · refine ⟨F6, qs, Z8, s6, fD6, fE6, h8, g8, R6, ?_⟩
          rw [e6, rowsP_step hq, if_neg nlt, List.append_nil]
      · rintro H6 ⟨F6, qs, N6, s6, fD6, fE6, h6, g6, R6, e6⟩
        rw [List.length_map, List.length_map, List.take_length] at e6
        have ql : qs.length ≤ 12 := by
          have := congrArg List.length e6
          rw [List.length_map, rowsP, List.length_map] at this
          have f := List.length_filter_le (fun q : Str × Int => decide (1 < q.2)) W
          omega
        walk_at "zz"
        refine z_ext h6 g6 (by rw [List.length_map, List.length_map]; omega) ?_
        rw [← List.map_append]
        have N7 := N6.wr (o := .lst ((ps ++ qs).map fun t => V.ref t.1)) (.inl hD0) fD6
        have h7 : (upd H6 D (.lst ((ps ++ qs).map fun t => V.ref t.1))) D = some (.lst ((ps ++ qs).map fun t => V.ref t.1)) := upd_same
        generalize upd H6 D (.lst ((ps ++ qs).map fun t => V.ref t.1)) = H7 at N7 h7 ⊢
        have R7 : WRows F6 (ps ++ qs) := (R5.sub s6).app R6
        have e7 : (ps ++ qs).map (·.2) = rowsH M ++ rowsP W := by rw [List.map_append, e3, e6]
        have l7 : (ps ++ qs).length ≤ 18 := by rw [List.length_append]; omega
        have gr7 := gr5.sub s6
        have hgx7 := s6 _ _ hgx5
        generalize ps ++ qs = ps2 at h7 R7 e7 l7
        clear N6 h6 g6 R6 e6 ql R5 h5 gr5 hgx5 hl5 fD5 N5 R3 e3 h3 gr3 hgx3 fD3 N3
        walk_at "zz"
        refine ⟨.inl ⟨rfl, _, SqL.of h7⟩, ?_⟩
        walk_at "zz"
        refine ⟨g, dx, _, rfl, N7.sub _ _ hgx7, rfl, ?_⟩
        walk_at "zz"
        refine ⟨F6, g, M, W, cs, rfl, N7.sub, gr7, fun l8 ds F8 H8 N8 hl8 hb8 eds => ?_⟩
        have N9 := N7.trans N8
        have h8 := N8.keep _ _ h7 fun k => k
        have fD8 := N8.new _ (some_ne h7) fD6
        have R8 := R7.sub N8.mono
        have dl : ds.length = cs.length := by have := congrArg List.length eds; simpa using this
        refine ⟨l8, rfl, ⟨_, N9.sub.sql hl8⟩, fun E2 hE2 => ?_⟩
        have fE2 := N9.sub.none hE2
        have hE20 := N9.old hE2
        have DE2 : D ≠ E2 := ne_of_none h8 hE2
        refine lc_it (walk_list (xs := ds.map fun t => V.ref t.1)) (fun i H' => ∃ (F' : Hp) (qs : WR), Nx No F H F' H' ∧ Sub F8 F' ∧ F' D = none ∧ F' E2 = none ∧ H' D = some (.lst (ps2.map fun t => V.ref t.1)) ∧ H' E2 = some (.lst (qs.map fun t => V.ref t.1)) ∧ WRows F' qs ∧ qs.map (·.2) = rowsB (ds.take i))
          ⟨F8, [], N9.trans (Nx.mak N9.sub hE2), fun _ _ e => e, fD8, fE2, upd_keep h8 hE2, upd_same, fun t ht => (by cases ht), rfl⟩ (fun i H' _ ⟨_, _, N, s, _⟩ => N.sub.sql (s _ _ hl8)) ?_ ?_
        · rintro i v H10 H11 hi ⟨F10, qs, N10, s10, fD10, fE10, h10, g10, R10, e10⟩ ⟨rfl, hv⟩
          obtain ⟨t, ht, rfl⟩ : ∃ t, ds[i]? = some t ∧ v = .ref t.1 := by
            rw [List.getElem?_map] at hv
            cases e : ds[i]? with
            | none => rw [e] at hv; cases hv
            | some t => rw [e] at hv; exact ⟨t, rfl, (Option.some.inj hv).symm⟩
          have il : i < ds.length := (List.getElem?_eq_some_iff.mp ht).1
          have ql : qs.length = i := by have := congrArg List.length e10; rw [List.length_map, rowsB, List.length_map, List.length_take] at this; omega
          have ht10 := s10 _ _ (hb8 t (List.mem_of_getElem? ht))
          walk_at "zz"
          refine z_star ?_
          walk_at "zz"
          refine ⟨t.1, _, rfl, .inl (N10.sub.sqt ht10), ?_⟩
          walk_at "zz"
          refine ⟨sz (by show 3 ≤ 100000; decide), fun r hr' => ?_⟩
          have fr := N10.sub.none hr'
          have N12 := N10.trans (Nx.lay (M := No) (o := .lst ([wBar, t.2.1, t.2.2].map V.str)) N10.sub hr')
          have s12 : Sub F10 (upd F10 r (.lst ([wBar, t.2.1, t.2.2].map V.str))) := fun x o e => upd_keep e fr
          have h12 := upd_keep (o := .lst ([wBar, t.2.1, t.2.2].map V.str)) h10 hr'
          have g12 := upd_keep (o := .lst ([wBar, t.2.1, t.2.2].map V.str)) g10 hr'
          have fD12 : (upd F10 r (.lst ([wBar, t.2.1, t.2.2].map V.str))) D = none := by rw [upd_ne (ne_of_none h10 hr')]; exact fD10
          have fE12 : (upd F10 r (.lst ([wBar, t.2.1, t.2.2].map V.str))) E2 = none := by rw [upd_ne (ne_of_none g10 hr')]; exact fE10
          refine ⟨_, g12, szl (by rw [List.length_map]; omega), _, qs ++ [(r, [wBar, t.2.1, t.2.2])], N12.wr (.inl hE20) fE12, fun x o e => s12 _ _ (s10 _ _ e), fD12, fE12, by rw [upd_ne DE2]; exact h12, by rw [upd_same, List.map_append]; rfl, (R10.sub s12).app (WRows.one upd_same), ?_⟩
          rw [List.map_append, e10, take_step ht, rowsB, rowsB, List.map_append]; rfl
        · rintro H10 ⟨F10, qs, N10, s10, fD10, fE10, h10, g10, R10, e10⟩
          rw [List.length_map, List.take_length] at e10
          have ql : qs.length = ds.length := by have := congrArg List.length e10; rw [List.length_map, rowsB, List.length_map] at this; exact this
          walk_at "zz"
          refine z_ext h10 g10 (by rw [List.length_map, List.length_map]; omega) ?_
          rw [← List.map_append]
          have N11 := N10.wr (o := .lst ((ps2 ++ qs).map fun t => V.ref t.1)) (.inl hD0) fD10
          have h11 : (upd H10 D (.lst ((ps2 ++ qs).map fun t => V.ref t.1))) D = some (.lst ((ps2 ++ qs).map fun t => V.ref t.1)) := upd_same
          generalize upd H10 D (.lst ((ps2 ++ qs).map fun t => V.ref t.1)) = H11 at N11 h11 ⊢
          have R11 : WRows F10 (ps2 ++ qs) := (R8.sub s10).app R10
          have eB : rowsB ds = rowsB cs := by
            have k : ∀ z : Bars, rowsB z = (z.map (·.2)).map fun q => [wBar, q.1, q.2] := fun z => by rw [rowsB, List.map_map]; rfl
            rw [k, k, eds]
          have e11 : (ps2 ++ qs).map (·.2) = gRows M W cs := by rw [List.map_append, e7, e10, eB]; rfl
          have l11 : (ps2 ++ qs).length ≤ 60 := by rw [List.length_append]; omega
          generalize ps2 ++ qs = ps3 at h11 R11 e11 l11
          clear N10 h10 g10 R10 e10 ql R8 h8 N9 N8 fD8
          have few := G.few.2
          rw [← e11] at few
          walk_at "zz"
          refine ⟨D, rfl, ⟨_, SqL.of h11⟩, fun E3 hE3 => ?_⟩
          have fE3 := N11.sub.none hE3
          have hE30 := N11.old hE3
          have DE3 : D ≠ E3 := ne_of_none h11 hE3
          refine lc_it (walk_list (xs := ps3.map fun t => V.ref t.1)) (fun i H' => Nx No F H F10 H' ∧ H' D = some (.lst (ps3.map fun t => V.ref t.1)) ∧ H' E3 = some (.lst ((((ps3.take i).map fun t => rowT t.2).map (· ++ feed)).map V.str)))
            ⟨N11.trans (Nx.mak N11.sub hE3), upd_keep h11 hE3, upd_same⟩ (fun i H' _ h => SqL.of h.2.1) ?_ ?_
          · rintro i v H12 H13 hi ⟨N12, h12, g12⟩ ⟨rfl, hv⟩
            obtain ⟨t, ht, rfl⟩ : ∃ t, ps3[i]? = some t ∧ v = .ref t.1 := by
              rw [List.getElem?_map] at hv
              cases e : ps3[i]? with
              | none => rw [e] at hv; cases hv
              | some t => rw [e] at hv; exact ⟨t, rfl, (Option.some.inj hv).symm⟩
            have tm := List.mem_of_getElem? ht
            obtain ⟨w14, wr⟩ := few t.2 (List.mem_map_of_mem tm)
            have rl := row_len wr
            have rl2 : (rowT t.2).length ≤ 98 := Nat.le_trans rl (by have := Nat.mul_le_mul_right 7 w14; omega)
            walk_at "zz"
            have ts : (t.2.map (·.length)).sum ≤ t.2.length * 6 := by
              have := sum_le_mul (n := 6) (l := t.2.map (·.length)) fun x hx => by
                obtain ⟨r, hr', rfl⟩ := List.mem_map.mp hx
                exact wr r hr'
              rwa [List.length_map] at this
            have b1 : blank.length = 1 := rfl
            refine z_join (N12.sub.sql (R11 t tm)) (by rw [show (Str.ofString " ").length = 1 from rfl]; omega) ?_
            walk_at "zz"
            refine ⟨rowT t.2, feed, rfl, rfl, sz (by have : feed.length = 1 := rfl; omega), ?_⟩
            refine ⟨_, g12, szl (by rw [List.length_map, List.length_map, List.length_map, List.length_take]; omega), N12.wr (.inl hE30) fE3, by rw [upd_ne DE3]; exact h12, ?_⟩
            rw [upd_same, take_step ht, List.map_append, List.map_append, List.map_append]; rfl
          · rintro H12 ⟨N12, h12, g12⟩
            rw [List.length_map, List.take_length] at g12
            walk_at "zz"
            have rl2 : ∀ x ∈ (ps3.map fun t => rowT t.2).map (· ++ feed), x.length ≤ 99 := fun x hx => by
              obtain ⟨y, hy, rfl⟩ := List.mem_map.mp hx
              obtain ⟨t, ht, rfl⟩ := List.mem_map.mp hy
              obtain ⟨w14, wr⟩ := few t.2 (List.mem_map_of_mem ht)
              have rl := row_len wr
              have := Nat.mul_le_mul_right 7 w14
              show (rowT t.2 ++ feed).length ≤ 99
              rw [len_app]
              have e1 : feed.length = 1 := rfl
              omega
            refine z_join (SqL.of g12) ?_ ?_
            · have := sum_le_mul (n := 99) (l := ((ps3.map fun t => rowT t.2).map (· ++ feed)).map (·.length)) fun x hx => by
                obtain ⟨r, hr', rfl⟩ := List.mem_map.mp hx
                exact rl2 r hr'
              rw [List.length_map, List.length_map, List.length_map] at this
              rw [show (Str.ofString "").length = 0 from rfl, List.length_map, List.length_map]
              omega
            · have e : Txt.join none' ((ps3.map fun t => rowT t.2).map (· ++ feed)) = gText M W cs := by
                rw [gText, textT, ← e11]; simp only [List.map_map]; rfl
              show Q (.str (Txt.join none' ((ps3.map fun t => rowT t.2).map (· ++ feed)))) H12
              rw [e]
              exact k H12 N12.back
end
end EV
end

section
set_option maxHeartbeats 4000000
local macro_rules | `(tactic| walk_at "za") => `(tactic| (first | exact Or.inl ⟨by omega, by omega⟩ | exact Or.inr ⟨by omega, by omega⟩ | exact ⟨by omega, by omega⟩ | exact ⟨by omega, by omega, by omega⟩ | omega))
local macro_rules | `(tactic| walk_at "z") => `(tactic| (first
  | with_reducible refine EV.z_seq ?_ | with_reducible refine EV.z_next ?_ | with_reducible refine EV.z_nx ?_ | with_reducible refine EV.z_rt ?_ | with_reducible refine EV.z_asg ?_ | with_reducible refine EV.z_name ?_
  | with_reducible refine EV.z_drop ?_ | with_reducible refine EV.z_ret ?_ | with_reducible refine EV.z_if ?_
  | ((with_reducible refine EV.z_var (v := ?vv) ?hv ?_); (case hv => exact rfl)) | with_reducible refine EV.z_c ?_ | with_reducible refine EV.z_op ?_ | with_reducible refine EV.z_un ?_ | with_reducible refine EV.z_I0 ?_ | with_reducible refine EV.z_U ?_ | ((with_reducible refine EV.z_I ?hc ?_); (case hc => walk_at "za"))
  | ((with_reducible refine EV.z_eq ?hv ?_); (case hv => exact rfl)) | ((with_reducible refine EV.z_ne ?hv ?_); (case hv => exact rfl))
  | with_reducible refine EV.z_test ?_ | with_reducible refine EV.z_bl ?_ | with_reducible refine EV.z_B ?_ | with_reducible refine EV.z_and ?_ | with_reducible refine EV.z_or ?_ | with_reducible refine EV.z_not ?_ | with_reducible refine EV.z_andV ?_
  | with_reducible refine EV.z_orV ?_ | with_reducible refine EV.z_notV ?_ | with_reducible refine EV.z_ifE ?_ | with_reducible refine EV.z_nil ?_ | with_reducible refine EV.z_cons ?_ | with_reducible refine EV.z_tup ?_ | with_reducible refine EV.z_lst ?_
  | with_reducible refine EV.z_cb ?_ | with_reducible refine EV.z_call ?_ | with_reducible refine EV.z_dget ?_ | with_reducible refine EV.z_dput ?_ | with_reducible refine EV.z_chain ?_ | with_reducible refine EV.z_then ?_ | with_reducible refine EV.z_fld ?_ | with_reducible refine EV.z_bm ?_
  | with_reducible refine EV.z_par ?_ | with_reducible refine EV.z_par3 ?_ | with_reducible refine EV.z_ex2 ?_ | with_reducible refine EV.z_ex3 ?_ | with_reducible refine EV.z_tyes ?_ | ((with_reducible refine EV.z_wipe ?hv ?_); (case hv => exact rfl))
  | with_reducible refine EV.z_lc ?_ | with_reducible refine EV.z_ltS ?_ | with_reducible refine EV.z_disp ?_ | with_reducible refine EV.z_pc ?_ | with_reducible refine EV.z_pn ?_ | with_reducible refine EV.z_m1 ?_ | with_reducible refine EV.z_isS ?_ | with_reducible refine EV.z_sl ?_ | with_reducible refine EV.z_np ?_ | with_reducible refine EV.z_pt ?_ | with_reducible refine EV.z_exI ?_ | with_reducible refine EV.z_is ?_ | with_reducible refine EV.z_istr ?_ | with_reducible refine EV.z_no ?_ | with_reducible refine EV.z_yes ?_ | with_reducible refine EV.z_for ?_ | with_reducible refine EV.z_il ?_ | with_reducible refine EV.z_it ?_ | with_reducible refine EV.z_r1 ?_ | with_reducible refine EV.z_ik ?_ | with_reducible refine EV.z_din ?_ | with_reducible refine EV.z_dnin ?_ | with_reducible refine EV.z_dsd ?_ | with_reducible refine EV.z_gs ?_ | with_reducible refine EV.z_gc ?_ | with_reducible refine EV.z_gn ?_ | with_reducible refine EV.z_turn ?_))
local macro_rules | `(tactic| walk_at "zz") => `(tactic| repeat walk_at "z")
local macro_rules | `(tactic| walk_at "z") => `(tactic| (first | with_reducible refine EV.z_mt ?_ | with_reducible refine EV.z_cS ?_ | with_reducible refine EV.z_mkO ?_ | with_reducible refine EV.z_mkK ?_))
/-! ### what the law looks at: what one would get -/
namespace EV
open PySem PySem.Spec PyProof.Rows L2
section
variable {X : Cx} {CX : CXT} {k : Nat} {f : Addr} {fd : FuncData} {ps ks : List Str} {sp : Sp} {E : XK} {x : Str} {p pos : Pos} {kws : List Keyword} {tk : TA}
/-- a def that may be called by its name, all by names told: ks, put in order by pm -/
structure CalN (CX : CXT) (P : Program) (w : World) (K : PySem.W.Frag) (mg : Str → Option Value) (base : Heap) (k : Nat) (x : Str) (sp : Sp) (ks : List Str) (pm : {α : Type} → List α → List α) : Prop where
  ex : ∃ (f : Addr) (fd : FuncData) (ps : List Str), FnOk P w K mg base CX k f fd ps sp ∧ mg x = some (.ref f) ∧ PySem.W.keepIn K (.ref f) = true ∧ KBn K fd ps 0 ks (fun _ ws => pm ws) (fun _ zs => pm zs)
def tCallN (sp : Sp) (n : Nat) (pm : {α : Type} → List α → List α) (E : XK) (tk : TA) : TE := fun σ H Q => tk σ H fun zs H2 => zs.length = n ∧ sp (pm zs) H2 Q E
theorem z_cN {n : Nat} {pm : {α : Type} → List α → List α} {σ : L2.St} {H : Hp} {Q : VK} (q : tk σ H fun zs H2 => zs.length = n ∧ sp (pm zs) H2 Q E) : tCallN sp n pm E tk σ H Q := q
theorem pe_k0 {pm : {α : Type} → List α → List α} {j : Nat} (c : CalN CX X.prog X.w X.K X.mg X.base k x sp ks pm) (hr : Room j X.A) (hk : k ≤ j) (hg : Gl X x) (hx : Passes CX X E) (hkw : PK X kws tk)
    (hall : (backToKw pos (keywordEach kws X.env)).all (·.1.isSome) = true := by rfl) (hks : (backToKw pos (keywordEach kws X.env)).filterMap (·.1) = ks := by rfl) (hdb : (x == ("__debug__" : Str)) = false := by decide)
    (hpl : ((backTo pos (starEach [] X.env)).any (·.1) || (backToKw pos (keywordEach kws X.env)).any (·.1.isNone)) = false := by rfl) :
    PE X (.Call (.Name x p) [] kws pos) (tCallN sp ks.length pm E tk) := by
  obtain ⟨f, fd, ps, F, hm, kp, hb⟩ := c.ex
  refine ⟨fun pins s σ H Q I h => ?_⟩
  refine wpAny_Call_Name_kw (ld_glob I hg hm ?_ hdb)
  refine PySem.W.callWith_KW0 (h₀ := X.base) I.ok.mod.kin kp hall ?_ hpl
  refine thn (hkw.run pos pins s σ H _ I h) fun ws s2 ⟨zs, H2, I2, rz, l2, q2⟩ => ⟨I2.kIn, ?_⟩
  rw [hks]
  have r2 := hb.rel (vs := []) (us := []) .nil rz
  refine wpAny_call (codeAny_mono (F.run X.A X.stack s2 H2 ⟨[], ks.zip ws⟩ (pm ws) (pm zs) Q E (hr.mono hk) I2.env0 (hb.to s2 [] ws I2.kIn rfl (rz.length.symm.trans l2)) r2 q2) fun r s' hq => ?_)
  cases r with
  | error e => exact hx pins σ H2 s2 e s' I2 hq
  | ok fl =>
    cases fl with
    | ret u => exact I2.after hq
    | next => exact False.elim hq
    | brk => exact False.elim hq
    | cont => exact False.elim hq
end
theorem lt64 {n m : Nat} (h : n + 65 < m) : n + 64 < m := by omega
/-- a world to read, its people perhaps walked just now -/
structure Wr (H : Hp) (wa hd lv br : Addr) (L : Hld) (W : Lvs) (bs : Bars) : Prop where
  hw : H wa = some (.dK (wK hd lv br))
  hh : Rd H hd (.dK (heldK L))
  hv : H lv = some (.dK (lvK W))
  hb : H br = some (.lst (bs.map fun t => V.ref t.1))
  ba : BarsA H bs
  ha : HeldA H L
theorem Wr.same {H H' : Hp} {wa hd lv br : Addr} {L : Hld} {W : Lvs} {bs : Bars} (d : Wr H wa hd lv br L W bs) (s : Same H H') : Wr H' wa hd lv br L W bs :=
  ⟨s _ _ d.hw, rd_same s d.hh, s _ _ d.hv, s _ _ d.hb, fun t ht => s _ _ (d.ba t ht), fun t ht => s _ _ (d.ha t ht)⟩
def spGot : Sp := fun vs H Q _ => ∃ (wa hd lv br : Addr) (L : Hld) (W : Lvs) (bs : Bars) (x y : Str), vs = [.ref wa, .str x, .str y] ∧ Wr H wa hd lv br L W bs ∧ WD L W bs ∧ x ∈ L.map (·.1) ∧ y ∈ L.map (·.1) ∧ ∀ H', Same H H' → Q (.int (byd (lfn W) (hLf L y) (hLf L x))) H'
def spBarPair : Sp := fun vs H Q _ => ∃ (wa hd lv br : Addr) (L : Hld) (W : Lvs) (bs : Bars) (x y : Str), vs = [.ref wa, .str x, .str y] ∧ Wr H wa hd lv br L W bs ∧ WD L W bs ∧ x ∈ L.map (·.1) ∧ y ∈ L.map (·.1) ∧ ∀ (b : Bool) H', Same H H' → (b = true ↔ x = y ∨ barP bs x y) → Q (.bl b) H'
def spBarTold (C : Addr) : Sp := fun vs H Q _ => ∃ (F : Hp) (g : Addr) (M : Hld) (W : Lvs) (cs : Bars) (x y : Str), vs = [.ref g, .str x, .str y] ∧ Sub F H ∧ Gr F C g M W cs ∧ x ∈ M.map (·.1) ∧ y ∈ M.map (·.1) ∧ (x = y ∨ barP cs x y) ∧ ∀ F' H', Nx No F H F' H' → Q (.bl true) H'
end EV
end

section
set_option maxHeartbeats 4000000
local macro_rules | `(tactic| walk_at "za") => `(tactic| (first | exact Or.inl ⟨by omega, by omega⟩ | exact Or.inr ⟨by omega, by omega⟩ | exact ⟨by omega, by omega⟩ | exact ⟨by omega, by omega, by omega⟩ | omega))
local macro_rules | `(tactic| walk_at "z") => `(tactic| (first
  | with_reducible refine EV.z_seq ?_ | with_reducible refine EV.z_next ?_ | with_reducible refine EV.z_nx ?_ | with_reducible refine EV.z_rt ?_ | with_reducible refine EV.z_asg ?_ | with_reducible refine EV.z_name ?_
  | with_reducible refine EV.z_drop ?_ | with_reducible refine EV.z_ret ?_ | with_reducible refine EV.z_if ?_
  | ((with_reducible refine EV.z_var (v := ?vv) ?hv ?_); (case hv => exact rfl)) | with_reducible refine EV.z_c ?_ | with_reducible refine EV.z_op ?_ | with_reducible refine EV.z_un ?_ | with_reducible refine EV.z_I0 ?_ | with_reducible refine EV.z_U ?_ | ((with_reducible refine EV.z_I ?hc ?_); (case hc => walk_at "za"))
  | ((with_reducible refine EV.z_eq ?hv ?_); (case hv => exact rfl)) | ((with_reducible refine EV.z_ne ?hv ?_); (case hv => exact rfl))
  | with_reducible refine EV.z_test ?_ | with_reducible refine EV.z_bl ?_ | with_reducible refine EV.z_B ?_ | with_reducible refine EV.z_and ?_ | with_reducible refine EV.z_or ?_ | with_reducible refine EV.z_not ?_ | with_reducible refine EV.z_andV ?_
  | with_reducible refine EV.z_orV ?_ | with_reducible refine EV.z_notV ?_ | with_reducible refine EV.z_ifE ?_ | with_reducible refine EV.z_nil ?_ | with_reducible refine EV.z_cons ?_ | with_reducible refine EV.z_tup ?_ | with_reducible refine EV.z_lst ?_
  | with_reducible refine EV.z_cb ?_ | with_reducible refine EV.z_call ?_ | with_reducible refine EV.z_dget ?_ | with_reducible refine EV.z_dput ?_ | with_reducible refine EV.z_chain ?_ | with_reducible refine EV.z_then ?_ | with_reducible refine EV.z_fld ?_ | with_reducible refine EV.z_bm ?_
  | with_reducible refine EV.z_par ?_ | with_reducible refine EV.z_par3 ?_ | with_reducible refine EV.z_ex2 ?_ | with_reducible refine EV.z_ex3 ?_ | with_reducible refine EV.z_tyes ?_ | ((with_reducible refine EV.z_wipe ?hv ?_); (case hv => exact rfl))
  | with_reducible refine EV.z_lc ?_ | with_reducible refine EV.z_ltS ?_ | with_reducible refine EV.z_disp ?_ | with_reducible refine EV.z_pc ?_ | with_reducible refine EV.z_pn ?_ | with_reducible refine EV.z_m1 ?_ | with_reducible refine EV.z_isS ?_ | with_reducible refine EV.z_sl ?_ | with_reducible refine EV.z_np ?_ | with_reducible refine EV.z_pt ?_ | with_reducible refine EV.z_exI ?_ | with_reducible refine EV.z_is ?_ | with_reducible refine EV.z_istr ?_ | with_reducible refine EV.z_no ?_ | with_reducible refine EV.z_yes ?_ | with_reducible refine EV.z_for ?_ | with_reducible refine EV.z_il ?_ | with_reducible refine EV.z_it ?_ | with_reducible refine EV.z_r1 ?_ | with_reducible refine EV.z_ik ?_ | with_reducible refine EV.z_din ?_ | with_reducible refine EV.z_dnin ?_ | with_reducible refine EV.z_dsd ?_ | with_reducible refine EV.z_gs ?_ | with_reducible refine EV.z_gc ?_ | with_reducible refine EV.z_gn ?_ | with_reducible refine EV.z_turn ?_))
local macro_rules | `(tactic| walk_at "zz") => `(tactic| repeat walk_at "z")
local macro_rules | `(tactic| walk_at "z") => `(tactic| (first | with_reducible refine EV.z_mt ?_ | with_reducible refine EV.z_cS ?_ | with_reducible refine EV.z_mkO ?_ | with_reducible refine EV.z_mkK ?_))
/-! ### what the law looks at: all gains -/
namespace EV
open PySem PySem.Spec PyProof.Rows L2
theorem z_ct {D : Ends} {σ : L2.St} {H : Hp} (q : D.ct σ H) : tCont D σ H := q
theorem z_bk {D : Ends} {σ : L2.St} {H : Hp} (q : D.bk σ H) : tBreak D σ H := q
/-- a thing that is no world's dict of people stays where that one is taken out -/
theorem Gr.wo {F : Hp} {C g hd : Addr} {M L : Hld} {W' : Lvs} {cs : Bars} (gr : Gr F C g M W' cs) (hh : F hd = some (.dK (heldK L))) (ha : HeldA F L) (n1 : 1 ≤ L.length) : Gr (wo F hd hd) C g M W' cs := by
  obtain ⟨⟨h', l', b', gp⟩, G⟩ := gr
  obtain ⟨t, L', rfl⟩ : ∃ t L', L = t :: L' := by
    cases L with
    | nil => exact absurd n1 (by decide)
    | cons t L' => exact ⟨t, L', rfl⟩
  have ht := ha t List.mem_cons_self
  have keep : ∀ {a o}, F a = some o → (∀ ks, o ≠ .dK ks) → EV.wo F hd hd a = some o := fun {a o} e n => by
    have ne : a ≠ hd := fun z => by rw [z, hh] at e; exact n _ (Option.some.inj e).symm
    rw [wo_ne ne ne]; exact e
  have nh : h' ≠ hd := fun z => by
    have e := gp.hh
    rw [z, hh] at e
    have q : heldK (t :: L') = heldK M := HO.dK.inj (Option.some.inj e)
    cases M with
    | nil => cases q
    | cons u M' =>
      have r : t.2.1 = u.2.1 := V.ref.inj (congrArg (·.2) (List.cons.inj q).1)
      have hu := gp.ht u List.mem_cons_self
      rw [← r, ht] at hu
      cases hu
  have nl : l' ≠ hd := fun z => by
    have e := gp.hv
    rw [z, hh] at e
    have q : heldK (t :: L') = lvK W' := HO.dK.inj (Option.some.inj e)
    cases W' with
    | nil => cases q
    | cons u W2 => cases congrArg (·.2) (List.cons.inj q).1
  obtain ⟨dx, hx⟩ := gp.hx
  exact ⟨⟨h', l', b', ⟨dx, keep hx (fun _ z => nomatch z)⟩, by rw [wo_ne nh nh]; exact gp.hh, by rw [wo_ne nl nl]; exact gp.hv, keep gp.hb (fun _ z => nomatch z), fun u hu => keep (gp.ba u hu) (fun _ z => nomatch z), fun u hu => keep (gp.ht u hu) (fun _ z => nomatch z)⟩, G⟩
theorem Wd.lock {F H : Hp} {wa hd lv br : Addr} {L : Hld} {W : Lvs} {bs : Bars} {od : Obj} (d : Wd F wa hd lv br L W bs) (n1 : 1 ≤ L.length) (sF : Sub F H) : Wr (upd H hd (.frz od (.dK (heldK L)))) wa hd lv br L W bs ∧ Sub (wo F hd hd) (upd H hd (.frz od (.dK (heldK L)))) := by
  obtain ⟨t, L', rfl⟩ : ∃ t L', L = t :: L' := by
    cases L with
    | nil => exact absurd n1 (by decide)
    | cons t L' => exact ⟨t, L', rfl⟩
  have ht := d.ha t List.mem_cons_self
  have keep : ∀ {a o}, F a = some o → (∀ ks, o ≠ .dK ks) → (upd H hd (.frz od (.dK (heldK (t :: L'))))) a = some o := fun {a o} e n => by
    have ne : a ≠ hd := fun z => by rw [z, d.hh] at e; exact n _ (Option.some.inj e).symm
    rw [upd_ne ne]; exact sF _ _ e
  have nw : wa ≠ hd := fun z => by
    have e := d.hw
    rw [z, d.hh] at e
    have q : heldK (t :: L') = wK hd lv br := HO.dK.inj (Option.some.inj e)
    have r : t.2.1 = hd := V.ref.inj (congrArg (·.2) (List.cons.inj q).1)
    rw [r, d.hh] at ht
    cases ht
  have nl : lv ≠ hd := fun z => by
    have e := d.hv
    rw [z, d.hh] at e
    have q : heldK (t :: L') = lvK W := HO.dK.inj (Option.some.inj e)
    cases W with
    | nil => cases q
    | cons u W2 => cases congrArg (·.2) (List.cons.inj q).1
  refine ⟨⟨by rw [upd_ne nw]; exact sF _ _ d.hw, .inr ⟨od, upd_same⟩, by rw [upd_ne nl]; exact sF _ _ d.hv, keep d.hb (fun _ z => nomatch z), fun u hu => keep (d.ba u hu) (fun _ z => nomatch z), fun u hu => keep (d.ha u hu) (fun _ z => nomatch z)⟩, fun x o e => ?_⟩
  have ne : x ≠ hd := fun z => by rw [z, wo_l] at e; cases e
  rw [wo_ne ne ne] at e
  rw [upd_ne ne]
  exact sF _ _ e
theorem sum_le {f : Str → Int} {m : Int} : ∀ {l : List Str}, (∀ z ∈ l, f z ≤ m) → (l.map f).sum ≤ m * l.length
  | [], _ => by simp
  | z :: l, h => by
    have a := h z List.mem_cons_self
    have b := sum_le (f := f) (m := m) (l := l) fun q hq => h q (List.mem_cons_of_mem _ hq)
    rw [List.map_cons, List.sum_cons, List.length_cons]
    have : m * ((l.length + 1 : Nat) : Int) = m * l.length + m := by rw [Int.natCast_add, Int.mul_add]; simp
    omega
theorem GD.lf9 {M : Hld} {W : Lvs} {cs : Bars} {x : Str} (G : GD M W cs) (h : x ∈ W.map (·.1)) : lfn W x ≤ 9 := by
  obtain ⟨q, hq, rfl⟩ := List.mem_map.mp h
  rw [lfn_mem G.d.wn hq]
  exact (G.d.w19 hq).2
theorem GD.gx0 {M : Hld} {W : Lvs} {cs : Bars} {x y : Str} (G : GD M W cs) (hy : y ∈ M.map (·.1)) : 0 ≤ gx M W x y ∧ gx M W x y ≤ 108 := by
  refine ⟨byd_nn (G.f1 hy), ?_⟩
  have a : gx M W x y ≤ 9 * ((hLf M y).filter fun z => !decide (z ∈ hLf M x)).length := sum_le fun z hz => G.lf9 (G.cov hy (List.mem_filter.mp hz).1)
  have b := List.length_filter_le (fun z => !decide (z ∈ hLf M x)) (hLf M y)
  have c := G.l12 hy
  omega
theorem int_short {a : Int} (h0 : 0 ≤ a) (h1 : a < 200) : PyData.intsShort 13 (.int a) = true ∧ PyData.showable (.int a) = true := by
  obtain ⟨n, rfl⟩ := Int.eq_ofNat_of_zero_le h0
  have k : ∀ m, m < 200 → (PyData.intsShort 13 (.int (m : Nat)) && PyData.showable (.int (m : Nat))) = true := by decide +kernel
  have := k n (by omega)
  rwa [Bool.and_eq_true] at this
theorem z_rep2 {K : PySem.W.Frag} {H : Hp} {p : Addr} {a b : Int} {Q : VK} (h : SqT K H p [.int a, .int b]) (a0 : 0 ≤ a) (a1 : a < 200) (b0 : 0 ≤ b) (b1 : b < 200) (q : Q (.str (PyData.shown (.tuple [.int a, .int b]))) H) : rReprD K [.ref p] H Q := by
  obtain ⟨i1, s1⟩ := int_short a0 a1
  obtain ⟨i2, s2⟩ := int_short b0 b1
  refine ⟨p, .tuple [.int a, .int b], rfl, .tup h (.cons (.int a) (.cons (.int b) .nil)), ?_, rfl, ?_, ?_, q⟩
  · show PyData.showableAll _ = true
    simp only [PyData.showableAll, s1, s2, Bool.and_self]
  · simp [PyData.depth, PyData.depthAll]
  · refine Nat.le_trans (shown_le13 (d := .tuple [.int a, .int b]) ?_ ?_) (by decide)
    · have w : ∀ {c : Int}, 0 ≤ c → c < 200 → PyData.weight (.int c) ≤ 20 := fun {c} c0 c1 => by
        obtain ⟨n, rfl⟩ := Int.eq_ofNat_of_zero_le c0
        have k : ∀ m, m < 200 → decide (PyData.weight (.int (m : Nat)) ≤ 20) = true := by decide +kernel
        exact of_decide_eq_true (k n (by omega))
      have w1 := w a0 a1
      have w2 := w b0 b1
      simp only [PyData.layable0, Bool.and_eq_true, decide_eq_true_eq]
      refine ⟨⟨rfl, by simp [PyData.depth, PyData.depthAll]⟩, ?_⟩
      simp only [PyData.weight, PyData.weightAll] at w1 w2 ⊢
      omega
    · show PyData.intsShortAll 13 _ = true
      simp only [PyData.intsShortAll, i1, i2, Bool.and_self]
theorem z_neI2 {K : PySem.W.Frag} {H : Hp} {p q : Addr} {a b : Int} {Q : VK} (h1 : SqT K H p [.int a, .int b]) (h2 : SqT K H q [.int a, .int b]) (k : Q (.bl false) H) : rNeD K (.ref p) (.ref q) H Q := by
  refine ⟨.tuple [.int a, .int b], .tuple [.int a, .int b], .tup h1 (.cons (.int a) (.cons (.int b) .nil)), .tup h2 (.cons (.int a) (.cons (.int b) .nil)), rfl, rfl, ?_⟩
  have e : PyData.eqv (.tuple [.int a, .int b]) (.tuple [.int a, .int b]) = true := by simp [PyData.eqv, PyData.eqvAll]
  rw [e]
  exact k
/-- (other, group, one) -/
def pmG : {α : Type} → List α → List α
  | _, [a, b, c] => [b, c, a]
  | _, l => l
abbrev ksG : List Str := ["other", "group", "one"]
def spGainsR (C : Addr) : Sp := fun vs H Q _ => ∃ (F : Hp) (g wa hd lv br : Addr) (L M : Hld) (W W' : Lvs) (bs cs : Bars), vs = [.ref g, .ref wa] ∧ Sub F H ∧ Wd F wa hd lv br L W bs ∧ WD L W bs ∧ Gr F C g M W' cs ∧ Cor L W bs M W' cs ∧ ∀ H', Nx No F H F H' → Q (.bl true) H'
end EV
end

section
set_option maxHeartbeats 400000
/-! ### a list of pairs of texts, in order -/
namespace EV.Sets
open PySem PySem.Spec PyProof.Rows L2
open SrtO (Swo Cmp lt2 SortableO list_sort_ord Srtd Stb)
abbrev Prs := List (Addr × Str × Str)
def rSortLP (K : PySem.W.Frag) : List V → Hp → VK → Prop := fun xs H Q => ∃ (l : Addr) (bs : Prs), xs = [V.ref l] ∧ SqL K H l (bs.map fun t => V.ref t.1) ∧ (∀ t ∈ bs, SqT K H t.1 [.str t.2.1, .str t.2.2]) ∧
  ∀ (cs : Prs) (p : Addr), cs.Perm bs → cs.Pairwise (fun u v => ltP v.2 u.2 = false) → H p = none → Q (.ref p) (upd H p (.lst (cs.map fun t => V.ref t.1)))
theorem refs_of {bs : Prs} : ∀ {its : List Value}, Vals (bs.map fun t => V.ref t.1) its → its = bs.map fun t => Value.ref t.1 := by
  induction bs with
  | nil => intro its h; cases h; rfl
  | cons t bs ih =>
    intro its h
    cases h with
    | cons a r =>
      rw [ih r]
      exact congrArg (· :: _) a
theorem refs_vals (bs : Prs) : Vals (bs.map fun t => V.ref t.1) (bs.map fun t => Value.ref t.1) := by
  induction bs with
  | nil => exact .nil
  | cons t bs ih => exact .cons rfl ih
theorem cr_sortLP (K : PySem.W.Frag) {X : Cx} (hK : X.K = K := by rfl) : CallR X (.builtin "sorted") (rSortLP K) := by
  subst hK
  intro pins s σ H vs us Q I r h
  obtain ⟨a, bs, rfl, hs, tup, q⟩ := h
  obtain ⟨its, rv, hl, hz⟩ := I.list hs
  obtain ⟨u, rfl, ru⟩ := vals1 r
  obtain rfl : u = Value.ref a := ru
  obtain rfl := refs_of rv
  have two : ∀ t ∈ bs, IsTwo s.heap (.ref t.1) t.2 := fun t ht => by
    obtain ⟨its, rv, ⟨o2, e2, c2, n2, d2⟩, _⟩ := I.tuple (tup t ht)
    match its, rv with
    | _, .cons r1 (.cons r2 .nil) =>
      obtain ⟨ta, rfl⟩ := r1
      obtain ⟨tb, rfl⟩ := r2
      exact ⟨t.1, o2, ta, tb, n2, rfl, e2, c2, d2⟩
  obtain ⟨k, hk⟩ := Classical.axiomOfChoice (r := fun (v : Value) (p : Str × Str) => v ∈ (bs.map fun t => Value.ref t.1) → IsTwo s.heap v p) fun v => by
    by_cases hv : v ∈ (bs.map fun t => Value.ref t.1)
    · obtain ⟨t, ht, rfl⟩ := List.mem_map.mp hv
      exact ⟨t.2, fun _ => two t ht⟩
    · exact ⟨("", ""), fun z => absurd z hv⟩
  have kt : ∀ t ∈ bs, k (.ref t.1) = t.2 := fun t ht => two_same (hk _ (List.mem_map_of_mem (f := fun t : Addr × Str × Str => Value.ref t.1) ht)) (two t ht)
  have fits : bs.length ≤ sizeLine := by rw [List.length_map] at hz; exact hz
  refine SrtO.sorted_ord (swoP k) hl.isList (by rw [List.length_map]; exact fits) (fun h2 h₁ a ha kk => ?_) fun out hs hb => ?_
  · refine sortableP (s := { s with heap := h₁ }) (by omega) (fun v hv => (hk v hv).keep fun b ob e _ => (kk b ob e).2) fun ob e => ?_
    have e' := e.symm.trans ha
    cases e'
    intro c
    exact absurd (Value.type.inj c) (by decide)
  · obtain ⟨M, m1, m2⟩ := perm_lift (f := fun t : Addr × Str × Str => Value.ref t.1) hb.perm rfl
    subst m2
    obtain ⟨n, hn⟩ := sortedAll_at s.heap (bs.map fun t => Value.ref t.1) (M.map fun t => Value.ref t.1).toArray
    have kp : ∀ b o, s.heap.get? b = some o → (sortedAll s.heap (bs.map fun t => Value.ref t.1) (M.map fun t => Value.ref t.1).toArray).get? b = some o := fun b o e => sortedAll_old e
    have hd : s.heap.objs.size ≤ s.heap.objs.size + 1 := Nat.le_succ _
    have fr : H (s.heap.objs.size + 1) = none := I.hok.fresh hd
    generalize sortedAll s.heap (bs.map fun t => Value.ref t.1) (M.map fun t => Value.ref t.1).toArray = h' at hn kp ⊢
    generalize s.heap.objs.size + 1 = d at hn hd fr ⊢
    have fz : (M.map fun t => V.ref t.1).length ≤ sizeLine := by rw [List.length_map, m1.length_eq]; exact fits
    have J : Inv X pins σ (upd H d (.lst (M.map fun t => V.ref t.1))) { s with heap := h', toks := s.toks } := I.laid (t' := s.toks) kp hd ⟨fz, M.map fun t => Value.ref t.1, n, refs_vals M, hn⟩
    refine ⟨.ref d, upd H d (.lst (M.map fun t => V.ref t.1)), J, rfl, q M d m1 ?_ fr⟩
    refine (List.pairwise_map.mp hs).imp_of_mem fun {u v} hu hv le => ?_
    have le' : ltP (k (Value.ref v.1)) (k (Value.ref u.1)) = false := le
    rw [kt u (m1.mem_iff.mp hu), kt v (m1.mem_iff.mp hv)] at le'
    exact le'
end EV.Sets
end

section
set_option maxHeartbeats 4000000
local macro_rules | `(tactic| walk_at "za") => `(tactic| (first | exact Or.inl ⟨by omega, by omega⟩ | exact Or.inr ⟨by omega, by omega⟩ | exact ⟨by omega, by omega⟩ | exact ⟨by omega, by omega, by omega⟩ | omega))
local macro_rules | `(tactic| walk_at "z") => `(tactic| (first
  | with_reducible refine EV.z_seq ?_ | with_reducible refine EV.z_next ?_ | with_reducible refine EV.z_nx ?_ | with_reducible refine EV.z_rt ?_ | with_reducible refine EV.z_asg ?_ | with_reducible refine EV.z_name ?_
  | with_reducible refine EV.z_drop ?_ | with_reducible refine EV.z_ret ?_ | with_reducible refine EV.z_if ?_
  | ((with_reducible refine EV.z_var (v := ?vv) ?hv ?_); (case hv => exact rfl)) | with_reducible refine EV.z_c ?_ | with_reducible refine EV.z_op ?_ | with_reducible refine EV.z_un ?_ | with_reducible refine EV.z_I0 ?_ | with_reducible refine EV.z_U ?_ | ((with_reducible refine EV.z_I ?hc ?_); (case hc => walk_at "za"))
  | ((with_reducible refine EV.z_eq ?hv ?_); (case hv => exact rfl)) | ((with_reducible refine EV.z_ne ?hv ?_); (case hv => exact rfl))
  | with_reducible refine EV.z_test ?_ | with_reducible refine EV.z_bl ?_ | with_reducible refine EV.z_B ?_ | with_reducible refine EV.z_and ?_ | with_reducible refine EV.z_or ?_ | with_reducible refine EV.z_not ?_ | with_reducible refine EV.z_andV ?_
  | with_reducible refine EV.z_orV ?_ | with_reducible refine EV.z_notV ?_ | with_reducible refine EV.z_ifE ?_ | with_reducible refine EV.z_nil ?_ | with_reducible refine EV.z_cons ?_ | with_reducible refine EV.z_tup ?_ | with_reducible refine EV.z_lst ?_
  | with_reducible refine EV.z_cb ?_ | with_reducible refine EV.z_call ?_ | with_reducible refine EV.z_dget ?_ | with_reducible refine EV.z_dput ?_ | with_reducible refine EV.z_chain ?_ | with_reducible refine EV.z_then ?_ | with_reducible refine EV.z_fld ?_ | with_reducible refine EV.z_bm ?_
  | with_reducible refine EV.z_par ?_ | with_reducible refine EV.z_par3 ?_ | with_reducible refine EV.z_ex2 ?_ | with_reducible refine EV.z_ex3 ?_ | with_reducible refine EV.z_tyes ?_ | ((with_reducible refine EV.z_wipe ?hv ?_); (case hv => exact rfl))
  | with_reducible refine EV.z_lc ?_ | with_reducible refine EV.z_ltS ?_ | with_reducible refine EV.z_disp ?_ | with_reducible refine EV.z_pc ?_ | with_reducible refine EV.z_pn ?_ | with_reducible refine EV.z_m1 ?_ | with_reducible refine EV.z_isS ?_ | with_reducible refine EV.z_sl ?_ | with_reducible refine EV.z_np ?_ | with_reducible refine EV.z_pt ?_ | with_reducible refine EV.z_exI ?_ | with_reducible refine EV.z_is ?_ | with_reducible refine EV.z_istr ?_ | with_reducible refine EV.z_no ?_ | with_reducible refine EV.z_yes ?_ | with_reducible refine EV.z_for ?_ | with_reducible refine EV.z_il ?_ | with_reducible refine EV.z_it ?_ | with_reducible refine EV.z_r1 ?_ | with_reducible refine EV.z_ik ?_ | with_reducible refine EV.z_din ?_ | with_reducible refine EV.z_dnin ?_ | with_reducible refine EV.z_dsd ?_ | with_reducible refine EV.z_gs ?_ | with_reducible refine EV.z_gc ?_ | with_reducible refine EV.z_gn ?_ | with_reducible refine EV.z_turn ?_))
local macro_rules | `(tactic| walk_at "zz") => `(tactic| repeat walk_at "z")
local macro_rules | `(tactic| walk_at "z") => `(tactic| (first | with_reducible refine EV.z_mt ?_ | with_reducible refine EV.z_cS ?_ | with_reducible refine EV.z_mkO ?_ | with_reducible refine EV.z_mkK ?_))
/-! ### what the law looks at: all calls -/
namespace EV
open PySem PySem.Spec PyProof.Rows L2
theorem bs_at {ds : Bars} {i : Nat} {v : V} (h : (ds.map fun t => V.ref t.1)[i]? = some v) : ∃ t, ds[i]? = some t ∧ v = .ref t.1 := by
  rw [List.getElem?_map] at h
  cases e : ds[i]? with
  | none => rw [e] at h; cases h
  | some t => rw [e] at h; exact ⟨t, rfl, (Option.some.inj h).symm⟩
theorem z_nePs {K : PySem.W.Frag} {H : Hp} {Q : VK} {l m : Addr} {bs cs : Bars} (hl : SqL K H l (bs.map fun t => V.ref t.1)) (hb : ∀ t ∈ bs, SqT K H t.1 [.str t.2.1, .str t.2.2]) (hm : SqL K H m (cs.map fun t => V.ref t.1)) (hc : ∀ t ∈ cs, SqT K H t.1 [.str t.2.1, .str t.2.2])
    (ob : ∀ t ∈ bs, PyData.strOk t.2.1 = true ∧ PyData.strOk t.2.2 = true) (oc : ∀ t ∈ cs, PyData.strOk t.2.1 = true ∧ PyData.strOk t.2.2 = true) (k : Q (.bl (!decide (bs.map (·.2) = cs.map (·.2)))) H) : rNeD K (.ref l) (.ref m) H Q := by
  refine ⟨.list (bs.map fun t => dP t.2), .list (cs.map fun t => dP t.2), .lst hl (dp_pairs hb), .lst hm (dp_pairs hc), sh_dPs ob, sh_dPs oc, ?_⟩
  have e : ∀ bs cs : Bars, PyData.eqvAll (bs.map fun t => dP t.2) (cs.map fun t => dP t.2) = decide (bs.map (·.2) = cs.map (·.2)) := by
    intro bs
    induction bs with
    | nil => intro cs; cases cs <;> rfl
    | cons t bs ih =>
      intro cs
      cases cs with
      | nil => rfl
      | cons u cs =>
        show (PyData.eqv (dP t.2) (dP u.2) && PyData.eqvAll (bs.map fun t => dP t.2) (cs.map fun t => dP t.2)) = _
        rw [eqv_dP, ih cs]
        by_cases a : t.2 = u.2 <;> by_cases b : bs.map (·.2) = cs.map (·.2) <;> simp [a, b]
  show Q (.bl (!PyData.eqvAll _ _)) H
  rw [e]
  exact k
theorem z_neT3 {K : PySem.W.Frag} {H : Hp} {p q : Addr} {xs ys : List Str} {Q : VK} (o1 : ∀ x ∈ xs, PyData.strOk x = true) (o2 : ∀ x ∈ ys, PyData.strOk x = true) (h1 : SqT K H p (xs.map V.str)) (h2 : SqT K H q (ys.map V.str)) (k : Q (.bl (!decide (xs = ys))) H) : rNeD K (.ref p) (.ref q) H Q :=
  ⟨.tuple (xs.map .str), .tuple (ys.map .str), .tup h1 (dpS xs), .tup h2 (dpS ys), shT o1, shT o2, by rw [eqv_tup]; exact k⟩
section
variable {L M M' L2 : Hld} {W W' : Lvs} {bs cs cs' : Bars} {x y : Str}
theorem Cor.even (co : Cor L W bs M W' cs) (G : GD M W' cs) (hx : x ∈ L.map (·.1)) (hy : y ∈ L.map (·.1)) (e : evenF (hLf L) (lfn W) bs x y) : evenF (hLf M) (lfn W') cs x y := by
  obtain ⟨mx, px⟩ := co.at G hx
  obtain ⟨my, py⟩ := co.at G hy
  refine ⟨e.1, fun z => e.2.1 (co.bar.mp z), fun z => e.2.2.1 ((px.symm.trans z).trans py), ?_⟩
  have s : ∀ {z}, z ∈ L.map (·.1) → ((hLf M z).map (lfn W')).sum = ((hLf L z).map (lfn W)).sum := fun {z} hz => by
    obtain ⟨mz, pz⟩ := co.at G hz
    rw [← sum_perm (lfn W) pz]
    exact sum_congr fun u hu => co.lvs u (G.cov mz hu)
  rw [s hx, s hy]
  exact e.2.2.2
theorem Cor.metP (c : Cor L W bs M W' cs) (G : GD M W' cs) (G' : GD M' W' cs') (hx : x ∈ L.map (·.1)) (hy : y ∈ L.map (·.1)) (en : M'.map (·.1) = M.map (·.1)) (ec : cs'.map (·.2) = cs.map (·.2)) (al : Alk (M.map (·.1)) (hLf M') (stp (hLf M) x y))
    (n2 : L2.map (·.1) = L.map (·.1)) (h2 : Alk (L.map (·.1)) (hLf L2) (stp (hLf L) x y)) : Cor L2 W bs M' W' cs' := by
  have aL : Alk (M.map (·.1)) (hLf M) (hLf L) := fun z hz => (c.at G (c.names.mem_iff.mp hz)).2
  have a2 := stp_alk (fun z hz => G.nds hz) aL (c.at G hx).1 (c.at G hy).1
  refine ⟨by rw [en, n2]; exact c.names, fun t ht => ?_, c.lvs, fun q => by rw [ec]; exact c.bars q⟩
  have m : t.1 ∈ M.map (·.1) := by rw [← en]; exact List.mem_map_of_mem ht
  have p := (al t.1 m).trans ((a2 t.1 m).trans (h2 t.1 (c.names.mem_iff.mp m)).symm)
  rwa [hLf_of G'.nd ht] at p
end
/-- (group, other, one) -/
def pmC : {α : Type} → List α → List α
  | _, [a, b, c] => [a, c, b]
  | _, l => l
abbrev ksC : List Str := ["group", "other", "one"]
def spCallsR (C : Addr) : Sp := fun vs H Q _ => ∃ (F : Hp) (g wa hd lv br : Addr) (L M : Hld) (W W' : Lvs) (bs cs : Bars), vs = [.ref g, .ref wa] ∧ Sub F H ∧ Wd F wa hd lv br L W bs ∧ WD L W bs ∧ (bs.map (·.2)).Nodup ∧ Gr F C g M W' cs ∧ Cor L W bs M W' cs ∧ ∀ F' H', Nx No F H F' H' → Q (.bl true) H'
theorem pw_ris {bs : Bars} (nd : (bs.map (·.2)).Nodup) (h : bs.Pairwise fun u v => Sets.ltP v.2 u.2 = false) : RisP bs := by
  have n : bs.Pairwise fun u v => u.2 ≠ v.2 := List.pairwise_map.mp nd
  refine (n.and h).imp fun {u v} ⟨ne, le⟩ => ?_
  exact (Sets.ltP_tri ne).resolve_right (by rw [le]; exact Bool.false_ne_true)
end EV
end

section
set_option maxHeartbeats 4000000
local macro_rules | `(tactic| walk_at "za") => `(tactic| (first | exact Or.inl ⟨by omega, by omega⟩ | exact Or.inr ⟨by omega, by omega⟩ | exact ⟨by omega, by omega⟩ | exact ⟨by omega, by omega, by omega⟩ | omega))
local macro_rules | `(tactic| walk_at "z") => `(tactic| (first
  | with_reducible refine EV.z_seq ?_ | with_reducible refine EV.z_next ?_ | with_reducible refine EV.z_nx ?_ | with_reducible refine EV.z_rt ?_ | with_reducible refine EV.z_asg ?_ | with_reducible refine EV.z_name ?_
  | with_reducible refine EV.z_drop ?_ | with_reducible refine EV.z_ret ?_ | with_reducible refine EV.z_if ?_
  | ((with_reducible refine EV.z_var (v := ?vv) ?hv ?_); (case hv => exact rfl)) | with_reducible refine EV.z_c ?_ | with_reducible refine EV.z_op ?_ | with_reducible refine EV.z_un ?_ | with_reducible refine EV.z_I0 ?_ | with_reducible refine EV.z_U ?_ | ((with_reducible refine EV.z_I ?hc ?_); (case hc => walk_at "za"))
  | ((with_reducible refine EV.z_eq ?hv ?_); (case hv => exact rfl)) | ((with_reducible refine EV.z_ne ?hv ?_); (case hv => exact rfl))
  | with_reducible refine EV.z_test ?_ | with_reducible refine EV.z_bl ?_ | with_reducible refine EV.z_B ?_ | with_reducible refine EV.z_and ?_ | with_reducible refine EV.z_or ?_ | with_reducible refine EV.z_not ?_ | with_reducible refine EV.z_andV ?_
  | with_reducible refine EV.z_orV ?_ | with_reducible refine EV.z_notV ?_ | with_reducible refine EV.z_ifE ?_ | with_reducible refine EV.z_nil ?_ | with_reducible refine EV.z_cons ?_ | with_reducible refine EV.z_tup ?_ | with_reducible refine EV.z_lst ?_
  | with_reducible refine EV.z_cb ?_ | with_reducible refine EV.z_call ?_ | with_reducible refine EV.z_dget ?_ | with_reducible refine EV.z_dput ?_ | with_reducible refine EV.z_chain ?_ | with_reducible refine EV.z_then ?_ | with_reducible refine EV.z_fld ?_ | with_reducible refine EV.z_bm ?_
  | with_reducible refine EV.z_par ?_ | with_reducible refine EV.z_par3 ?_ | with_reducible refine EV.z_ex2 ?_ | with_reducible refine EV.z_ex3 ?_ | with_reducible refine EV.z_tyes ?_ | ((with_reducible refine EV.z_wipe ?hv ?_); (case hv => exact rfl))
  | with_reducible refine EV.z_lc ?_ | with_reducible refine EV.z_ltS ?_ | with_reducible refine EV.z_disp ?_ | with_reducible refine EV.z_pc ?_ | with_reducible refine EV.z_pn ?_ | with_reducible refine EV.z_m1 ?_ | with_reducible refine EV.z_isS ?_ | with_reducible refine EV.z_sl ?_ | with_reducible refine EV.z_np ?_ | with_reducible refine EV.z_pt ?_ | with_reducible refine EV.z_exI ?_ | with_reducible refine EV.z_is ?_ | with_reducible refine EV.z_istr ?_ | with_reducible refine EV.z_no ?_ | with_reducible refine EV.z_yes ?_ | with_reducible refine EV.z_for ?_ | with_reducible refine EV.z_il ?_ | with_reducible refine EV.z_it ?_ | with_reducible refine EV.z_r1 ?_ | with_reducible refine EV.z_ik ?_ | with_reducible refine EV.z_din ?_ | with_reducible refine EV.z_dnin ?_ | with_reducible refine EV.z_dsd ?_ | with_reducible refine EV.z_gs ?_ | with_reducible refine EV.z_gc ?_ | with_reducible refine EV.z_gn ?_ | with_reducible refine EV.z_turn ?_))
local macro_rules | `(tactic| walk_at "zz") => `(tactic| repeat walk_at "z")
local macro_rules | `(tactic| walk_at "z") => `(tactic| (first | with_reducible refine EV.z_mt ?_ | with_reducible refine EV.z_cS ?_ | with_reducible refine EV.z_mkO ?_ | with_reducible refine EV.z_mkK ?_))
/-! ### the text the law finds -/
namespace EV
open PySem PySem.Spec PyProof.Rows L2 TT
def spLText : Sp := fun vs H Q _ => ∃ (F : Hp) (wa hd lv br : Addr) (L : Hld) (W : Lvs) (bs : Bars) (M : Hld) (V' : Lvs) (cs : Bars), vs = [.ref wa] ∧ Sub F H ∧ Wd F wa hd lv br L W bs ∧ WD L W bs ∧ (bs.map (·.2)).Nodup ∧ GD M V' cs ∧ Cor L W bs M V' cs ∧ ∀ H', Nx No F H F H' → Q (.str (gText M V' cs)) H'
theorem row_page (s f : Str) : (Str.ofString "page ") ++ s ++ (Str.ofString " ") ++ f = rowT [wPage, s, f] := by
  rw [row3, show (Str.ofString "page " : Str) = wPage ++ blank by decide +kernel, app_assoc, app_assoc, app_assoc, app_assoc, app_assoc]
theorem row_bar (s f : Str) : (Str.ofString "bar ") ++ s ++ (Str.ofString " ") ++ f = rowT [wBar, s, f] := by
  rw [row3, show (Str.ofString "bar " : Str) = wBar ++ blank by decide +kernel, app_assoc, app_assoc, app_assoc, app_assoc, app_assoc]
theorem Cor.val {L M : Hld} {W V' : Lvs} {bs cs : Bars} (D : WD L W bs) (G : GD M V' cs) (c : Cor L W bs M V' cs) {u : Str} (hu : u ∈ V'.map (·.1)) : valV (lvK W) (key u) = some (.int (lfn V' u)) := by
  rw [c.lvs u hu]; exact lv_val ((c.mem D G u).mp hu)
abbrev s_text : Stmt := top 45
abbrev N_text : List Str := ["world", "person", "rows", "sheet", "pair", "row"]
abbrev P_text : List Str := ["world"]
theorem sc_text : FnScope N_text P_text (defScope s_text) := ⟨rfl, rfl, rfl, by decide +kernel, rfl, by decide +kernel, by decide +kernel⟩
section
variable {P : Program} {w : World} {K : PySem.W.Frag} {mg : Str → Option Value} {base : Heap} {C : Addr}
theorem ok_text (T : Txt mg) {f fd} (D : C8.Def K mg "_law_text" s_text f fd) (b : Binds K fd P_text []) : C8.Cal P w K mg base 1 "_law_text" spLText [] := by
  refine C8.cal0 D b .nil sc_text (fun vs H Q E h => ?_) (fun cdv A outer s H vs Q E hr h => ?_)
  · obtain ⟨F, wa, hd, lv, br, L, W, bs, M, V', cs, rfl, _⟩ := h
    rfl
  · obtain ⟨F, wa, hd, lv, br, L, W, bs, M, V', cs, rfl, sF, d, D, bn, G, co, k⟩ := h
    have hu := hu_of hr
    have l6 := D.n6
    have w12 := D.wl
    have n6 := G.d.n6
    have v12 := G.d.wl
    have b36 := D.b36
    have c36 := G.d.b36
    have few := G.few
    have okN : ∀ x ∈ L.map (·.1), PyData.strOk x = true := fun x hx => by
      obtain ⟨t, ht, rfl⟩ := List.mem_map.mp hx
      exact (D.nm t ht).ok
    refine ⟨_, (pss_cons (ps_setLc (i := 2) (own := [("person", 1)]) rfl sc_text.nd rfl rfl (sw_true rfl rfl rfl (by decide +kernel)) (k_pil K (pe_callB (call_sortedD rfl) rfl T.b_sorted (by decide +kernel) (pa_cons (pe_dget hu (pv 0) pe_str (fun _ _ => rfl)) pa_nil))) (blkOk_by (N := N_text) (sc := defScope s_text) (by decide +kernel)) (fun _ _ _ _ _ => (pg_name (i := 1) sc_text.nd rfl (Or.inl rfl))) (fun _ _ _ _ _ => pts_nil) (fun _ _ _ _ _ => (k_join K pe_str (pe_op op_cat (pe_lst (pa_cons pe_str (pa_cons (pv 1) pa_nil))) (pe_callB (k_sortedS K) rfl T.b_sorted (by decide +kernel) (pa_cons (pe_dget hu (pe_dget hu (pv 0) pe_str (fun _ _ => rfl)) (pv 1) (fun _ _ => rfl)) pa_nil))))))
  (pss_cons (ps_for PassesOwn.never rfl (k_pil K (pe_callB (call_sortedD rfl) rfl T.b_sorted (by decide +kernel) (pa_cons (pe_dget hu (pv 0) pe_str (fun _ _ => rfl)) pa_nil))) (pg_name (i := 3) sc_text.nd rfl (Or.inl rfl))
    (pss_one (ps_if (pt_cmpR op_gt (pe_dget hu (pe_dget hu (pv 0) pe_str (fun _ _ => rfl)) (pv 3) (fun _ _ => rfl)) pe_int (nomark _))
    (pss_one (ps_expr (k_append K (pv 2) (pa_cons (pe_op k_addS (pe_op k_addS (pe_op k_addS pe_str (pv 3)) pe_str) (pe_callTy call_str_int rfl T.b_str (by decide +kernel) (pa_cons (pe_dget hu (pe_dget hu (pv 0) pe_str (fun _ _ => rfl)) (pv 3) (fun _ _ => rfl)) pa_nil))) pa_nil))))
    pss_nil)))
  (pss_cons (ps_for PassesOwn.never rfl (k_pil K (pe_callB (Sets.cr_sortLP K) rfl T.b_sorted (by decide +kernel) (pa_cons (pe_dget hu (pv 0) pe_str (fun _ _ => rfl)) pa_nil))) (pg_name (i := 4) sc_text.nd rfl (Or.inl rfl))
    (pss_one (ps_expr (k_append K (pv 2) (pa_cons (pe_op k_addS (pe_op k_addS (pe_op k_addS pe_str (pe_ix (k_ixT K) (pv 4) pe_int (fun _ _ => rfl))) pe_str) (pe_ix (k_ixT K) (pv 4) pe_int (fun _ _ => rfl))) pa_nil)))))
  (pss_one (ps_ret (k_join K pe_str (pe_lc (own := [("row", 5)]) rfl sc_text.nd (k_pil K (pv 2)) (blkOk_by (N := N_text) (sc := defScope s_text) (by decide +kernel)) (fun _ _ _ _ _ => (pg_name (i := 5) sc_text.nd rfl (Or.inl rfl))) (fun _ _ _ _ _ => pts_nil) (fun _ _ _ _ _ => (pe_op k_addS (pv 5) pe_str))))))))), ?_⟩
    walk_at "zz"
    refine z_dgetR (sF.rd d.hw) w_held ?_
    walk_at "zz"
    refine ⟨hd, _, L.map (·.1), rfl, sF.rd d.hh, by rw [heldK, List.map_map, List.map_map]; rfl, by rw [List.length_map]; omega, fun ys l pm srt hl => ?_⟩
    have ey : ys = M.map (·.1) := (srt_of srt).eq G.names (pm.trans co.names.symm)
    subst ey
    have Z1 := (Nx.refl (M := No) sF).trans (Nx.lay (M := No) (o := .lst ((M.map (·.1)).map V.str)) sF hl)
    have fl := sF.none hl
    have g1 : (upd F l (.lst ((M.map (·.1)).map V.str))) l = some (.lst ((M.map (·.1)).map V.str)) := upd_same
    have d1 : Wd (upd F l (.lst ((M.map (·.1)).map V.str))) wa hd lv br L W bs := d.sub fun x o h => upd_keep h fl
    generalize upd F l (.lst ((M.map (·.1)).map V.str)) = F1 at Z1 g1 d1
    generalize upd H l (.lst ((M.map (·.1)).map V.str)) = H1 at Z1 ⊢
    refine ⟨l, rfl, ⟨_, Z1.sub.sql g1⟩, fun D' hD => ?_⟩
    have fD := Z1.sub.none hD
    have hD0 := Z1.old hD
    refine lc_it (walk_list (xs := (M.map (·.1)).map V.str)) (fun i H' => Nx No F H F1 H' ∧ H' D' = some (.lst (((rowsH (M.take i)).map rowT).map V.str))) ⟨Z1.trans (Nx.mak Z1.sub hD), upd_same⟩ (fun i H' _ h => h.1.sub.sql g1) ?_ ?_
    · rintro i v H3 H4 hi ⟨N3, h3⟩ ⟨rfl, hv⟩
      obtain ⟨n, hn, rfl⟩ := at_str hv
      have nin := List.mem_of_getElem? hn
      have nL := co.names.mem_iff.mp nin
      obtain ⟨u, hu', eu⟩ := List.mem_map.mp nL
      subst eu
      obtain ⟨t, ht, et⟩ : ∃ t, M[i]? = some t ∧ t.1 = u.1 := by
        rw [List.getElem?_map] at hn
        cases e : M[i]? with
        | none => rw [e] at hn; cases hn
        | some t => rw [e] at hn; exact ⟨t, rfl, Option.some.inj hn⟩
      have tm := List.mem_of_getElem? ht
      have il : i < M.length := (List.getElem?_eq_some_iff.mp ht).1
      walk_at "zz"
      refine ⟨sz (by show 2 ≤ 100000; decide), fun q hq => ?_⟩
      have N4 := N3.trans (Nx.mak (M := No) (o := .lst ([wHold, u.1].map V.str)) N3.sub hq)
      have h4 := upd_keep (o := .lst ([wHold, u.1].map V.str)) h3 hq
      have q4 : (upd H4 q (.lst ([wHold, u.1].map V.str))) q = some (.lst ([wHold, u.1].map V.str)) := upd_same
      rw [show [V.str wHold, V.str u.1] = [wHold, u.1].map V.str from rfl]
      generalize upd H4 q (.lst ([wHold, u.1].map V.str)) = H5 at N4 h4 q4 ⊢
      walk_at "zz"
      refine z_dgetR (N4.sub.rd d1.hw) w_held ?_
      walk_at "zz"
      refine z_dgetR (N4.sub.rd d1.hh) (held_val D.nd hu') ?_
      walk_at "zz"
      have up := D.pl hu'
      refine z_sorted (N4.sub.sql (d1.ha u hu')) (by omega) fun ys l2 pm2 srt2 hl2 => ?_
      have ep := (co.at G nL).2
      rw [hLf_of D.nd hu'] at ep
      have ey : ys = hLf M u.1 := (srt_of srt2).eq (G.srt nin) (pm2.trans ep.symm)
      subst ey
      have N5 := N4.trans (Nx.mak (M := No) (o := .lst ((hLf M u.1).map V.str)) N4.sub hl2)
      have h5 := upd_keep (o := .lst ((hLf M u.1).map V.str)) h4 hl2
      have q5 := upd_keep (o := .lst ((hLf M u.1).map V.str)) q4 hl2
      have l5 : (upd H5 l2 (.lst ((hLf M u.1).map V.str))) l2 = some (.lst ((hLf M u.1).map V.str)) := upd_same
      generalize upd H5 l2 (.lst ((hLf M u.1).map V.str)) = H6 at N5 h5 q5 l5 ⊢
      have h12 := G.l12 nin
      walk_at "zz"
      refine z_cat q5 l5 (by rw [List.length_map, List.length_map]; simp only [List.length_cons, List.length_nil]; omega) fun r hr' => ?_
      rw [← List.map_append]
      have N6 := N5.trans (Nx.mak (M := No) (o := .lst (([wHold, u.1] ++ hLf M u.1).map V.str)) N5.sub hr')
      have h6 := upd_keep (o := .lst (([wHold, u.1] ++ hLf M u.1).map V.str)) h5 hr'
      have r6 : (upd H6 r (.lst (([wHold, u.1] ++ hLf M u.1).map V.str))) r = some (.lst (([wHold, u.1] ++ hLf M u.1).map V.str)) := upd_same
      have row_in : ([wHold, u.1] ++ hLf M u.1) ∈ gRows M V' cs := by
        refine List.mem_append_left _ (List.mem_append_left _ (List.mem_map.mpr ⟨t, tm, ?_⟩))
        rw [← et, hLf_of G.nd tm]; rfl
      obtain ⟨w14, wr⟩ := few.2 _ row_in
      have ts : (([wHold, u.1] ++ hLf M u.1).map (·.length)).sum ≤ ([wHold, u.1] ++ hLf M u.1).length * 6 := by
        have := sum_le_mul (n := 6) (l := ([wHold, u.1] ++ hLf M u.1).map (·.length)) fun x hx => by
          obtain ⟨r, hr', rfl⟩ := List.mem_map.mp hx
          exact wr r hr'
        rwa [List.length_map] at this
      generalize upd H6 r (.lst (([wHold, u.1] ++ hLf M u.1).map V.str)) = H7 at N6 h6 r6 ⊢
      walk_at "zz"
      refine z_join (SqL.of r6) (by rw [show (Str.ofString " ").length = 1 from rfl]; omega) ?_
      refine ⟨_, h6, szl (by rw [List.length_map, List.length_map, rowsH, List.length_map, List.length_take]; omega), N6.wr (.inl hD0) fD, ?_⟩
      rw [upd_same, take_step ht, rowsH, rowsH, List.map_append, List.map_append, List.map_append]
      have e : rowT ([wHold, u.1] ++ hLf M u.1) = rowT (wHold :: t.1 :: t.2.2) := by rw [← et, hLf_of G.nd tm]; rfl
      show some (HO.lst (_ ++ [V.str (rowT ([wHold, u.1] ++ hLf M u.1))])) = _
      rw [e]; rfl
    · rintro H3 ⟨N3, h3⟩
      rw [List.length_map, List.length_map, List.take_length] at h3
      walk_at "zz"
      refine z_dgetR (N3.sub.rd d1.hw) w_leaves ?_
      walk_at "zz"
      refine ⟨lv, _, W.map (·.1), rfl, N3.sub.rd d1.hv, by rw [lvK, List.map_map, List.map_map]; rfl, by rw [List.length_map]; omega, fun ys l2 pm2 srt2 hl2 => ?_⟩
      have ey : ys = V'.map (·.1) := srt_eq (srt_of srt2) G.lvs (pm2.nodup_iff.mpr D.wn) G.d.wn fun y => pm2.mem_iff.trans (co.mem D G y).symm
      subst ey
      have fl2 := N3.sub.none hl2
      have N4 := N3.trans (Nx.lay (M := No) (o := .lst ((V'.map (·.1)).map V.str)) N3.sub hl2)
      have g4 : (upd F1 l2 (.lst ((V'.map (·.1)).map V.str))) l2 = some (.lst ((V'.map (·.1)).map V.str)) := upd_same
      have h4 := upd_keep (o := .lst ((V'.map (·.1)).map V.str)) h3 hl2
      have d4 : Wd (upd F1 l2 (.lst ((V'.map (·.1)).map V.str))) wa hd lv br L W bs := d1.sub fun x o h => upd_keep h fl2
      have fD4 : (upd F1 l2 (.lst ((V'.map (·.1)).map V.str))) D' = none := by rw [upd_ne (ne_of_none h3 hl2)]; exact fD
      generalize upd F1 l2 (.lst ((V'.map (·.1)).map V.str)) = F4 at N4 g4 d4 fD4
      generalize upd H3 l2 (.lst ((V'.map (·.1)).map V.str)) = H4 at N4 h4 ⊢
      clear N3 h3 d1 fD g1 Z1
      have hl0 : (rowsH M).length ≤ 6 := by rw [rowsH, List.length_map]; omega
      have pl0 : ∀ i, (rowsP (V'.take i)).length ≤ 12 := fun i => by
        rw [rowsP, List.length_map]
        have f := List.length_filter_le (fun q : Str × Int => decide (1 < q.2)) (V'.take i)
        rw [List.length_take] at f
        omega
      refine z_loopL (xs := (V'.map (·.1)).map V.str) (N4.sub.sql g4) (fun i σ' H' => ∃ v3 : Option V, σ' = [some (.ref wa), none, some (.ref D'), v3, none, none] ∧ Nx No F H F4 H' ∧ H' D' = some (.lst (((rowsH M ++ rowsP (V'.take i)).map rowT).map V.str)))
        ⟨none, rfl, N4, by rw [List.take_zero, show rowsP [] = [] from rfl, List.append_nil]; exact h4⟩ (fun i σ' H' _ ⟨_, _, N, _⟩ => N.sub.sql g4) ?_ ?_
      · rintro i v σ' H5 hi ⟨v3, rfl, N5, h5⟩
        obtain ⟨n, hn, rfl⟩ := at_str hi
        obtain ⟨q, hq, rfl⟩ := lv_get hn
        have qm := List.mem_of_getElem? hq
        have val := co.val D G (List.mem_map_of_mem qm)
        rw [lfn_mem G.d.wn qm] at val
        have w19 := G.d.w19 qm
        have nlq : q.1.length ≤ 6 := by
          have := (G.d.wNm (List.mem_map_of_mem qm)).2.1
          rw [Array.length_toList] at this
          exact this
        have flq := (fig_ok w19.1 w19.2).2
        walk_at "zz"
        refine z_dgetR (N5.sub.rd d4.hw) w_leaves ?_
        walk_at "zz"
        refine z_dgetR (N5.sub.rd d4.hv) val ?_
        walk_at "zz"
        refine z_ite (fun lt => ?_) (fun nlt => ?_)
        · walk_at "zz"
          refine ⟨.inl ⟨rfl, _, SqL.of h5⟩, ?_⟩
          walk_at "zz"
          refine z_addS (sz (by show (Str.ofString "page ").length + q.1.length ≤ 100000; rw [show (Str.ofString "page ").length = 5 from rfl]; omega)) ?_
          walk_at "zz"
          refine z_addS (sz (by rw [len_app, show (Str.ofString "page ").length = 5 from rfl, show (Str.ofString " ").length = 1 from rfl]; omega)) ?_
          walk_at "zz"
          refine z_dgetR (N5.sub.rd d4.hw) w_leaves ?_
          walk_at "zz"
          refine z_dgetR (N5.sub.rd d4.hv) val ?_
          walk_at "zz"
          refine ⟨q.2, rfl, strI_ok w19.1 w19.2, ?_⟩
          walk_at "zz"
          refine z_addS (sz (by rw [len_app, len_app, show (Str.ofString "page ").length = 5 from rfl, show (Str.ofString " ").length = 1 from rfl, flq]; omega)) ?_
          walk_at "zz"
          rw [row_page]
          refine z_app h5 (by rw [List.length_map, List.length_map, List.length_append]; have := pl0 i; omega) ?_
          refine ⟨_, rfl, N5.wr (.inl hD0) fD4, ?_⟩
          rw [upd_same, rowsP_step hq, if_pos lt]
          simp only [List.map_append, List.map_cons, List.map_nil, List.append_assoc]
        · walk_at "zz"
          refine ⟨_, rfl, N5, ?_⟩
          rw [h5, rowsP_step hq, if_neg nlt, List.append_nil]
      · rintro σ' H5 ⟨v3, rfl, N5, h5⟩
        rw [List.length_map, List.length_map, List.take_length] at h5
        have pl1 := pl0 V'.length
        rw [List.take_length] at pl1
        walk_at "zz"
        refine z_dgetR (N5.sub.rd d4.hw) w_bars ?_
        walk_at "zz"
        refine ⟨br, bs, rfl, N5.sub.sql d4.hb, fun u hu' => N5.sub.sqt (d4.ba u hu'), fun es r2 pm2 pw2 hr2 => ?_⟩
        have ee : es.map (·.2) = cs.map (·.2) := risP_eq (pw_ris ((pm2.map (·.2)).nodup_iff.mpr bn) pw2) G.bars fun q => (pm2.map (·.2)).mem_iff.trans (co.bars q).symm
        have el : es.length = cs.length := by have := congrArg List.length ee; simpa using this
        have fr := N5.sub.none hr2
        have N6 := N5.trans (Nx.lay (M := No) (o := .lst (es.map fun t => V.ref t.1)) N5.sub hr2)
        have g6 : (upd F4 r2 (.lst (es.map fun t => V.ref t.1))) r2 = some (.lst (es.map fun t => V.ref t.1)) := upd_same
        have h6 := upd_keep (o := .lst (es.map fun t => V.ref t.1)) h5 hr2
        have d6 : Wd (upd F4 r2 (.lst (es.map fun t => V.ref t.1))) wa hd lv br L W bs := d4.sub fun x o h => upd_keep h fr
        have fD6 : (upd F4 r2 (.lst (es.map fun t => V.ref t.1))) D' = none := by rw [upd_ne (ne_of_none h5 hr2)]; exact fD4
        generalize upd F4 r2 (.lst (es.map fun t => V.ref t.1)) = F6 at N6 g6 d6 fD6
        generalize upd H5 r2 (.lst (es.map fun t => V.ref t.1)) = H6 at N6 h6 ⊢
        clear N5 h5 d4 fD4 g4 N4 h4
        walk_at "zz"
        refine z_loopL (xs := es.map fun t => V.ref t.1) (N6.sub.sql g6) (fun i σ' H' => ∃ v4 : Option V, σ' = [some (.ref wa), none, some (.ref D'), v3, v4, none] ∧ Nx No F H F6 H' ∧ H' D' = some (.lst (((rowsH M ++ rowsP V' ++ rowsB (es.take i)).map rowT).map V.str)))
          ⟨none, rfl, N6, by rw [List.take_zero, show rowsB [] = [] from rfl, List.append_nil]; exact h6⟩ (fun i σ' H' _ ⟨_, _, N, _⟩ => N.sub.sql g6) ?_ ?_
        · rintro i v σ' H7 hi ⟨v4, rfl, N7, h7⟩
          obtain ⟨t, ht, rfl⟩ := bs_at hi
          have tm := List.mem_of_getElem? ht
          have il : i < es.length := (List.getElem?_eq_some_iff.mp ht).1
          have tb := d6.ba t (pm2.mem_iff.mp tm)
          obtain ⟨m1, m2, _⟩ := D.bk t (pm2.mem_iff.mp tm)
          have nl : ∀ {x : Str}, x ∈ L.map (·.1) → x.length ≤ 6 := fun {x} hx => by
            obtain ⟨u, hu', rfl⟩ := List.mem_map.mp hx
            have := (D.nm u hu').2.1
            rw [Array.length_toList] at this
            exact this
          have n1 := nl m1
          have n2 := nl m2
          walk_at "zz"
          refine ⟨.inl ⟨rfl, _, SqL.of h7⟩, ?_⟩
          walk_at "zz"
          refine z_ixT (i := 0) (N7.sub.sqt tb) (atI_nat (j := 0) rfl) ?_
          walk_at "zz"
          refine z_addS (sz (by rw [show (Str.ofString "bar ").length = 4 from rfl]; omega)) ?_
          walk_at "zz"
          refine z_addS (sz (by rw [len_app, show (Str.ofString "bar ").length = 4 from rfl, show (Str.ofString " ").length = 1 from rfl]; omega)) ?_
          walk_at "zz"
          refine z_ixT (i := 1) (N7.sub.sqt tb) (atI_nat (j := 1) rfl) ?_
          walk_at "zz"
          refine z_addS (sz (by rw [len_app, len_app, show (Str.ofString "bar ").length = 4 from rfl, show (Str.ofString " ").length = 1 from rfl]; omega)) ?_
          walk_at "zz"
          rw [row_bar]
          have bl : (rowsB (es.take i)).length ≤ 36 := by rw [rowsB, List.length_map, List.length_take]; omega
          refine z_app h7 (by rw [List.length_map, List.length_map, List.length_append, List.length_append]; omega) ?_
          refine ⟨_, rfl, N7.wr (.inl hD0) fD6, ?_⟩
          rw [upd_same, take_step ht, show rowsB (es.take i ++ [t]) = rowsB (es.take i) ++ [[wBar, t.2.1, t.2.2]] by rw [rowsB, List.map_append]; rfl]
          simp only [List.map_append, List.map_cons, List.map_nil, List.append_assoc]
        · rintro σ' H7 ⟨v4, rfl, N7, h7⟩
          rw [List.length_map, List.take_length] at h7
          have eB : rowsB es = rowsB cs := by
            have k : ∀ z : Bars, rowsB z = (z.map (·.2)).map fun q => [wBar, q.1, q.2] := fun z => by rw [rowsB, List.map_map]; rfl
            rw [k, k, ee]
          rw [eB, show rowsH M ++ rowsP V' ++ rowsB cs = gRows M V' cs from rfl] at h7
          walk_at "zz"
          have rl : ∀ x ∈ (gRows M V' cs).map rowT, x.length ≤ 98 := fun x hx => by
            obtain ⟨ws, hw, rfl⟩ := List.mem_map.mp hx
            obtain ⟨w14, wr⟩ := few.2 ws hw
            have rl := row_len wr
            have := Nat.mul_le_mul_right 7 w14
            omega
          have gl := few.1
          refine ⟨D', rfl, ⟨_, SqL.of h7⟩, fun E3 hE3 => ?_⟩
          have fE3 := N7.sub.none hE3
          have hE30 := N7.old hE3
          have DE3 : D' ≠ E3 := ne_of_none h7 hE3
          refine lc_it (walk_list (xs := ((gRows M V' cs).map rowT).map V.str)) (fun i H' => Nx No F H F6 H' ∧ H' D' = some (.lst (((gRows M V' cs).map rowT).map V.str)) ∧ H' E3 = some (.lst (((((gRows M V' cs).map rowT).take i).map (· ++ feed)).map V.str)))
            ⟨N7.trans (Nx.mak N7.sub hE3), upd_keep h7 hE3, upd_same⟩ (fun i H' _ h => SqL.of h.2.1) ?_ ?_
          · rintro i v H8 H9 hi ⟨N8, h8, g8⟩ ⟨rfl, hv⟩
            obtain ⟨x, hx, rfl⟩ := at_str hv
            have xl := rl x (List.mem_of_getElem? hx)
            have il : i < ((gRows M V' cs).map rowT).length := (List.getElem?_eq_some_iff.mp hx).1
            rw [List.length_map] at il
            walk_at "zz"
            refine z_addS (sz (by rw [show (Str.ofString "\n").length = 1 from rfl]; omega)) ?_
            refine ⟨_, g8, szl (by rw [List.length_map, List.length_map, List.length_take, List.length_map]; omega), N8.wr (.inl hE30) fE3, by rw [upd_ne DE3]; exact h8, ?_⟩
            rw [upd_same, take_step hx, List.map_append, List.map_append]; rfl
          · rintro H8 ⟨N8, h8, g8⟩
            rw [List.length_map, List.take_length] at g8
            walk_at "zz"
            have rl2 : ∀ x ∈ ((gRows M V' cs).map rowT).map (· ++ feed), x.length ≤ 99 := fun x hx => by
              obtain ⟨y, hy, rfl⟩ := List.mem_map.mp hx
              have := rl y hy
              show (y ++ feed).length ≤ 99
              rw [len_app]
              have e1 : feed.length = 1 := rfl
              omega
            refine z_join (SqL.of g8) ?_ ?_
            · have := sum_le_mul (n := 99) (l := (((gRows M V' cs).map rowT).map (· ++ feed)).map (·.length)) fun x hx => by
                obtain ⟨r, hr', rfl⟩ := List.mem_map.mp hx
                exact rl2 r hr'
              rw [List.length_map, List.length_map, List.length_map] at this
              rw [show (Str.ofString "").length = 0 from rfl, List.length_map, List.length_map]
              omega
            · show Q (.str (gText M V' cs)) H8
              exact k H8 N8.back
end
end EV
end

section
set_option maxHeartbeats 4000000
local macro_rules | `(tactic| walk_at "za") => `(tactic| (first | exact Or.inl ⟨by omega, by omega⟩ | exact Or.inr ⟨by omega, by omega⟩ | exact ⟨by omega, by omega⟩ | exact ⟨by omega, by omega, by omega⟩ | omega))
local macro_rules | `(tactic| walk_at "z") => `(tactic| (first
  | with_reducible refine EV.z_seq ?_ | with_reducible refine EV.z_next ?_ | with_reducible refine EV.z_nx ?_ | with_reducible refine EV.z_rt ?_ | with_reducible refine EV.z_asg ?_ | with_reducible refine EV.z_name ?_
  | with_reducible refine EV.z_drop ?_ | with_reducible refine EV.z_ret ?_ | with_reducible refine EV.z_if ?_
  | ((with_reducible refine EV.z_var (v := ?vv) ?hv ?_); (case hv => exact rfl)) | with_reducible refine EV.z_c ?_ | with_reducible refine EV.z_op ?_ | with_reducible refine EV.z_un ?_ | with_reducible refine EV.z_I0 ?_ | with_reducible refine EV.z_U ?_ | ((with_reducible refine EV.z_I ?hc ?_); (case hc => walk_at "za"))
  | ((with_reducible refine EV.z_eq ?hv ?_); (case hv => exact rfl)) | ((with_reducible refine EV.z_ne ?hv ?_); (case hv => exact rfl))
  | with_reducible refine EV.z_test ?_ | with_reducible refine EV.z_bl ?_ | with_reducible refine EV.z_B ?_ | with_reducible refine EV.z_and ?_ | with_reducible refine EV.z_or ?_ | with_reducible refine EV.z_not ?_ | with_reducible refine EV.z_andV ?_
  | with_reducible refine EV.z_orV ?_ | with_reducible refine EV.z_notV ?_ | with_reducible refine EV.z_ifE ?_ | with_reducible refine EV.z_nil ?_ | with_reducible refine EV.z_cons ?_ | with_reducible refine EV.z_tup ?_ | with_reducible refine EV.z_lst ?_
  | with_reducible refine EV.z_cb ?_ | with_reducible refine EV.z_call ?_ | with_reducible refine EV.z_dget ?_ | with_reducible refine EV.z_dput ?_ | with_reducible refine EV.z_chain ?_ | with_reducible refine EV.z_then ?_ | with_reducible refine EV.z_fld ?_ | with_reducible refine EV.z_bm ?_
  | with_reducible refine EV.z_par ?_ | with_reducible refine EV.z_par3 ?_ | with_reducible refine EV.z_ex2 ?_ | with_reducible refine EV.z_ex3 ?_ | with_reducible refine EV.z_tyes ?_ | ((with_reducible refine EV.z_wipe ?hv ?_); (case hv => exact rfl))
  | with_reducible refine EV.z_lc ?_ | with_reducible refine EV.z_ltS ?_ | with_reducible refine EV.z_disp ?_ | with_reducible refine EV.z_pc ?_ | with_reducible refine EV.z_pn ?_ | with_reducible refine EV.z_m1 ?_ | with_reducible refine EV.z_isS ?_ | with_reducible refine EV.z_sl ?_ | with_reducible refine EV.z_np ?_ | with_reducible refine EV.z_pt ?_ | with_reducible refine EV.z_exI ?_ | with_reducible refine EV.z_is ?_ | with_reducible refine EV.z_istr ?_ | with_reducible refine EV.z_no ?_ | with_reducible refine EV.z_yes ?_ | with_reducible refine EV.z_for ?_ | with_reducible refine EV.z_il ?_ | with_reducible refine EV.z_it ?_ | with_reducible refine EV.z_r1 ?_ | with_reducible refine EV.z_ik ?_ | with_reducible refine EV.z_din ?_ | with_reducible refine EV.z_dnin ?_ | with_reducible refine EV.z_dsd ?_ | with_reducible refine EV.z_gs ?_ | with_reducible refine EV.z_gc ?_ | with_reducible refine EV.z_gn ?_ | with_reducible refine EV.z_turn ?_))
local macro_rules | `(tactic| walk_at "zz") => `(tactic| repeat walk_at "z")
local macro_rules | `(tactic| walk_at "z") => `(tactic| (first | with_reducible refine EV.z_mt ?_ | with_reducible refine EV.z_cS ?_ | with_reducible refine EV.z_mkO ?_ | with_reducible refine EV.z_mkK ?_))
/-! ### right -/
namespace EV
open PySem PySem.Spec PyProof.Rows L2 TT TL
theorem mem_joinL {S : List Nat} {c : Nat} : ∀ {ps : List (List Nat)}, c ∈ joinL S ps → c ∈ S ∨ ∃ p ∈ ps, c ∈ p
  | [], h => by cases h
  | [p], h => .inr ⟨p, List.mem_singleton.mpr rfl, h⟩
  | p :: q :: r, h => by
    rw [joinL, List.mem_append, List.mem_append] at h
    rcases h with h | h | h
    · exact .inr ⟨p, List.mem_cons_self, h⟩
    · exact .inl h
    · rcases mem_joinL h with h | ⟨z, hz, h⟩
      · exact .inl h
      · exact .inr ⟨z, List.mem_cons_of_mem _ hz, h⟩
theorem GD.small {M : Hld} {W : Lvs} {cs : Bars} (G : GD M W cs) : (∀ c ∈ (gText M W cs).cps.toList, c < 16 ^ 8) ∧ (gText M W cs).length ≤ 100000 := by
  have few := G.few
  have nm : ∀ {x : Str}, Nm x → ∀ c ∈ tl x, c < 16 ^ 8 := fun {x} h c hc => Nat.lt_of_le_of_lt (h.2.2 c hc).2 (by decide)
  have nmN : ∀ x ∈ M.map (·.1), Nm x := fun x hx => by
    obtain ⟨t, ht, rfl⟩ := List.mem_map.mp hx
    exact G.d.nm t ht
  have word : ∀ ws ∈ gRows M W cs, ∀ r ∈ ws, ∀ c ∈ tl r, c < 16 ^ 8 := fun ws h r hr => by
    have lit : ∀ {z : Str}, ((tl z).all fun c => decide (c < 16 ^ 8)) = true → r = z → ∀ c ∈ tl r, c < 16 ^ 8 := fun a e c hc => by
      rw [e] at hc
      exact of_decide_eq_true (List.all_eq_true.mp a c hc)
    rcases List.mem_append.mp h with h | h
    · rcases List.mem_append.mp h with h | h
      · obtain ⟨t, ht, rfl⟩ := List.mem_map.mp h
        rcases List.mem_cons.mp hr with e | hr
        · exact lit (by decide +kernel) e
        · rcases List.mem_cons.mp hr with e | hr
          · rw [e]; exact nm (G.d.nm t ht)
          · exact nm (G.d.wNm ((G.d.ok ht).2 r hr))
      · obtain ⟨q, hq, rfl⟩ := List.mem_map.mp h
        have hq := (List.mem_filter.mp hq).1
        have w19 := G.d.w19 hq
        simp only [List.mem_cons, List.not_mem_nil, or_false] at hr
        rcases hr with e | e | e
        · exact lit (by decide +kernel) e
        · rw [e]; exact nm (G.d.wNm (List.mem_map_of_mem hq))
        · obtain ⟨m, em⟩ := Int.eq_ofNat_of_zero_le (show 0 ≤ q.2 by omega)
          have all : ∀ m, m < 10 → ((tl (toString ((m : Nat) : Int) : Str)).all fun c => decide (c < 16 ^ 8)) = true := by decide +kernel
          rw [em] at e
          exact lit (all m (by omega)) e
    · obtain ⟨t, ht, rfl⟩ := List.mem_map.mp h
      obtain ⟨a, b, _⟩ := G.d.bk t ht
      simp only [List.mem_cons, List.not_mem_nil, or_false] at hr
      rcases hr with e | e | e
      · exact lit (by decide +kernel) e
      · rw [e]; exact nm (nmN _ a)
      · rw [e]; exact nm (nmN _ b)
  refine ⟨fun c hc => ?_, ?_⟩
  · have hc : c ∈ tl (gText M W cs) := hc
    rw [gText, textT_join, join_eq, tl_join, tl_feed] at hc
    rcases mem_joinL hc with h | ⟨p, hp, h⟩
    · rw [List.mem_singleton.mp h]; decide
    · obtain ⟨x, hx, rfl⟩ := List.mem_map.mp hp
      rcases List.mem_append.mp hx with hx | hx
      · obtain ⟨ws, hw, rfl⟩ := List.mem_map.mp hx
        rw [rowT, join_eq, tl_join, tl_blank] at h
        rcases mem_joinL h with h | ⟨p, hp, h⟩
        · rw [List.mem_singleton.mp h]; decide
        · obtain ⟨r, hr, rfl⟩ := List.mem_map.mp hp
          exact word ws hw r hr c h
      · rw [List.mem_singleton.mp hx, tl_none] at h; cases h
  · have := text_len (n := 98) (rows := (gRows M W cs).map rowT) fun x hx => by
      obtain ⟨ws, hw, rfl⟩ := List.mem_map.mp hx
      obtain ⟨w14, wr⟩ := few.2 ws hw
      have rl := row_len wr
      have := Nat.mul_le_mul_right 7 w14
      omega
    rw [List.length_map] at this
    have := few.1
    unfold gText
    omega
def spRight : Sp := fun vs H Q _ => ∃ (F : Hp) (wa hd lv br : Addr) (L : Hld) (W : Lvs) (bs : Bars), vs = [.ref wa] ∧ Sub F H ∧ Wd F wa hd lv br L W bs ∧ WD L W bs ∧ (bs.map (·.2)).Nodup ∧ ∀ H', Nx No F H F H' → Q (.bl true) H'
abbrev ksT : List Str := ["group"]
def pmT : {α : Type} → List α → List α := fun l => l
abbrev s_right : Stmt := top 46
abbrev N_right : List Str := ["world", "herd", "turn"]
abbrev P_right : List Str := ["world"]
theorem sc_right : FnScope N_right P_right (defScope s_right) := ⟨rfl, rfl, rfl, by decide +kernel, rfl, by decide +kernel, by decide +kernel⟩
section
variable {P : Program} {w : World} {K : PySem.W.Frag} {mg : Str → Option Value} {base : Heap} {C : Addr}
theorem ok_right (T : Txt mg) (EQ : EqOkX P w K mg base C) (c_made : C8.Cal P w K mg base 6 "_law_made" (spMade C) []) (c_group_text : C8.Cal P w K mg base 2 "group_text" (spGText C) []) (k_group_text : CalN C8.CX0 P w K mg base 2 "group_text" (spGText C) ksT pmT) (c_text : C8.Cal P w K mg base 1 "_law_text" spLText [])
    {f fd} (D : C8.Def K mg "_law_right" s_right f fd) (b : Binds K fd P_right []) : CalG P w K mg base 7 "_law_right" spRight := by
  refine calG0 D b sc_right (fun vs H Q E h => ?_) (fun cdv A outer s H vs Q E hG hr h => ?_)
  · obtain ⟨F, wa, hd, lv, br, L, W, bs, rfl, _⟩ := h
    rfl
  · obtain ⟨F, wa, hd, lv, br, L, W, bs, rfl, sF, d, D, bn, k⟩ := h
    have hu := hu_of hr
    have hu65 := hu65_of hr
    refine ⟨_, (pss_cons (ps_set (i := 1) sc_right.nd rfl (Or.inl rfl) (C8.pe_c c_made hr (by decide) rfl (pa_cons (pv 0) pa_nil)))
  (pss_cons (ps_for PassesOwn.never rfl (pi_range1 rfl T.b_range (pa_cons pe_int pa_nil)) (pg_name (i := 2) sc_right.nd rfl (Or.inl rfl))
    (pss_one (ps_if (PW.pt (pw_or (pt_cmpR op_ne (pe_callB call_repr_text rfl T.b_repr (by decide +kernel) (pa_cons (C8.pe_c c_group_text hr (by decide) rfl (pa_cons (pv 1) pa_nil)) pa_nil)) (pe_callB call_repr_text rfl T.b_repr (by decide +kernel) (pa_cons (C8.pe_c c_text hr (by decide) rfl (pa_cons (pv 0) pa_nil)) pa_nil)) (nomark _)) (pw_or1 (pt_not (pt_cmpR (op_eqGX EQ hr (by decide)) (pv 1) (C8.pe_c c_made hr (by decide) rfl (pa_cons (pv 0) pa_nil)) (nomark _))))))
    (pss_one (ps_ret pe_bl))
    pss_nil)))
  (pss_one (ps_ret (pe_cmpR op_eq (pe_k0 (E := C8.E0) k_group_text hr (by decide) rfl C8.pass0 (pk_cons (pv 1) pk_nil)) (C8.pe_c c_text hr (by decide) rfl (pa_cons (pv 0) pa_nil)) (nomark _)))))), ?_⟩
    walk_at "zz"
    refine ⟨F, wa, hd, lv, br, L, W, bs, rfl, sF, d, D, fun g M V' cs F1 H1 N1 gr co => ?_⟩
    have d1 := d.sub N1.mono
    have G := gr.d
    have sm := G.small
    walk_at "zz"
    refine ⟨2, rfl, by decide, by decide, for_it (D := Ends.mk _ _ _ _) walk_range (fun i σ' H' => ∃ (v2 : Option V), σ' = [some (.ref wa), some (.ref g), v2] ∧ Nx No F H F1 H') ⟨none, rfl, N1⟩ (fun _ _ _ _ _ => trivial) ?_ ?_⟩
    · rintro i v σ' H2 H2' hi ⟨v2, rfl, N2⟩ ⟨rfl, rfl⟩
      walk_at "zz"
      refine ⟨F1, g, M, V', cs, rfl, N2.sub, gr, fun H3 N3 => ?_⟩
      have Z3 := N2.trans N3
      walk_at "zz"
      refine ⟨_, rfl, sm.1, sm.2, ?_⟩
      walk_at "zz"
      refine ⟨F1, wa, hd, lv, br, L, W, bs, M, V', cs, rfl, Z3.sub, d1, D, bn, G, co, fun H4 N4 => ?_⟩
      have Z4 := Z3.trans N4
      walk_at "zz"
      refine ⟨_, rfl, sm.1, sm.2, ?_⟩
      walk_at "zz"
      refine z_iteN (fun no => absurd rfl no) (fun _ => ?_)
      walk_at "zz"
      refine ⟨F1, wa, hd, lv, br, L, W, bs, rfl, Z4.sub, d1, D, fun g2 M2 V2 cs2 F5 H5 N5 gr2 co2 => ?_⟩
      obtain ⟨eW, en, evw, ec⟩ := co.one D gr.d co2 gr2.d
      subst eW
      have Z5 := Z4.trans N5
      refine z_eqGX Z5.sub (gr.sub N5.mono) gr2 en ec fun H6 s6 => ?_
      rw [decide_eq_true evw]
      walk_at "zz"
      refine z_nt ?_
      walk_at "zz"
      exact ⟨_, rfl, same_nx (Z4.trans N5.back) s6⟩
    · rintro σ' H2 ⟨v2, rfl, N2⟩
      walk_at "zz"
      refine z_cN ?_
      walk_at "zz"
      refine ⟨rfl, F1, g, M, V', cs, rfl, N2.sub, gr, fun H3 N3 => ?_⟩
      have Z3 := N2.trans N3
      walk_at "zz"
      refine ⟨F1, wa, hd, lv, br, L, W, bs, M, V', cs, rfl, Z3.sub, d1, D, bn, G, co, fun H4 N4 => ?_⟩
      have Z4 := Z3.trans N4
      walk_at "zz"
      rw [show decide (V.str (gText M V' cs) = V.str (gText M V' cs)) = true from decide_eq_true rfl]
      exact k H4 Z4.back
end
end EV
end

section
set_option maxHeartbeats 2000000
/-! ### a dict that isn't the empty one -/
namespace EV
open PySem PySem.Spec PyProof.Rows L2
theorem lt00 {n m : Nat} (h : n + 65 < m) : n < m := by omega
def rNeD0 : R2 := fun x y H Q => ∃ (a b : Addr) (ks : List (Key × V)), x = .ref a ∧ y = .ref b ∧ H a = some (.dK ks) ∧ H b = some (.dK []) ∧ Q (.bl (!ks.isEmpty)) H
theorem op_neD0 {X : Cx} (hu : X.A.units < cLine) : OpR X (compareOp .NotEq) rNeD0 := by
  intro pins s σ H x y v u Q I rx ry h
  obtain ⟨a, b, ks, rfl, rfl, ea, eb, q⟩ := h
  obtain rfl : v = Value.ref a := rx
  obtain rfl : u = Value.ref b := ry
  obtain ⟨_, ya, va, ra, da⟩ := (show ObjOk X.prog X.w H s.heap a (.dK ks) from I.hok a _ ea)
  obtain ⟨_, yb, vb, rb, db⟩ := (show ObjOk X.prog X.w H s.heap b (.dK []) from I.hok b _ eb)
  have lb : vb.length = 0 := by rw [← rb.length]; rfl
  have la := ra.length
  cases ks with
  | nil =>
    have l0 : va.length = 0 := by rw [← la]; rfl
    have e0 : va = [] := List.length_eq_zero_iff.mp l0
    exact PySem.W.keq_ne (knd := mixKind X.prog X.w) (r := true) ya yb da db hu (fun _ => by rw [e0]; exact .nil) (fin_bl I q (by simp [l0, lb]))
  | cons k ks =>
    rw [List.length_cons] at la
    exact PySem.W.keq_ne (knd := mixKind X.prog X.w) (r := false) ya yb da db hu (fun e => by omega) (fin_bl I q (by simp))
end EV
end

section
set_option maxHeartbeats 4000000
local macro_rules | `(tactic| walk_at "za") => `(tactic| (first | exact Or.inl ⟨by omega, by omega⟩ | exact Or.inr ⟨by omega, by omega⟩ | exact ⟨by omega, by omega⟩ | exact ⟨by omega, by omega, by omega⟩ | omega))
local macro_rules | `(tactic| walk_at "z") => `(tactic| (first
  | with_reducible refine EV.z_seq ?_ | with_reducible refine EV.z_next ?_ | with_reducible refine EV.z_nx ?_ | with_reducible refine EV.z_rt ?_ | with_reducible refine EV.z_asg ?_ | with_reducible refine EV.z_name ?_
  | with_reducible refine EV.z_drop ?_ | with_reducible refine EV.z_ret ?_ | with_reducible refine EV.z_if ?_
  | ((with_reducible refine EV.z_var (v := ?vv) ?hv ?_); (case hv => exact rfl)) | with_reducible refine EV.z_c ?_ | with_reducible refine EV.z_op ?_ | with_reducible refine EV.z_un ?_ | with_reducible refine EV.z_I0 ?_ | with_reducible refine EV.z_U ?_ | ((with_reducible refine EV.z_I ?hc ?_); (case hc => walk_at "za"))
  | ((with_reducible refine EV.z_eq ?hv ?_); (case hv => exact rfl)) | ((with_reducible refine EV.z_ne ?hv ?_); (case hv => exact rfl))
  | with_reducible refine EV.z_test ?_ | with_reducible refine EV.z_bl ?_ | with_reducible refine EV.z_B ?_ | with_reducible refine EV.z_and ?_ | with_reducible refine EV.z_or ?_ | with_reducible refine EV.z_not ?_ | with_reducible refine EV.z_andV ?_
  | with_reducible refine EV.z_orV ?_ | with_reducible refine EV.z_notV ?_ | with_reducible refine EV.z_ifE ?_ | with_reducible refine EV.z_nil ?_ | with_reducible refine EV.z_cons ?_ | with_reducible refine EV.z_tup ?_ | with_reducible refine EV.z_lst ?_
  | with_reducible refine EV.z_cb ?_ | with_reducible refine EV.z_call ?_ | with_reducible refine EV.z_dget ?_ | with_reducible refine EV.z_dput ?_ | with_reducible refine EV.z_chain ?_ | with_reducible refine EV.z_then ?_ | with_reducible refine EV.z_fld ?_ | with_reducible refine EV.z_bm ?_
  | with_reducible refine EV.z_par ?_ | with_reducible refine EV.z_par3 ?_ | with_reducible refine EV.z_ex2 ?_ | with_reducible refine EV.z_ex3 ?_ | with_reducible refine EV.z_tyes ?_ | ((with_reducible refine EV.z_wipe ?hv ?_); (case hv => exact rfl))
  | with_reducible refine EV.z_lc ?_ | with_reducible refine EV.z_ltS ?_ | with_reducible refine EV.z_disp ?_ | with_reducible refine EV.z_pc ?_ | with_reducible refine EV.z_pn ?_ | with_reducible refine EV.z_m1 ?_ | with_reducible refine EV.z_isS ?_ | with_reducible refine EV.z_sl ?_ | with_reducible refine EV.z_np ?_ | with_reducible refine EV.z_pt ?_ | with_reducible refine EV.z_exI ?_ | with_reducible refine EV.z_is ?_ | with_reducible refine EV.z_istr ?_ | with_reducible refine EV.z_no ?_ | with_reducible refine EV.z_yes ?_ | with_reducible refine EV.z_for ?_ | with_reducible refine EV.z_il ?_ | with_reducible refine EV.z_it ?_ | with_reducible refine EV.z_r1 ?_ | with_reducible refine EV.z_ik ?_ | with_reducible refine EV.z_din ?_ | with_reducible refine EV.z_dnin ?_ | with_reducible refine EV.z_dsd ?_ | with_reducible refine EV.z_gs ?_ | with_reducible refine EV.z_gc ?_ | with_reducible refine EV.z_gn ?_ | with_reducible refine EV.z_turn ?_))
local macro_rules | `(tactic| walk_at "zz") => `(tactic| repeat walk_at "z")
local macro_rules | `(tactic| walk_at "z") => `(tactic| (first | with_reducible refine EV.z_mt ?_ | with_reducible refine EV.z_cS ?_ | with_reducible refine EV.z_mkO ?_ | with_reducible refine EV.z_mkK ?_))
/-! ### other leaves, other bars -/
namespace EV
open PySem PySem.Spec PyProof.Rows L2
theorem WD.lv2 {L : Hld} {W W2 : Lvs} {bs bs2 : Bars} (D : WD L W bs) (ek : W2.map (·.1) = W.map (·.1)) (w19 : ∀ q ∈ W2, 1 ≤ q.2 ∧ q.2 ≤ 9) (b36 : bs2.length ≤ 36) (bk : ∀ t ∈ bs2, t.2.1 ∈ L.map (·.1) ∧ t.2.2 ∈ L.map (·.1) ∧ slt t.2.1 t.2.2) : WD L W2 bs2 := by
  obtain ⟨sheets, s12, snm, ok⟩ := D.sh
  have at' : ∀ q ∈ W2, ∃ r ∈ W, r.1 = q.1 := fun q hq => by
    have m : q.1 ∈ W.map (·.1) := by rw [← ek]; exact List.mem_map_of_mem hq
    obtain ⟨r, hr, er⟩ := List.mem_map.mp m
    exact ⟨r, hr, er⟩
  refine ⟨D.n1, D.n6, D.nm, ⟨sheets, s12, snm, ⟨ok.nd, fun t ht => by rw [ek]; exact ok.ok t ht, by rw [ek]; exact ok.wnd, fun q hq => ?_, fun q hq => ?_⟩⟩, b36, bk⟩
  · obtain ⟨r, hr, er⟩ := at' q hq
    exact ⟨by rw [← er]; exact (ok.wsh r hr).1, w19 q hq⟩
  · obtain ⟨r, hr, er⟩ := at' q hq
    rw [← er]
    exact ok.wh r hr
theorem len_prs (N : List Str) : ∀ M : List Str, (M.flatMap fun x => N.map fun y => (x, y)).length = M.length * N.length
  | [] => by simp
  | x :: M => by rw [List.flatMap_cons, List.length_append, len_prs N M, List.length_map, List.length_cons, Nat.succ_mul, Nat.add_comm]
theorem prs36 {N : List Str} (n6 : N.length ≤ 6) {ps : List (Str × Str)} (nd : ps.Nodup) (h : ∀ p ∈ ps, p.1 ∈ N ∧ p.2 ∈ N) : ps.length ≤ 36 := by
  have a := nodup_sub ps (N.flatMap fun x => N.map fun y => (x, y)) nd fun p hp => by
    obtain ⟨h1, h2⟩ := h p hp
    exact List.mem_flatMap.mpr ⟨p.1, h1, List.mem_map.mpr ⟨p.2, h2, rfl⟩⟩
  rw [len_prs] at a
  have b : N.length * N.length ≤ 6 * 6 := Nat.mul_le_mul n6 n6
  omega
theorem mergeK_lv : ∀ {W A : Lvs}, ((A ++ W).map (·.1)).Nodup → mergeK (lvK A) (lvK W) = lvK (A ++ W)
  | [], A, _ => by rw [List.append_nil]; rfl
  | t :: W, A, nd => by
    have e : A ++ t :: W = (A ++ [t]) ++ W := by simp
    rw [e] at nd ⊢
    rw [← mergeK_lv nd]
    have new : t.1 ∉ A.map (·.1) := by
      rw [List.map_append, List.map_append] at nd
      have := (List.nodup_append.mp (List.nodup_append.mp nd).1).2.2
      intro h
      exact this _ h _ (by simp) rfl
    show mergeK (putK (lvK A) (key t.1) (.int t.2)) (lvK W) = _
    rw [lv_put new]
theorem lv_set2 {W : Lvs} {x : Str} {n : Int} (h : x ∈ W.map (·.1)) : putK (lvK W) (key x) (.int n) = lvK (W.map fun q => if q.1 = x then (q.1, n) else q) := by
  have e : ((lvK W).any fun kv => decide (kv.1 = key x)) = true := by
    obtain ⟨q, hq, rfl⟩ := List.mem_map.mp h
    exact List.any_eq_true.mpr ⟨(key q.1, .int q.2), List.mem_map_of_mem (f := fun q : Str × Int => (key q.1, V.int q.2)) hq, decide_eq_true rfl⟩
  rw [putK, if_pos e, lvK, lvK, List.map_map, List.map_map]
  refine List.map_congr_left fun q _ => ?_
  by_cases z : q.1 = x
  · show (if key q.1 = key x then _ else _) = (key (if q.1 = x then (q.1, n) else q).1, V.int (if q.1 = x then (q.1, n) else q).2)
    rw [if_pos (by rw [z]), if_pos z]
  · show (if key q.1 = key x then _ else _) = (key (if q.1 = x then (q.1, n) else q).1, V.int (if q.1 = x then (q.1, n) else q).2)
    rw [if_neg (fun h => z (Sum.inr.inj h)), if_neg z]
theorem set_keys {W : Lvs} {x : Str} {n : Int} : (W.map fun q => if q.1 = x then (q.1, n) else q).map (·.1) = W.map (·.1) := by
  rw [List.map_map]
  refine List.map_congr_left fun q _ => ?_
  show (if q.1 = x then (q.1, n) else q).1 = q.1
  split <;> rfl
theorem paired_lv {K : PySem.W.Frag} {H : Hp} : ∀ {ps : List (Addr × Str × Int)}, (∀ p ∈ ps, SqT K H p.1 [.str p.2.1, .int p.2.2]) → Paired (fun (p : Addr) (kv : Key × V) => SqT K H p [kV kv.1, kv.2]) (ps.map fun p => p.1) (lvK (ps.map fun p => p.2))
  | [], _ => .nil
  | p :: ps, h => .cons (h p List.mem_cons_self) (paired_lv fun q hq => h q (List.mem_cons_of_mem _ hq))
theorem lv_at {W : Lvs} {i : Nat} {ky : Key} {vv : V} (h : (lvK W)[i]? = some (ky, vv)) : ∃ q, W[i]? = some q ∧ ky = key q.1 := by
  rw [lvK, List.getElem?_map] at h
  cases e : W[i]? with
  | none => rw [e] at h; cases h
  | some q => rw [e] at h; exact ⟨q, rfl, (congrArg (·.1) (Option.some.inj h)).symm⟩
theorem atI_last {ys : List Str} {y : Str} (h : ys.getLast? = some y) : atI (ys.map V.str) (-1) = some (.str y) := by
  have n : ys ≠ [] := fun z => by rw [z] at h; cases h
  have l := List.length_pos_iff.mpr n
  have e := h
  rw [List.getLast?_eq_getElem?] at e
  unfold atI ixN
  rw [if_neg (by omega), List.length_map]
  by_cases c : -(ys.length : Int) ≤ -1
  · rw [if_pos c]
    show (ys.map V.str)[((-1 : Int) + ys.length).toNat]? = _
    rw [show ((-1 : Int) + ys.length).toNat = ys.length - 1 by omega, List.getElem?_map, e]
    rfl
  · omega
theorem srt_ends {ys : List Str} (nd : ys.Nodup) (s : Srt ys) (l : 1 < ys.length) {x y : Str} (hx : ys[0]? = some x) (hy : ys.getLast? = some y) : slt x y ∧ x ∈ ys ∧ y ∈ ys := by
  have mx := List.mem_of_getElem? hx
  have my := List.mem_of_getLast? hy
  refine ⟨?_, mx, my⟩
  match ys, nd, s, l, hx, hy with
  | a :: b :: r, nd, s, _, hx, hy =>
    obtain rfl : a = x := by simpa using hx
    rw [List.getLast?_cons_cons] at hy
    have m := List.mem_of_getLast? hy
    have q := (List.pairwise_cons.mp s).1 y m
    have ne : a ≠ y := fun z => (List.nodup_cons.mp nd).1 (by rw [z]; exact m)
    rcases slt_tri ne with h | h
    · exact h
    · exact absurd h q
end EV
end

section
set_option maxHeartbeats 2000000
/-! ### a world with one thing otherwise -/
namespace EV
open PySem PySem.Spec PyProof.Rows L2
/-- leaves that may be told: unlike, named, at most twelve -/
structure LW2 (W W2 : Lvs) : Prop where
  l : W2.length ≤ 12
  nd : (W2.map (·.1)).Nodup
  nm : ∀ q ∈ W2, Nm q.1 ∧ 1 ≤ q.2 ∧ q.2 ≤ 9
  sub : ∀ x ∈ W.map (·.1), x ∈ W2.map (·.1)
theorem WD.lw2 {L : Hld} {W : Lvs} {bs : Bars} (D : WD L W bs) : LW2 W W := by
  obtain ⟨sheets, s12, snm, ok⟩ := D.sh
  exact ⟨D.wl, ok.wnd, fun q hq => ⟨snm _ (ok.wsh q hq).1, (ok.wsh q hq).2⟩, fun x hx => hx⟩
theorem LW2.more {W : Lvs} (o : LW2 W W) {x : Str} {n : Int} (nx : Nm x) (no : x ∉ W.map (·.1)) (lt : W.length < 12) (n1 : 1 ≤ n) (n9 : n ≤ 9) : LW2 W (W ++ [(x, n)]) :=
  ⟨by rw [List.length_append, List.length_singleton]; omega, by
    rw [List.map_append]
    refine List.nodup_append.mpr ⟨o.nd, by simp, fun a ha b hb e => ?_⟩
    rw [List.map_singleton, List.mem_singleton] at hb
    rw [e, hb] at ha
    exact no ha, fun q hq => by
    rcases List.mem_append.mp hq with h | h
    · exact o.nm q h
    · rw [List.mem_singleton.mp h]; exact ⟨nx, n1, n9⟩, fun y hy => by rw [List.map_append]; exact List.mem_append_left _ hy⟩
theorem WD.next {L L2 : Hld} {W W2 : Lvs} {bs bs2 : Bars} (D : WD L W bs) (o : LW2 W W2) (n1 : 1 ≤ L2.length) (n6 : L2.length ≤ 6) (nd : (L2.map (·.1)).Nodup) (nm : ∀ t ∈ L2, Nm t.1) (ok : ∀ t ∈ L2, t.2.2.Nodup ∧ ∀ x ∈ t.2.2, x ∈ W2.map (·.1)) (wh : ∀ q ∈ W2, ∃ t ∈ L2, q.1 ∈ t.2.2)
    (b36 : bs2.length ≤ 36) (bk : ∀ t ∈ bs2, t.2.1 ∈ L2.map (·.1) ∧ t.2.2 ∈ L2.map (·.1) ∧ slt t.2.1 t.2.2) : WD L2 W2 bs2 :=
  ⟨n1, n6, nm, ⟨W2.map (·.1), by rw [List.length_map]; exact o.l, fun x hx => by
    obtain ⟨q, hq, rfl⟩ := List.mem_map.mp hx
    exact (o.nm q hq).1, ⟨nd, ok, o.nd, fun q hq => ⟨List.mem_map_of_mem hq, (o.nm q hq).2⟩, wh⟩⟩, b36, bk⟩
theorem WD.same {L L3 : Hld} {W : Lvs} {bs : Bars} (D : WD L W bs) (e : vw L3 = vw L) : WD L3 W bs := by
  have en : L3.map (·.1) = L.map (·.1) := by rw [← vw_keys, ← vw_keys, e]
  have nd3 : (L3.map (·.1)).Nodup := by rw [en]; exact D.nd
  exact D.alk en (fun t ht => by rw [← hLf_of nd3 ht, hLf_vw e]) rfl
theorem DiffW.same {L L3 L2 : Hld} {W W2 : Lvs} {bs bs2 : Bars} (d : DiffW L3 W bs L2 W2 bs2) (e : vw L3 = vw L) : DiffW L W bs L2 W2 bs2 := by
  have en : L3.map (·.1) = L.map (·.1) := by rw [← vw_keys, ← vw_keys, e]
  unfold DiffW at d ⊢
  rw [en, hLf_vw e] at d
  exact d
section
variable {L : Hld} {W : Lvs} {bs : Bars} {x s : Str} {l : Addr}
/-- one page more of one person -/
theorem other_a {W2 : Lvs} (D : WD L W bs) (hx : x ∈ L.map (·.1)) (no : s ∉ hLf L x) (o : LW2 W W2) (hs : s ∈ W2.map (·.1)) (only : ∀ q ∈ W2, q ∈ W ∨ q.1 = s) : WD (setH L x l (hLf L x ++ [s])) W2 bs ∧ DiffW L W bs (setH L x l (hLf L x ++ [s])) W2 bs := by
  obtain ⟨u, hu, eu⟩ := List.mem_map.mp hx
  have eh : hLf L x = u.2.2 := by rw [← eu]; exact hLf_of D.nd hu
  have mk : (u.1, l, hLf L x ++ [s]) ∈ setH L x l (hLf L x ++ [s]) := List.mem_map.mpr ⟨u, hu, by rw [if_pos eu]⟩
  have ll : (setH L x l (hLf L x ++ [s])).length = L.length := by rw [setH, List.length_map]
  refine ⟨D.next o (by rw [ll]; exact D.n1) (by rw [ll]; exact D.n6) (by rw [setH_keys]; exact D.nd) (fun t ht => ?_) (fun t ht => ?_) (fun q hq => ?_) D.b36 (fun t ht => by rw [setH_keys]; exact D.bk t ht), .inr (.inl ⟨x, hx, by rw [setH_keys]; exact hx, s, no, ?_⟩)⟩
  · have : t.1 ∈ L.map (·.1) := by rw [← setH_keys (x := x) (l := l) (ps := hLf L x ++ [s])]; exact List.mem_map_of_mem ht
    obtain ⟨v, hv, ev⟩ := List.mem_map.mp this
    rw [← ev]; exact D.nm v hv
  · rcases setH_mem ht with ⟨_, _, e⟩ | ⟨_, hv⟩
    · rw [e]
      refine ⟨List.nodup_append.mpr ⟨by rw [eh]; exact (D.ok hu).1, by simp, fun a ha b hb e => ?_⟩, fun y hy => ?_⟩
      · rw [List.mem_singleton.mp hb] at e
        rw [e] at ha; exact no ha
      · rcases List.mem_append.mp hy with hy | hy
        · rw [eh] at hy; exact o.sub y ((D.ok hu).2 y hy)
        · rw [List.mem_singleton.mp hy]; exact hs
    · exact ⟨(D.ok hv).1, fun y hy => o.sub y ((D.ok hv).2 y hy)⟩
  · rcases only q hq with h | h
    · obtain ⟨t, ht, hqt⟩ := D.wh h
      by_cases e : t.1 = x
      · refine ⟨_, mk, List.mem_append_left _ ?_⟩
        rw [← e, hLf_of D.nd ht]; exact hqt
      · exact ⟨t, List.mem_map.mpr ⟨t, ht, by rw [if_neg e]⟩, hqt⟩
    · exact ⟨_, mk, List.mem_append_right _ (by rw [h]; exact List.mem_singleton.mpr rfl)⟩
  · rw [setH_hLf hx, if_pos rfl]; exact List.mem_append_right _ (List.mem_singleton.mpr rfl)
/-- one page of other leaves -/
theorem other_b (D : WD L W bs) (hs : s ∈ W.map (·.1)) : WD L (W.map fun q => if q.1 = s then (q.1, lfn W s % 9 + 1) else q) bs ∧ DiffW L W bs L (W.map fun q => if q.1 = s then (q.1, lfn W s % 9 + 1) else q) bs := by
  have e0 := Int.emod_nonneg (lfn W s) (show (9 : Int) ≠ 0 by decide)
  have e1 := Int.emod_lt_of_pos (lfn W s) (show (0 : Int) < 9 by decide)
  have l1 := D.lf1 hs
  obtain ⟨q0, hq0, rfl⟩ := List.mem_map.mp hs
  have l9 : lfn W q0.1 ≤ 9 := by rw [lfn_mem D.wn hq0]; exact (D.w19 hq0).2
  have D2 := D.lv2 (W2 := W.map fun q => if q.1 = q0.1 then (q.1, lfn W q0.1 % 9 + 1) else q) (bs2 := bs) set_keys (fun q hq => by
    obtain ⟨r, hr, rfl⟩ := List.mem_map.mp hq
    by_cases e : r.1 = q0.1
    · rw [if_pos e]; dsimp only; omega
    · rw [if_neg e]; exact D.w19 hr) D.b36 D.bk
  refine ⟨D2, .inr (.inr (.inl ⟨q0.1, List.mem_map_of_mem hq0, by rw [set_keys]; exact List.mem_map_of_mem hq0, ?_⟩))⟩
  have m : (q0.1, lfn W q0.1 % 9 + 1) ∈ W.map fun q => if q.1 = q0.1 then (q.1, lfn W q0.1 % 9 + 1) else q := List.mem_map.mpr ⟨q0, hq0, by rw [if_pos rfl]⟩
  rw [lfn_mem D2.wn m]
  omega
/-- one person of another name -/
theorem other_d {bs2 : Bars} (D : WD L W bs) (hx : x ∈ L.map (·.1)) (nm : Nm s) (no : s ∉ L.map (·.1)) (b36 : bs2.length ≤ 36) (bk : ∀ t ∈ bs2, t ∈ bs ∧ x ≠ t.2.1 ∧ x ≠ t.2.2) :
    WD (L.filter (fun t => decide (t.1 ≠ x)) ++ [(s, l, hLf L x)]) W bs2 ∧ DiffW L W bs (L.filter (fun t => decide (t.1 ≠ x)) ++ [(s, l, hLf L x)]) W bs2 := by
  obtain ⟨u, hu, eu⟩ := List.mem_map.mp hx
  have eh : hLf L x = u.2.2 := by rw [← eu]; exact hLf_of D.nd hu
  have fm : ∀ {t}, t ∈ L.filter (fun t => decide (t.1 ≠ x)) ↔ t ∈ L ∧ t.1 ≠ x := fun {t} => by rw [List.mem_filter, decide_eq_true_eq]
  have fl : (L.filter fun t => decide (t.1 ≠ x)).length < L.length := List.length_filter_lt_length_iff_exists.mpr ⟨u, hu, by simp [eu]⟩
  have n6 := D.n6
  have ll : (L.filter (fun t => decide (t.1 ≠ x)) ++ [(s, l, hLf L x)]).length ≤ 6 := by rw [List.length_append, List.length_singleton]; omega
  have keyin : ∀ {y}, y ∈ L.map (·.1) → y ≠ x → y ∈ (L.filter (fun t => decide (t.1 ≠ x)) ++ [(s, l, hLf L x)]).map (·.1) := fun {y} hy ne => by
    obtain ⟨t, ht, rfl⟩ := List.mem_map.mp hy
    exact List.mem_map_of_mem (List.mem_append_left _ (fm.mpr ⟨ht, ne⟩))
  refine ⟨D.next D.lw2 (by rw [List.length_append, List.length_singleton]; omega) ll ?_ (fun t ht => ?_) (fun t ht => ?_) (fun q hq => ?_) b36 (fun t ht => ?_), .inl ⟨x, hx, fun h => ?_⟩⟩
  · rw [List.map_append]
    refine List.nodup_append.mpr ⟨D.nd.sublist (List.filter_sublist.map _), by simp, fun a ha b hb e => ?_⟩
    rw [List.map_singleton, List.mem_singleton] at hb
    obtain ⟨t, ht, rfl⟩ := List.mem_map.mp ha
    rw [hb] at e
    have e' : t.1 = s := e
    exact no (by rw [← e']; exact List.mem_map_of_mem (fm.mp ht).1)
  · rcases List.mem_append.mp ht with ht | ht
    · exact D.nm t (fm.mp ht).1
    · rw [List.mem_singleton.mp ht]; exact nm
  · rcases List.mem_append.mp ht with ht | ht
    · exact D.ok (fm.mp ht).1
    · rw [List.mem_singleton.mp ht]
      show (hLf L x).Nodup ∧ _
      rw [eh]; exact D.ok hu
  · obtain ⟨t, ht, hqt⟩ := D.wh hq
    by_cases e : t.1 = x
    · refine ⟨_, List.mem_append_right _ (List.mem_singleton.mpr rfl), ?_⟩
      show q.1 ∈ hLf L x
      rw [← e, hLf_of D.nd ht]; exact hqt
    · exact ⟨t, List.mem_append_left _ (fm.mpr ⟨ht, e⟩), hqt⟩
  · obtain ⟨hb, n1, n2⟩ := bk t ht
    obtain ⟨a, b, c⟩ := D.bk t hb
    exact ⟨keyin a (Ne.symm n1), keyin b (Ne.symm n2), c⟩
  · rw [List.map_append, List.map_singleton] at h
    rcases List.mem_append.mp h with h | h
    · obtain ⟨t, ht, e⟩ := List.mem_map.mp h
      exact (fm.mp ht).2 e
    · have e' : x = s := List.mem_singleton.mp h
      exact no (by rw [← e']; exact hx)
/-- one pair barred, or no more -/
theorem other_c {bs2 : Bars} (D : WD L W bs) {p : Str × Str} (hp : p.1 ∈ L.map (·.1) ∧ p.2 ∈ L.map (·.1) ∧ slt p.1 p.2) (nd : (bs2.map (·.2)).Nodup) (mem : ∀ q, q ∈ bs2.map (·.2) → q ∈ bs.map (·.2) ∨ q = p) (sw : p ∈ bs2.map (·.2) ↔ p ∉ bs.map (·.2)) : WD L W bs2 ∧ DiffW L W bs L W bs2 := by
  have bk : ∀ t ∈ bs2, t.2.1 ∈ L.map (·.1) ∧ t.2.2 ∈ L.map (·.1) ∧ slt t.2.1 t.2.2 := fun t ht => by
    rcases mem t.2 (List.mem_map_of_mem ht) with h | h
    · obtain ⟨u, hu, e⟩ := List.mem_map.mp h
      rw [← e]; exact D.bk u hu
    · rw [h]; exact hp
  refine ⟨D.lv2 rfl (fun q hq => D.w19 hq) ?_ bk, .inr (.inr (.inr ⟨p, fun h => ?_⟩))⟩
  · have := prs36 (N := L.map (·.1)) (by rw [List.length_map]; exact D.n6) nd fun p hp => by
      obtain ⟨t, ht, rfl⟩ := List.mem_map.mp hp
      exact ⟨(bk t ht).1, (bk t ht).2.1⟩
    rwa [List.length_map] at this
  · by_cases c : p ∈ bs.map (·.2)
    · exact (sw.mp (h.mp c)) c
    · exact c (h.mpr (sw.mpr c))
end
theorem held_drop {L : Hld} {x : Str} : dropK (heldK L) (key x) = heldK (L.filter fun t => decide (t.1 ≠ x)) := by
  unfold dropK heldK
  rw [List.filter_map]
  refine congrArg _ (List.filter_congr fun t _ => ?_)
  show decide (key t.1 ≠ key x) = decide (t.1 ≠ x)
  exact decide_eq_decide.mpr ⟨fun h e => h (by rw [e]), fun h e => h (Sum.inr.inj e)⟩
end EV
end

section
set_option maxHeartbeats 2000000
/-! ### a text so many times -/
namespace EV
open PySem PySem.Spec PyProof.Rows L2
def rRepS : R2 := fun x y H Q => ∃ (z : Str) (n : Int), x = .str z ∧ y = .int n ∧ MulOk z n ∧ Q (.str (Txt.mul z n)) H
theorem op_repS {X : Cx} : OpR X (binaryOp .Mult) rRepS := by
  rintro pins s σ H x y u v Q I rx ry ⟨z, n, rfl, rfl, ok, q⟩
  obtain ⟨t, rfl⟩ := rx
  obtain ⟨t', rfl⟩ := ry
  exact SB.mul ok fun t' k => ⟨.str (Txt.mul z n), H, I.tok _, ⟨_, rfl⟩, q⟩
end EV
end

section
set_option maxHeartbeats 4000000
local macro_rules | `(tactic| walk_at "za") => `(tactic| (first | exact Or.inl ⟨by omega, by omega⟩ | exact Or.inr ⟨by omega, by omega⟩ | exact ⟨by omega, by omega⟩ | exact ⟨by omega, by omega, by omega⟩ | omega))
local macro_rules | `(tactic| walk_at "z") => `(tactic| (first
  | with_reducible refine EV.z_seq ?_ | with_reducible refine EV.z_next ?_ | with_reducible refine EV.z_nx ?_ | with_reducible refine EV.z_rt ?_ | with_reducible refine EV.z_asg ?_ | with_reducible refine EV.z_name ?_
  | with_reducible refine EV.z_drop ?_ | with_reducible refine EV.z_ret ?_ | with_reducible refine EV.z_if ?_
  | ((with_reducible refine EV.z_var (v := ?vv) ?hv ?_); (case hv => exact rfl)) | with_reducible refine EV.z_c ?_ | with_reducible refine EV.z_op ?_ | with_reducible refine EV.z_un ?_ | with_reducible refine EV.z_I0 ?_ | with_reducible refine EV.z_U ?_ | ((with_reducible refine EV.z_I ?hc ?_); (case hc => walk_at "za"))
  | ((with_reducible refine EV.z_eq ?hv ?_); (case hv => exact rfl)) | ((with_reducible refine EV.z_ne ?hv ?_); (case hv => exact rfl))
  | with_reducible refine EV.z_test ?_ | with_reducible refine EV.z_bl ?_ | with_reducible refine EV.z_B ?_ | with_reducible refine EV.z_and ?_ | with_reducible refine EV.z_or ?_ | with_reducible refine EV.z_not ?_ | with_reducible refine EV.z_andV ?_
  | with_reducible refine EV.z_orV ?_ | with_reducible refine EV.z_notV ?_ | with_reducible refine EV.z_ifE ?_ | with_reducible refine EV.z_nil ?_ | with_reducible refine EV.z_cons ?_ | with_reducible refine EV.z_tup ?_ | with_reducible refine EV.z_lst ?_
  | with_reducible refine EV.z_cb ?_ | with_reducible refine EV.z_call ?_ | with_reducible refine EV.z_dget ?_ | with_reducible refine EV.z_dput ?_ | with_reducible refine EV.z_chain ?_ | with_reducible refine EV.z_then ?_ | with_reducible refine EV.z_fld ?_ | with_reducible refine EV.z_bm ?_
  | with_reducible refine EV.z_par ?_ | with_reducible refine EV.z_par3 ?_ | with_reducible refine EV.z_ex2 ?_ | with_reducible refine EV.z_ex3 ?_ | with_reducible refine EV.z_tyes ?_ | ((with_reducible refine EV.z_wipe ?hv ?_); (case hv => exact rfl))
  | with_reducible refine EV.z_lc ?_ | with_reducible refine EV.z_ltS ?_ | with_reducible refine EV.z_disp ?_ | with_reducible refine EV.z_pc ?_ | with_reducible refine EV.z_pn ?_ | with_reducible refine EV.z_m1 ?_ | with_reducible refine EV.z_isS ?_ | with_reducible refine EV.z_sl ?_ | with_reducible refine EV.z_np ?_ | with_reducible refine EV.z_pt ?_ | with_reducible refine EV.z_exI ?_ | with_reducible refine EV.z_is ?_ | with_reducible refine EV.z_istr ?_ | with_reducible refine EV.z_no ?_ | with_reducible refine EV.z_yes ?_ | with_reducible refine EV.z_for ?_ | with_reducible refine EV.z_il ?_ | with_reducible refine EV.z_it ?_ | with_reducible refine EV.z_r1 ?_ | with_reducible refine EV.z_ik ?_ | with_reducible refine EV.z_din ?_ | with_reducible refine EV.z_dnin ?_ | with_reducible refine EV.z_dsd ?_ | with_reducible refine EV.z_gs ?_ | with_reducible refine EV.z_gc ?_ | with_reducible refine EV.z_gn ?_ | with_reducible refine EV.z_turn ?_))
local macro_rules | `(tactic| walk_at "zz") => `(tactic| repeat walk_at "z")
local macro_rules | `(tactic| walk_at "z") => `(tactic| (first | with_reducible refine EV.z_mt ?_ | with_reducible refine EV.z_cS ?_ | with_reducible refine EV.z_mkO ?_ | with_reducible refine EV.z_mkK ?_))
/-! ### a new name -/
namespace EV
open PySem PySem.Spec PyProof.Rows L2
abbrev abc : Str := "abcdefghijklmnopqrstuvwxyz"
def five (c : Nat) : Str := ⟨#[c, c, c, c, c]⟩
theorem five_mul (c : Nat) : Txt.mul (⟨#[c]⟩ : Str) 5 = five c := rfl
theorem five_ok (c : Nat) : MulOk (⟨#[c]⟩ : Str) 5 := ⟨by decide, fun _ _ => by show ¬ ((1 : Int) > _); decide, fun _ _ => rfl⟩
theorem five_inj {c d : Nat} (h : five c = five d) : c = d := by
  have := congrArg (fun s : Str => s.cps.toList.head?) h
  simpa [five] using this
theorem five_nm {c : Nat} (h : c ∈ abc.cps.toList) : Nm (five c) := ⟨by show 1 ≤ 5; omega, by show 5 ≤ 6; omega, fun d hd => by
  have e : d = c := by simpa [five] using hd
  rw [e]; exact letters_ok h⟩
def spFresh : Sp := fun vs H Q _ => ∃ (F : Hp) (l : Addr) (ns : List Str), vs = [.ref l] ∧ Sub F H ∧ F l = some (.lst (ns.map V.str)) ∧ ns.length ≤ 12 ∧ ∀ (x : Str) H', Nx No F H F H' → Nm x → x ∉ ns → Q (.str x) H'
theorem some_fresh {ns : List Str} (n12 : ns.length ≤ 12) : (abc.cps.toList.filter fun c => !decide (five c ∈ ns)) ≠ [] := fun e => by
  have all : ∀ c ∈ abc.cps.toList, five c ∈ ns := fun c hc => by
    have := List.filter_eq_nil_iff.mp e c hc
    simpa using this
  have nd : (abc.cps.toList.map five).Nodup := by
    have n : abc.cps.toList.Nodup := by decide +kernel
    exact List.Pairwise.map five (fun a b h z => h (five_inj z)) n
  have := nodup_sub (abc.cps.toList.map five) ns nd fun x hx => by
    obtain ⟨c, hc, rfl⟩ := List.mem_map.mp hx
    exact all c hc
  rw [List.length_map] at this
  have l : abc.cps.toList.length = 26 := by decide +kernel
  omega
abbrev s_fresh : Stmt := top 43
abbrev N_fresh : List Str := ["names", "letter"]
abbrev P_fresh : List Str := ["names"]
theorem sc_fresh : FnScope N_fresh P_fresh (defScope s_fresh) := ⟨rfl, rfl, rfl, by decide +kernel, rfl, by decide +kernel, by decide +kernel⟩
section
variable {P : Program} {w : World} {K : PySem.W.Frag} {mg : Str → Option Value} {base : Heap}
theorem ok_fresh (T : Txt mg) {f fd} (D : C8.Def K mg "_law_fresh" s_fresh f fd) (b : Binds K fd P_fresh []) : C8.Cal P w K mg base 1 "_law_fresh" spFresh [] := by
  refine C8.cal0 D b .nil sc_fresh (fun vs H Q E h => ?_) (fun cdv A outer s H vs Q E hr h => ?_)
  · obtain ⟨F, l, ns, rfl, _⟩ := h
    rfl
  · obtain ⟨F, l, ns, rfl, sF, hl, n12, k⟩ := h
    refine ⟨_, (pss_one (ps_ret (pe_ix (k_ixL K) (pe_lc (own := [("letter", 1)]) rfl sc_fresh.nd (pi_str pe_str) (blkOk_by (N := N_fresh) (sc := defScope s_fresh) (by decide +kernel)) (fun _ _ _ _ _ => (pg_name (i := 1) sc_fresh.nd rfl (Or.inl rfl))) (fun _ _ _ _ _ => (pts_one (pt_cmpR (k_notIn K) (pe_op op_repS (pv 1) pe_int) (pv 0) rfl))) (fun _ _ _ _ _ => (pe_op op_repS (pv 1) pe_int))) pe_int (fun _ _ => rfl)))), ?_⟩
    walk_at "zz"
    refine fun D' hD => ?_
    have fD := sF.none hD
    refine lc_it (walk_str (z := abc)) (fun i H' => Nx No F H F H' ∧ H' D' = some (.lst ((((abc.cps.toList.take i).filter fun c => !decide (five c ∈ ns)).map five).map V.str))) ⟨Nx.mak sF hD, upd_same⟩ (fun _ _ _ _ => trivial) ?_ ?_
    · rintro i v H1 H2 hi ⟨N1, h1⟩ ⟨rfl, c, hc, rfl⟩
      have hc' : abc.cps.toList[i]? = some c := by rw [Array.getElem?_toList]; exact hc
      have i26 : i < 26 := hi
      walk_at "zz"
      refine ⟨⟨#[c]⟩, 5, rfl, rfl, five_ok c, ?_⟩
      rw [five_mul]
      walk_at "zz"
      refine z_ninS (N1.sub.sql hl) ?_
      walk_at "zz"
      refine z_iteN (fun no => ?_) (fun yes => ?_)
      · walk_at "zz"
        refine ⟨⟨#[c]⟩, 5, rfl, rfl, five_ok c, ?_⟩
        rw [five_mul]
        refine ⟨_, h1, szl (by rw [List.length_map, List.length_map]; exact Nat.le_trans (List.length_filter_le _ _) (by rw [List.length_take]; omega)), N1.wr (.inl hD) fD, ?_⟩
        rw [upd_same, take_step hc', List.filter_append, List.map_append, List.map_append]
        simp [no]
      · refine ⟨N1, ?_⟩
        rw [h1, take_step hc', List.filter_append, List.map_append, List.map_append]
        simp [yes]
    · rintro H1 ⟨N1, h1⟩
      have e26 : abc.cps.toList.take abc.cps.size = abc.cps.toList := by rw [← Array.length_toList, List.take_length]
      rw [e26] at h1
      obtain ⟨c, r, e⟩ : ∃ c r, (abc.cps.toList.filter fun c => !decide (five c ∈ ns)) = c :: r := by
        cases z : abc.cps.toList.filter fun c => !decide (five c ∈ ns) with
        | nil => exact absurd z (some_fresh n12)
        | cons c r => exact ⟨c, r, rfl⟩
      have m : c ∈ abc.cps.toList.filter fun c => !decide (five c ∈ ns) := by rw [e]; exact List.mem_cons_self
      have m1 := (List.mem_filter.mp m).1
      have m2 : five c ∉ ns := by have := (List.mem_filter.mp m).2; simpa using this
      rw [e] at h1
      walk_at "zz"
      refine z_ixL (i := 0) (SqL.of h1) (atI_nat (j := 0) rfl) ?_
      walk_at "zz"
      exact k (five c) H1 N1 (five_nm m1) m2
end
end EV
end

section
set_option maxHeartbeats 8000000
local macro_rules | `(tactic| walk_at "za") => `(tactic| (first | exact Or.inl ⟨by omega, by omega⟩ | exact Or.inr ⟨by omega, by omega⟩ | exact ⟨by omega, by omega⟩ | exact ⟨by omega, by omega, by omega⟩ | omega))
local macro_rules | `(tactic| walk_at "z") => `(tactic| (first
  | with_reducible refine EV.z_seq ?_ | with_reducible refine EV.z_next ?_ | with_reducible refine EV.z_nx ?_ | with_reducible refine EV.z_rt ?_ | with_reducible refine EV.z_asg ?_ | with_reducible refine EV.z_name ?_
  | with_reducible refine EV.z_drop ?_ | with_reducible refine EV.z_ret ?_ | with_reducible refine EV.z_if ?_
  | ((with_reducible refine EV.z_var (v := ?vv) ?hv ?_); (case hv => exact rfl)) | with_reducible refine EV.z_c ?_ | with_reducible refine EV.z_op ?_ | with_reducible refine EV.z_un ?_ | with_reducible refine EV.z_I0 ?_ | with_reducible refine EV.z_U ?_ | ((with_reducible refine EV.z_I ?hc ?_); (case hc => walk_at "za"))
  | ((with_reducible refine EV.z_eq ?hv ?_); (case hv => exact rfl)) | ((with_reducible refine EV.z_ne ?hv ?_); (case hv => exact rfl))
  | with_reducible refine EV.z_test ?_ | with_reducible refine EV.z_bl ?_ | with_reducible refine EV.z_B ?_ | with_reducible refine EV.z_and ?_ | with_reducible refine EV.z_or ?_ | with_reducible refine EV.z_not ?_ | with_reducible refine EV.z_andV ?_
  | with_reducible refine EV.z_orV ?_ | with_reducible refine EV.z_notV ?_ | with_reducible refine EV.z_ifE ?_ | with_reducible refine EV.z_nil ?_ | with_reducible refine EV.z_cons ?_ | with_reducible refine EV.z_tup ?_ | with_reducible refine EV.z_lst ?_
  | with_reducible refine EV.z_cb ?_ | with_reducible refine EV.z_call ?_ | with_reducible refine EV.z_dget ?_ | with_reducible refine EV.z_dput ?_ | with_reducible refine EV.z_chain ?_ | with_reducible refine EV.z_then ?_ | with_reducible refine EV.z_fld ?_ | with_reducible refine EV.z_bm ?_
  | with_reducible refine EV.z_par ?_ | with_reducible refine EV.z_par3 ?_ | with_reducible refine EV.z_ex2 ?_ | with_reducible refine EV.z_ex3 ?_ | with_reducible refine EV.z_tyes ?_ | ((with_reducible refine EV.z_wipe ?hv ?_); (case hv => exact rfl))
  | with_reducible refine EV.z_lc ?_ | with_reducible refine EV.z_ltS ?_ | with_reducible refine EV.z_disp ?_ | with_reducible refine EV.z_pc ?_ | with_reducible refine EV.z_pn ?_ | with_reducible refine EV.z_m1 ?_ | with_reducible refine EV.z_isS ?_ | with_reducible refine EV.z_sl ?_ | with_reducible refine EV.z_np ?_ | with_reducible refine EV.z_pt ?_ | with_reducible refine EV.z_exI ?_ | with_reducible refine EV.z_is ?_ | with_reducible refine EV.z_istr ?_ | with_reducible refine EV.z_no ?_ | with_reducible refine EV.z_yes ?_ | with_reducible refine EV.z_for ?_ | with_reducible refine EV.z_il ?_ | with_reducible refine EV.z_it ?_ | with_reducible refine EV.z_r1 ?_ | with_reducible refine EV.z_ik ?_ | with_reducible refine EV.z_din ?_ | with_reducible refine EV.z_dnin ?_ | with_reducible refine EV.z_dsd ?_ | with_reducible refine EV.z_gs ?_ | with_reducible refine EV.z_gc ?_ | with_reducible refine EV.z_gn ?_ | with_reducible refine EV.z_turn ?_))
local macro_rules | `(tactic| walk_at "zz") => `(tactic| repeat walk_at "z")
local macro_rules | `(tactic| walk_at "z") => `(tactic| (first | with_reducible refine EV.z_mt ?_ | with_reducible refine EV.z_cS ?_ | with_reducible refine EV.z_mkO ?_ | with_reducible refine EV.z_mkK ?_))
/-! ### a world with one thing otherwise -/
namespace EV
open PySem PySem.Spec PyProof.Rows L2
def spOther : Sp := fun vs H Q _ => ∃ (F : Hp) (a g wa hd lv br : Addr) (L : Hld) (W : Lvs) (bs : Bars) (B : Int), vs = [.ref a, .ref wa] ∧ Sub F H ∧ Sta F H a g B ∧ B + 10 < 1000000000 ∧ Wd F wa hd lv br L W bs ∧ WD L W bs ∧ (bs.map (·.2)).Nodup ∧
  ∀ (wa' hd' lv' br' : Addr) (L2 : Hld) (W2 : Lvs) (bs2 : Bars) F' H', Nx (MS a g) F H F' H' → Sta F' H' a g (B + 10) → Wd F' wa' hd' lv' br' L2 W2 bs2 → WD L2 W2 bs2 → (bs2.map (·.2)).Nodup → DiffW L W bs L2 W2 bs2 → Q (.ref wa') H'
theorem z_dp1 {td ty : TE} {σ : L2.St} {H : Hp} {Q : VK} (q : td σ H fun x H1 => ∃ a, x = .ref a ∧ IsD H1 a ∧ ty σ H1 fun y H2 => ∃ (kvs : List (Key × V)) (k : Key) (v : V), H2 a = some (.dK kvs) ∧ y = kV k ∧ valV kvs k = some v ∧ Q v (upd H2 a (.dK (dropK kvs k)))) : tDPop1 td ty σ H Q := q
theorem at_ahead {N : List Str} {x : Str} {j : Nat} (nd : N.Nodup) (h : N[j]? = some x) (l : 1 < N.length) : ∃ o, atI (N.map V.str) ((j : Int) - 1) = some (.str o) ∧ o ≠ x ∧ o ∈ N := by
  have jl := (List.getElem?_eq_some_iff.mp h).1
  have inj : ∀ {i k : Nat} {z : Str}, N[i]? = some z → N[k]? = some z → i = k := fun {i k z} a b => by
    obtain ⟨li, ei⟩ := List.getElem?_eq_some_iff.mp a
    obtain ⟨lk, ek⟩ := List.getElem?_eq_some_iff.mp b
    have pw := List.pairwise_iff_getElem.mp nd
    rcases Nat.lt_trichotomy i k with c | c | c
    · exact absurd (ei.trans ek.symm) (pw i k li lk c)
    · exact c
    · exact absurd (ek.trans ei.symm) (pw k i lk li c)
  cases j with
  | zero =>
    have e : N[N.length - 1]? = some (N[N.length - 1]'(by omega)) := List.getElem?_eq_getElem _
    refine ⟨N[N.length - 1]'(by omega), ?_, fun z => ?_, List.getElem_mem _⟩
    · have := atI_last (ys := N) (y := N[N.length - 1]'(by omega)) (by rw [List.getLast?_eq_getElem?]; exact e)
      exact this
    · have := inj e (z ▸ h)
      omega
  | succ j =>
    have e : N[j]? = some (N[j]'(by omega)) := List.getElem?_eq_getElem _
    refine ⟨N[j]'(by omega), ?_, fun z => ?_, List.getElem_mem _⟩
    · rw [show ((j + 1 : Nat) : Int) - 1 = (j : Int) by omega]
      exact atI_nat (j := j) (by rw [List.getElem?_map, e]; rfl)
    · have := inj e (z ▸ h)
      omega
abbrev s_otherwise : Stmt := top 44
abbrev N_otherwise : List Str := ["state", "world", "one", "held", "sizes", "fences", "way", "person", "folk", "more", "sheet", "pair", "added"]
abbrev P_otherwise : List Str := ["state", "world"]
theorem sc_otherwise : FnScope N_otherwise P_otherwise (defScope s_otherwise) := ⟨rfl, rfl, rfl, by decide +kernel, rfl, by decide +kernel, by decide +kernel⟩
section
variable {P : Program} {w : World} {K : PySem.W.Frag} {mg : Str → Option Value} {base : Heap}
theorem ok_otherwise (T : Txt mg) (c_take : C8.Cal P w K mg base 2 "_law_take" spTake []) (c_pick : C8.Cal P w K mg base 3 "_law_pick" spPick []) (c_fresh : C8.Cal P w K mg base 1 "_law_fresh" spFresh []) {f fd} (D : C8.Def K mg "_law_otherwise" s_otherwise f fd) (b : Binds K fd P_otherwise []) : C8.Cal P w K mg base 4 "_law_otherwise" spOther [] := by
  refine C8.cal0 D b .nil sc_otherwise (fun vs H Q E h => ?_) (fun cdv A outer s H vs Q E hr h => ?_)
  · obtain ⟨F, a, g, wa, hd, lv, br, L, W, bs, B, rfl, _⟩ := h
    rfl
  · obtain ⟨F, a, g, wa, hd, lv, br, L, W, bs, B, rfl, sF, S, hB, d, D, bn, k⟩ := h
    have hu := hu_of hr
    have hu65 := hu65_of hr
    refine ⟨_, (pss_cons (ps_set (i := 3) sc_otherwise.nd rfl (Or.inl rfl) (pe_callTy (call_dictP rfl) rfl T.b_dict (by decide +kernel) (pa_cons (pe_lock (pe_lc (own := [("one", 2)]) rfl sc_otherwise.nd (pi_keys (pe_dget hu (pv 1) pe_str (fun _ _ => rfl))) (blkOk_by (N := N_otherwise) (sc := defScope s_otherwise) (by decide +kernel)) (fun _ _ _ _ _ => (pg_name (i := 2) sc_otherwise.nd rfl (Or.inl rfl))) (fun _ _ _ _ _ => pts_nil) (fun _ _ _ _ _ => (pe_tup (pa_cons (pv 2) (pa_cons (pe_callTy (k_listOf K) rfl T.b_list (by decide +kernel) (pa_cons (pe_dget hu (pe_dget hu (pv 1) pe_str (fun _ _ => rfl)) (pv 2) (fun _ _ => rfl)) pa_nil)) pa_nil)))))) pa_nil)))
  (pss_cons (ps_par (i := 4) (j := 5) rfl sc_otherwise.nd rfl rfl (by decide) rfl rfl (pa_cons (pe_callTy call_dictD rfl T.b_dict (by decide +kernel) (pa_cons (pe_dget hu (pv 1) pe_str (fun _ _ => rfl)) pa_nil)) (pa_cons (pe_callTy (k_listOf K) rfl T.b_list (by decide +kernel) (pa_cons (pe_dget hu (pv 1) pe_str (fun _ _ => rfl)) pa_nil)) pa_nil)) rfl)
  (pss_cons (ps_set (i := 6) sc_otherwise.nd rfl (Or.inl rfl) (C8.pe_c c_take hr (by decide) rfl (pa_cons (pv 0) (pa_cons pe_int pa_nil))))
  (pss_cons (ps_asg (pe_tup (pa_cons (C8.pe_c c_pick hr (by decide) rfl (pa_cons (pv 0) (pa_cons (pe_callTy (call_listD rfl) rfl T.b_list (by decide +kernel) (pa_cons (pv 3) pa_nil)) pa_nil))) (pa_cons (pe_callTy (call_listD rfl) rfl T.b_list (by decide +kernel) (pa_cons (pv 3) pa_nil)) pa_nil))) (k_pgt K 2 rfl (pgs_cons (pg_name (i := 7) sc_otherwise.nd rfl (Or.inr rfl)) (pgs_cons (pg_name (i := 8) sc_otherwise.nd rfl (Or.inl rfl)) pgs_nil))))
  (pss_cons (ps_set (i := 9) sc_otherwise.nd rfl (Or.inl rfl) (pe_slice (k_slL K) (pe_lst (pa_cons (C8.pe_c c_fresh hr (by decide) rfl (pa_cons (pe_callTy (call_listD rfl) rfl T.b_list (by decide +kernel) (pa_cons (pv 4) pa_nil)) pa_nil)) pa_nil)) po_none (po_some (pe_op op_sub pe_int (pe_callB call_lenD rfl T.b_len PySem.boot_len (pa_cons (pv 4) pa_nil))))))
  (pss_cons (ps_set (i := 10) sc_otherwise.nd rfl (Or.inl rfl) (C8.pe_c c_pick hr (by decide) rfl (pa_cons (pv 0) (pa_cons (pe_op op_cat (pe_callTy (call_listD rfl) rfl T.b_list (by decide +kernel) (pa_cons (pv 4) pa_nil)) (pv 9)) pa_nil))))
  (C8.pss_cut (ps_if (PW.pt (pw_and (pt_cmpR op_eq (pv 6) pe_int (nomark _)) (pw_and1 (pt_cmpR (k_notIn K) (pv 10) (pe_dget hu (pv 3) (pv 7) (fun _ _ => rfl)) rfl))))
    (pss_cons (ps_dput hu (pv 3) (pv 7) (pe_op op_cat (pe_dget hu (pv 3) (pv 7) (fun _ _ => rfl)) (pe_lst (pa_cons (pv 10) pa_nil))) rfl)
  (pss_one (ps_expr (pe_dsetd (pv 4) (pv 10) pe_int ⟨rfl, rfl, rfl, rfl⟩))))
    (pss_one (ps_if (PW.pt (pw_and (pt_cmpR op_eq (pv 6) pe_int (nomark _)) (pw_and1 (pt_cmp (pc_din hu (pv 10) (pv 4))))))
    (pss_one (ps_dput hu (pv 4) (pv 10) (pe_op op_add (pe_op op_mod (pe_dget hu (pv 4) (pv 10) (fun _ _ => rfl)) pe_int) pe_int) rfl))
    (pss_one (ps_if (PW.pt (pw_and (pt_cmpR op_eq (pv 6) pe_int (nomark _)) (pw_and1 (pt_cmpR op_gt (pe_callB (k_len K) rfl T.b_len PySem.boot_len (pa_cons (pv 8) pa_nil)) pe_int (nomark _)))))
    (pss_cons (ps_set (i := 11) sc_otherwise.nd rfl (Or.inr rfl) (k_tupleOf K rfl T.b_tuple (pe_callB (k_sortedS K) rfl T.b_sorted (by decide +kernel) (pa_cons (pe_lst (pa_cons (pv 7) (pa_cons (pe_ix (k_ixL K) (pv 8) (pe_op op_sub (k_index K (pv 8) (pa_cons (pv 7) pa_nil)) pe_int) (fun _ _ => rfl)) pa_nil))) pa_nil))))
  (pss_cons (ps_set (i := 12) sc_otherwise.nd rfl (Or.inl rfl) (pe_op op_rep (pe_lst (pa_cons (pv 11) pa_nil)) (pe_callTy call_int1 rfl T.b_int (by decide +kernel) (pa_cons (pe_cmpR (k_notInD K hu65) (pv 11) (pv 5) rfl) pa_nil))))
  (pss_one (ps_set (i := 5) sc_otherwise.nd rfl (Or.inl rfl) (pe_op op_cat (pe_lc (own := [("one", 2)]) rfl sc_otherwise.nd (k_pil K (pv 5)) (blkOk_by (N := N_otherwise) (sc := defScope s_otherwise) (by decide +kernel)) (fun _ _ _ _ _ => (pg_name (i := 2) sc_otherwise.nd rfl (Or.inl rfl))) (fun _ _ _ _ _ => (pts_one (pt_cmpR (k_neD K hr.units) (pv 2) (pv 11) (nomark _)))) (fun _ _ _ _ _ => (pv 2))) (pv 12))))))
    (pss_cons (ps_dput hu (pv 3) (C8.pe_c c_fresh hr (by decide) rfl (pa_cons (pv 8) pa_nil)) (pe_dpop1 (pv 3) (pv 7) ⟨rfl, rfl, rfl, rfl⟩) rfl)
  (pss_one (ps_setLc (i := 5) (own := [("pair", 11)]) rfl sc_otherwise.nd rfl rfl (sw_true rfl rfl rfl (by decide +kernel)) (k_pil K (pv 5)) (blkOk_by (N := N_otherwise) (sc := defScope s_otherwise) (by decide +kernel)) (fun _ _ _ _ _ => (pg_name (i := 11) sc_otherwise.nd rfl (Or.inl rfl))) (fun _ _ _ _ _ => (pts_one (pt_cmpR (k_notIn K) (pv 7) (pv 11) rfl))) (fun _ _ _ _ _ => (pv 11))))))))))
  (pss_one (ps_ret (pe_disp (pps_cons pe_str (pv 3) (pps_cons pe_str (pv 4) (pps_cons pe_str (pv 5) pps_nil))) rfl rfl (by simp) (by decide))))))))))), ?_⟩
    have hh := sF _ _ d.hh
    have hw := sF _ _ d.hw
    have l6 := D.n6
    have whd : wa ≠ hd := fun z => by
      have a := d.hw
      rw [z, d.hh] at a
      have b : heldK L = wK hd lv br := HO.dK.inj (Option.some.inj a)
      cases e : L with
      | nil => rw [e] at b; cases b
      | cons t L' =>
        rw [e] at b
        have q : t.2.1 = hd := V.ref.inj (congrArg (·.2) (List.cons.inj b).1)
        have h := d.ha t (by rw [e]; exact List.mem_cons_self)
        rw [q, d.hh] at h
        cases h
    walk_at "zz"
    refine z_lockE hh (by trivial) fun od => ?_
    have hL : (upd H hd (.frz od (.dK (heldK L)))) hd = some (.frz od (.dK (heldK L))) := upd_same
    have hwL : (upd H hd (.frz od (.dK (heldK L)))) wa = some (.dK (wK hd lv br)) := by rw [upd_ne whd]; exact hw
    have hpL : ∀ t ∈ L, (upd H hd (.frz od (.dK (heldK L)))) t.2.1 = some (.lst (t.2.2.map V.str)) := fun t ht => by
      rw [upd_ne (ne_of (sF _ _ (d.ha t ht)) hh (fun z => nomatch z))]; exact sF _ _ (d.ha t ht)
    have oldL : ∀ {x}, (upd H hd (.frz od (.dK (heldK L)))) x = none → H x = none := fun {x} h => by
      by_cases z : x = hd
      · rw [z, upd_same] at h; cases h
      · rwa [upd_ne z] at h
    have unl : ∀ {H1 : Hp}, (∀ x o, (upd H hd (.frz od (.dK (heldK L)))) x = some o → H1 x = some o) → Nx No F H F (upd H1 hd (.dK (heldK L))) := fun h => nx_unlock sF hh h
    generalize upd H hd (.frz od (.dK (heldK L))) = HL at hL hwL hpL oldL unl ⊢
    walk_at "zz"
    refine z_dgetR (.inl hwL) w_held ?_
    refine ⟨hd, od, rfl, .inl ⟨heldK L, hL, fun D' hD => ?_⟩⟩
    refine lc_it walk_keys (fun i H' => (∀ x o, HL x = some o → H' x = some o) ∧ ∃ ps : List Quad, H' D' = some (.lst (ps.map fun p => V.ref p.1)) ∧ ps.map (fun p => (p.2.1, p.2.2.2)) = (L.take i).map (fun t => (t.1, t.2.2)) ∧
        ∀ p ∈ ps, H' p.1 = some (.tup [.str p.2.1, .ref p.2.2.1]) ∧ H' p.2.2.1 = some (.lst (p.2.2.2.map V.str)) ∧ HL p.2.2.1 = none ∧ p.2.2.1 ≠ D') ⟨fun x o e => upd_keep e hD, [], upd_same, rfl, fun p hp => (by cases hp)⟩ (fun i H' _ h => h.1 _ _ hL) ?_ ?_
    · rintro i v H1 H2 hi ⟨k1, ps, h1, e1, q1⟩ ⟨rfl, ky, vv, hk, rfl⟩
      rw [held_len] at hi
      obtain ⟨t, ht, et⟩ : ∃ t, L[i]? = some t ∧ (key t.1, V.ref t.2.1) = (ky, vv) := by
        rw [heldK, List.getElem?_map] at hk
        cases e : L[i]? with
        | none => rw [e] at hk; cases hk
        | some t => rw [e] at hk; exact ⟨t, rfl, Option.some.inj hk⟩
      obtain ⟨rfl, rfl⟩ := Prod.mk.inj et
      have tm := List.mem_of_getElem? ht
      have pl : ps.length ≤ 6 := by have := congrArg List.length e1; rw [List.length_map, List.length_map, List.length_take] at this; omega
      walk_at "zz"
      refine z_dgetR (.inl (k1 _ _ hwL)) w_held ?_
      walk_at "zz"
      refine z_dgetR (frz_rd (k1 _ _ hL)) (held_val D.nd tm) ?_
      walk_at "zz"
      refine z_list (.inl (SqL.of (k1 _ _ (hpL t tm)))) fun l hl => ?_
      have lD : l ≠ D' := (ne_of_none h1 hl).symm
      have h2 := upd_keep (o := .lst (t.2.2.map V.str)) h1 hl
      have g2 : (upd H2 l (.lst (t.2.2.map V.str))) l = some (.lst (t.2.2.map V.str)) := upd_same
      have lL : HL l = none := by
        cases z : HL l with
        | none => rfl
        | some o => rw [k1 _ _ z] at hl; cases hl
      have k2 : ∀ x o, H2 x = some o → (upd H2 l (.lst (t.2.2.map V.str))) x = some o := fun x o e => upd_keep e hl
      generalize upd H2 l (.lst (t.2.2.map V.str)) = H3 at h2 g2 k2 ⊢
      walk_at "zz"
      refine ⟨sz (by show 2 ≤ 100000; decide), fun r hr' => ?_⟩
      have h3 := upd_keep (o := .tup [.str t.1, .ref l]) h2 hr'
      have rD : D' ≠ r := ne_of_none h2 hr'
      refine ⟨_, h3, szl (by rw [List.length_map]; omega), fun x o e => ?_, ps ++ [(r, t.1, l, t.2.2)], ?_, ?_, fun p hp => ?_⟩
      · rw [upd_ne (fun z => by rw [z, hD] at e; cases e)]
        exact upd_keep (k2 _ _ (k1 _ _ e)) hr'
      · rw [upd_same, List.map_append]; rfl
      · rw [List.map_append, e1, take_step ht, List.map_append]; rfl
      · rcases List.mem_append.mp hp with hp | hp
        · obtain ⟨a1, a2, a3, a4⟩ := q1 p hp
          refine ⟨?_, ?_, a3, a4⟩
          · rw [upd_ne (ne_of a1 h1 (fun z => nomatch z))]; exact upd_keep (k2 _ _ a1) hr'
          · rw [upd_ne a4]; exact upd_keep (k2 _ _ a2) hr'
        · rw [List.mem_singleton.mp hp]
          refine ⟨?_, ?_, lL, lD⟩
          · rw [upd_ne rD.symm]; exact upd_same
          · rw [upd_ne lD]; exact upd_keep g2 hr'
    · rintro H1 ⟨k1, ps, h1, e1, q1⟩
      rw [held_len, List.take_length] at e1
      refine ⟨k1 _ _ hL, ?_⟩
      have N1 := unl k1
      have Dh : D' ≠ hd := fun z => by rw [z, hL] at hD; cases hD
      have h2 : (upd H1 hd (.dK (heldK L))) D' = some (.lst (ps.map fun p => V.ref p.1)) := by rw [upd_ne Dh]; exact h1
      have q2 : ∀ p ∈ ps, (upd H1 hd (.dK (heldK L))) p.1 = some (.tup [.str p.2.1, .ref p.2.2.1]) ∧ (upd H1 hd (.dK (heldK L))) p.2.2.1 = some (.lst (p.2.2.2.map V.str)) ∧ H p.2.2.1 = none := fun p hp => by
        obtain ⟨a1, a2, a3, _⟩ := q1 p hp
        refine ⟨?_, ?_, oldL a3⟩
        · rw [upd_ne (ne_of a1 (k1 _ _ hL) (fun z => nomatch z))]; exact a1
        · rw [upd_ne (fun z => by rw [z, hL] at a3; cases a3)]; exact a2
      generalize upd H1 hd (.dK (heldK L)) = H2 at N1 h2 q2 ⊢
      walk_at "zz"
      have evw : vw (ps.map fun p => (p.2.1, p.2.2.1, p.2.2.2)) = vw L := by rw [← show L.map (fun t => (t.1, t.2.2)) = vw L from rfl, ← e1, vw, List.map_map]; rfl
      have ekeys : (ps.map fun p => (p.2.1, p.2.2.1, p.2.2.2)).map (·.1) = L.map (·.1) := by rw [← vw_keys, ← vw_keys, evw]
      have pd := paired_of (K := K) (H := H2) (ps := ps) fun p hp => SqT.of (q2 p hp).1
      refine ⟨D', ps.map (fun p : Quad => p.1), heldK (ps.map fun p : Quad => (p.2.1, p.2.2.1, p.2.2.2)), rfl, SqL.of (by rw [List.map_map]; exact h2), pd, fun q hq => ?_⟩
      have mk := mergeK_held (L := ps.map fun p => (p.2.1, p.2.2.1, p.2.2.2)) (A := []) (by rw [List.nil_append, ekeys]; exact D.nd)
      rw [List.nil_append] at mk
      rw [show mergeK [] (heldK (ps.map fun p => (p.2.1, p.2.2.1, p.2.2.2))) = heldK (ps.map fun p => (p.2.1, p.2.2.1, p.2.2.2)) from mk]
      have hL3 : ∀ t ∈ (ps.map fun p => ((p.2.1, p.2.2.1, p.2.2.2) : Str × Addr × List Str)), H2 t.2.1 = some (.lst (t.2.2.map V.str)) ∧ H t.2.1 = none := fun t ht => by
        obtain ⟨p, hp, rfl⟩ := List.mem_map.mp ht
        exact (q2 p hp).2
      generalize (ps.map fun p => ((p.2.1, p.2.2.1, p.2.2.2) : Str × Addr × List Str)) = L3 at evw ekeys hL3 ⊢
      have N2 := N1.trans (Nx.mak (M := No) (o := .dK (heldK L3)) N1.sub hq)
      have hq3 : (upd H2 q (.dK (heldK L3))) q = some (.dK (heldK L3)) := upd_same
      have hL4 : ∀ t ∈ L3, (upd H2 q (.dK (heldK L3))) t.2.1 = some (.lst (t.2.2.map V.str)) ∧ H t.2.1 = none ∧ t.2.1 ≠ q := fun t ht => ⟨upd_keep (hL3 t ht).1 hq, (hL3 t ht).2, ne_of_none (hL3 t ht).1 hq⟩
      have fq := N1.sub.none hq
      have hq0 := N1.old hq
      generalize upd H2 q (.dK (heldK L3)) = H3 at N2 hq3 hL4 ⊢
      have N3 := N2.frzS (fun x => H x = none ∧ x ≠ q) fun x h => h.1
      have fq3 : frzS F H3 (fun x => H x = none ∧ x ≠ q) q = none := frzS_no (fun z => z.2 rfl) fq
      have hA3 : HeldA (frzS F H3 (fun x => H x = none ∧ x ≠ q)) L3 := fun t ht => by
        obtain ⟨a1, a2, a3⟩ := hL4 t ht
        exact frzS_new ⟨a2, a3⟩ a1 N2.sub
      have d3 := d.sub N3.mono
      generalize frzS F H3 (fun x => H x = none ∧ x ≠ q) = F3 at N3 fq3 hA3 d3
      have Z3 := (Cz.start sF S).pure N3
      have D3 := D.same evw
      have k3 : ∀ (wa' hd' lv' br' : Addr) (L2 : Hld) (W2 : Lvs) (bs2 : Bars) F' H', Cz a g F H F' H' (B + 10) → Wd F' wa' hd' lv' br' L2 W2 bs2 → WD L2 W2 bs2 ∧ DiffW L3 W bs L2 W2 bs2 → (bs2.map (·.2)).Nodup → Q (.ref wa') H' := fun wa' hd' lv' br' L2 W2 bs2 F' H' z dd h nn => k wa' hd' lv' br' L2 W2 bs2 F' H' z.N z.S dd h.1 nn (h.2.same evw)
      clear N3 N2 N1 hL4 hL3 pd e1 q1 q2 h1 h2 k1 unl oldL hpL hwL hL hD Dh hq fq k evw ekeys mk hh hw l6 whd
      clear d D S
      have l6 := D3.n6
      have l1 := D3.n1
      have wl := D3.wl
      walk_at "zz"
      refine z_dgetR (Z3.sub.rd d3.hw) w_leaves ?_
      walk_at "zz"
      refine ⟨lv, _, rfl, .inl (Z3.sub _ _ d3.hv), fun p hp => ?_⟩
      have hp0 := Z3.old hp
      have fp3 := Z3.sub.none hp
      have Z4 := Z3.mak hp (.dK (lvK W))
      have hq4 := upd_keep (o := .dK (lvK W)) hq3 hp
      have hp4 : (upd H3 p (.dK (lvK W))) p = some (.dK (lvK W)) := upd_same
      have npq : q ≠ p := ne_of_none hq3 hp
      generalize upd H3 p (.dK (lvK W)) = H4 at Z4 hq4 hp4 ⊢
      walk_at "zz"
      refine z_dgetR (Z4.sub.rd d3.hw) w_bars ?_
      walk_at "zz"
      refine z_list (.inl (Z4.sub.sql d3.hb)) fun r hr1 => ?_
      have Z5 := Z4.lay hr1 (.lst (bs.map fun t => V.ref t.1))
      have s5 : Sub F3 (upd F3 r (.lst (bs.map fun t => V.ref t.1))) := fun x o e => upd_keep e (Z4.sub.none hr1)
      have gr5 : (upd F3 r (.lst (bs.map fun t => V.ref t.1))) r = some (.lst (bs.map fun t => V.ref t.1)) := upd_same
      have hq5 := upd_keep (o := .lst (bs.map fun t => V.ref t.1)) hq4 hr1
      have hp5 := upd_keep (o := .lst (bs.map fun t => V.ref t.1)) hp4 hr1
      have fq5 : (upd F3 r (.lst (bs.map fun t => V.ref t.1))) q = none := by rw [upd_ne (ne_of_none hq4 hr1)]; exact fq3
      have fp5 : (upd F3 r (.lst (bs.map fun t => V.ref t.1))) p = none := by rw [upd_ne (ne_of_none hp4 hr1)]; exact fp3
      have hA5 : HeldA (upd F3 r (.lst (bs.map fun t => V.ref t.1))) L3 := fun t ht => s5 _ _ (hA3 t ht)
      have hB5 : BarsA (upd F3 r (.lst (bs.map fun t => V.ref t.1))) bs := fun t ht => s5 _ _ (d3.ba t ht)
      generalize upd F3 r (.lst (bs.map fun t => V.ref t.1)) = F5 at Z5 gr5 fq5 fp5 hA5 hB5
      generalize upd H4 r (.lst (bs.map fun t => V.ref t.1)) = H5 at Z5 hq5 hp5 ⊢
      clear Z3 Z4 hq3 hq4 hp4 fq3 fp3 hA3 d3 s5
      walk_at "zz"
      refine z_takeC Z5 (by omega) (by omega) (by omega) fun way H6 w0 w1 Z6 K6 => ?_
      have hq6 := (K6 _ _ hq5 hq0 fq5).1
      have hp6 := (K6 _ _ hp5 hp0 fp5).1
      walk_at "zz"
      refine ⟨q, _, rfl, .inl hq6, fun l0 hl0 => ?_⟩
      rw [held_keys]
      have Z7 := Z6.lay hl0 (.lst ((L3.map (·.1)).map V.str))
      have s7 : Sub F5 (upd F5 l0 (.lst ((L3.map (·.1)).map V.str))) := fun x o e => upd_keep e (Z6.sub.none hl0)
      have gl7 : (upd F5 l0 (.lst ((L3.map (·.1)).map V.str))) l0 = some (.lst ((L3.map (·.1)).map V.str)) := upd_same
      have hq7 := upd_keep (o := .lst ((L3.map (·.1)).map V.str)) hq6 hl0
      have hp7 := upd_keep (o := .lst ((L3.map (·.1)).map V.str)) hp6 hl0
      have fq7 : (upd F5 l0 (.lst ((L3.map (·.1)).map V.str))) q = none := by rw [upd_ne (ne_of_none hq6 hl0)]; exact fq5
      have fp7 : (upd F5 l0 (.lst ((L3.map (·.1)).map V.str))) p = none := by rw [upd_ne (ne_of_none hp6 hl0)]; exact fp5
      generalize upd F5 l0 (.lst ((L3.map (·.1)).map V.str)) = F7 at Z7 s7 gl7 fq7 fp7
      generalize upd H6 l0 (.lst ((L3.map (·.1)).map V.str)) = H7 at Z7 hq7 hp7 ⊢
      walk_at "zz"
      refine z_pickL (E := C8.E0) Z7 gl7 (by rw [List.length_map, List.length_map]; omega) (by rw [List.length_map, List.length_map]; omega) (by omega) fun v H8 hv Z8 K8 => ?_
      obtain ⟨x, hx, rfl⟩ := List.mem_map.mp hv
      have hq8 := K8 _ _ hq7 hq0
      have hp8 := K8 _ _ hp7 hp0
      walk_at "zz"
      refine ⟨q, _, rfl, .inl hq8, fun l hl => ?_⟩
      rw [held_keys]
      have Z9 := Z8.lay hl (.lst ((L3.map (·.1)).map V.str))
      have s9 : Sub F7 (upd F7 l (.lst ((L3.map (·.1)).map V.str))) := fun x o e => upd_keep e (Z8.sub.none hl)
      have gl9 : (upd F7 l (.lst ((L3.map (·.1)).map V.str))) l = some (.lst ((L3.map (·.1)).map V.str)) := upd_same
      have hq9 := upd_keep (o := .lst ((L3.map (·.1)).map V.str)) hq8 hl
      have hp9 := upd_keep (o := .lst ((L3.map (·.1)).map V.str)) hp8 hl
      have fq9 : (upd F7 l (.lst ((L3.map (·.1)).map V.str))) q = none := by rw [upd_ne (ne_of_none hq8 hl)]; exact fq7
      have fp9 : (upd F7 l (.lst ((L3.map (·.1)).map V.str))) p = none := by rw [upd_ne (ne_of_none hp8 hl)]; exact fp7
      have hA9 : HeldA (upd F7 l (.lst ((L3.map (·.1)).map V.str))) L3 := fun t ht => s9 _ _ (s7 _ _ (hA5 t ht))
      have hB9 : BarsA (upd F7 l (.lst ((L3.map (·.1)).map V.str))) bs := fun t ht => s9 _ _ (s7 _ _ (hB5 t ht))
      have gr9 := s9 _ _ (s7 _ _ gr5)
      generalize upd F7 l (.lst ((L3.map (·.1)).map V.str)) = F9 at Z9 gl9 fq9 fp9 hA9 hB9 gr9
      generalize upd H8 l (.lst ((L3.map (·.1)).map V.str)) = H9 at Z9 hq9 hp9 ⊢
      clear Z5 Z6 Z7 Z8 K6 K8 hq5 hp5 hq6 hp6 hq7 hp7 hq8 hp8 fq5 fp5 fq7 fp7 hA5 hB5 gr5 gl7 s7 s9
      walk_at "zz"
      refine ⟨sz (by show 2 ≤ 100000; decide), fun u hu' => ?_⟩
      have Z10 := Z9.mak hu' (.tup [.str x, .ref l])
      have hq10 := upd_keep (o := .tup [.str x, .ref l]) hq9 hu'
      have hp10 := upd_keep (o := .tup [.str x, .ref l]) hp9 hu'
      have u10 : (upd H9 u (.tup [.str x, .ref l])) u = some (.tup [.str x, .ref l]) := upd_same
      generalize upd H9 u (.tup [.str x, .ref l]) = H10 at Z10 hq10 hp10 u10 ⊢
      refine z_gt (SqT.of u10) rfl ?_
      walk_at "zz"
      refine ⟨p, _, rfl, .inl hp10, fun l1 hl1 => ?_⟩
      rw [lv_keys]
      have Z11 := Z10.lay hl1 (.lst ((W.map (·.1)).map V.str))
      have gl11 : (upd F9 l1 (.lst ((W.map (·.1)).map V.str))) l1 = some (.lst ((W.map (·.1)).map V.str)) := upd_same
      have s11 : Sub F9 (upd F9 l1 (.lst ((W.map (·.1)).map V.str))) := fun x o e => upd_keep e (Z10.sub.none hl1)
      have hq11 := upd_keep (o := .lst ((W.map (·.1)).map V.str)) hq10 hl1
      have hp11 := upd_keep (o := .lst ((W.map (·.1)).map V.str)) hp10 hl1
      have fq11 : (upd F9 l1 (.lst ((W.map (·.1)).map V.str))) q = none := by rw [upd_ne (ne_of_none hq10 hl1)]; exact fq9
      have fp11 : (upd F9 l1 (.lst ((W.map (·.1)).map V.str))) p = none := by rw [upd_ne (ne_of_none hp10 hl1)]; exact fp9
      generalize upd F9 l1 (.lst ((W.map (·.1)).map V.str)) = F11 at Z11 gl11 s11 fq11 fp11
      generalize upd H10 l1 (.lst ((W.map (·.1)).map V.str)) = H11 at Z11 hq11 hp11 ⊢
      walk_at "zz"
      refine ⟨F11, l1, W.map (·.1), rfl, Z11.sub, gl11, by rw [List.length_map]; exact wl, fun y H12 N12 ny noy => ?_⟩
      have Z12 := Z11.pure N12
      have hq12 := N12.keep _ _ hq11 fun k => k
      have hp12 := N12.keep _ _ hp11 fun k => k
      walk_at "zz"
      refine ⟨sz (by show 1 ≤ 100000; decide), fun m0 hm0 => ?_⟩
      have Z13 := Z12.mak hm0 (.lst ([y].map V.str))
      have hq13 := upd_keep (o := .lst ([y].map V.str)) hq12 hm0
      have hp13 := upd_keep (o := .lst ([y].map V.str)) hp12 hm0
      have m13 : (upd H12 m0 (.lst ([y].map V.str))) m0 = some (.lst ([y].map V.str)) := upd_same
      rw [show [V.str y] = [y].map V.str from rfl]
      generalize upd H12 m0 (.lst ([y].map V.str)) = H13 at Z13 hq13 hp13 m13 ⊢
      walk_at "zz"
      refine ⟨p, _, rfl, hp13, ?_⟩
      rw [lv_len]
      walk_at "zz"
      refine z_slL (SqL.of m13) fun m hm => ?_
      rw [show (12 : Int) - (W.length : Int) = ((12 - W.length : Nat) : Int) by omega, cut_to]
      have Z14 := Z13.mak hm (.lst (([y].take (12 - W.length)).map V.str))
      have hq14 := upd_keep (o := .lst (([y].take (12 - W.length)).map V.str)) hq13 hm
      have hp14 := upd_keep (o := .lst (([y].take (12 - W.length)).map V.str)) hp13 hm
      have m14 : (upd H13 m (.lst (([y].take (12 - W.length)).map V.str))) m = some (.lst (([y].take (12 - W.length)).map V.str)) := upd_same
      generalize upd H13 m (.lst (([y].take (12 - W.length)).map V.str)) = H14 at Z14 hq14 hp14 m14 ⊢
      clear Z10 Z11 Z12 Z13 hq10 hp10 hq11 hp11 hq12 hp12 hq13 hp13 m13
      walk_at "zz"
      refine ⟨p, _, rfl, .inl hp14, fun l2 hl2 => ?_⟩
      rw [lv_keys]
      have Z15 := Z14.mak hl2 (.lst ((W.map (·.1)).map V.str))
      have hq15 := upd_keep (o := .lst ((W.map (·.1)).map V.str)) hq14 hl2
      have hp15 := upd_keep (o := .lst ((W.map (·.1)).map V.str)) hp14 hl2
      have m15 := upd_keep (o := .lst ((W.map (·.1)).map V.str)) m14 hl2
      have l15 : (upd H14 l2 (.lst ((W.map (·.1)).map V.str))) l2 = some (.lst ((W.map (·.1)).map V.str)) := upd_same
      generalize upd H14 l2 (.lst ((W.map (·.1)).map V.str)) = H15 at Z15 hq15 hp15 m15 l15 ⊢
      walk_at "zz"
      have tl1 : ([y].take (12 - W.length)).length ≤ 1 := by rw [List.length_take]; simp; omega
      refine z_cat l15 m15 (by rw [List.length_map, List.length_map, List.length_map]; omega) fun l3 hl3 => ?_
      rw [← List.map_append]
      have Z16 := Z15.lay hl3 (.lst ((W.map (·.1) ++ [y].take (12 - W.length)).map V.str))
      have s16 : Sub F11 (upd F11 l3 (.lst ((W.map (·.1) ++ [y].take (12 - W.length)).map V.str))) := fun x o e => upd_keep e (Z15.sub.none hl3)
      have gl16 : (upd F11 l3 (.lst ((W.map (·.1) ++ [y].take (12 - W.length)).map V.str))) l3 = some (.lst ((W.map (·.1) ++ [y].take (12 - W.length)).map V.str)) := upd_same
      have hq16 := upd_keep (o := .lst ((W.map (·.1) ++ [y].take (12 - W.length)).map V.str)) hq15 hl3
      have hp16 := upd_keep (o := .lst ((W.map (·.1) ++ [y].take (12 - W.length)).map V.str)) hp15 hl3
      have fq16 : (upd F11 l3 (.lst ((W.map (·.1) ++ [y].take (12 - W.length)).map V.str))) q = none := by rw [upd_ne (ne_of_none hq15 hl3)]; exact fq11
      have fp16 : (upd F11 l3 (.lst ((W.map (·.1) ++ [y].take (12 - W.length)).map V.str))) p = none := by rw [upd_ne (ne_of_none hp15 hl3)]; exact fp11
      have hA16 : HeldA (upd F11 l3 (.lst ((W.map (·.1) ++ [y].take (12 - W.length)).map V.str))) L3 := fun t ht => s16 _ _ (s11 _ _ (hA9 t ht))
      have hB16 : BarsA (upd F11 l3 (.lst ((W.map (·.1) ++ [y].take (12 - W.length)).map V.str))) bs := fun t ht => s16 _ _ (s11 _ _ (hB9 t ht))
      have gr16 := s16 _ _ (s11 _ _ gr9)
      have gl16' := s16 _ _ (s11 _ _ gl9)
      generalize upd F11 l3 (.lst ((W.map (·.1) ++ [y].take (12 - W.length)).map V.str)) = F16 at Z16 gl16 fq16 fp16 hA16 hB16 gr16 gl16'
      generalize upd H15 l3 (.lst ((W.map (·.1) ++ [y].take (12 - W.length)).map V.str)) = H16 at Z16 hq16 hp16 ⊢
      have pos : 0 < (W.map (·.1) ++ [y].take (12 - W.length)).length := by
        rw [List.length_append, List.length_map, List.length_take]
        simp only [List.length_singleton]; omega
      refine z_pickL (E := C8.E0) Z16 gl16 (by rw [List.length_map]; exact pos) (by rw [List.length_map, List.length_append, List.length_map]; omega) (by omega) fun v H17 hv Z17 K17 => ?_
      obtain ⟨s, hs, rfl⟩ := List.mem_map.mp hv
      have hs' : s ∈ W.map (·.1) ∨ (s = y ∧ W.length < 12) := by
        rcases List.mem_append.mp hs with h | h
        · exact .inl h
        · by_cases c : W.length < 12
          · exact .inr ⟨List.mem_singleton.mp (List.mem_of_mem_take h), c⟩
          · rw [show 12 - W.length = 0 by omega] at h; cases h
      have hq17 := K17 _ _ hq16 hq0
      have hp17 := K17 _ _ hp16 hp0
      clear Z9 Z14 Z15 Z16 K17 hq9 hp9 u10 fq9 fp9 hA9 hB9 gr9 gl9 s11 s16 fq11 fp11 gl11 hq14 hp14 m14 hq15 hp15 m15 l15 hq16 hp16 gl16
      have okN : ∀ z ∈ L3.map (·.1), PyData.strOk z = true := fun z hz => by
        obtain ⟨t, ht, rfl⟩ := List.mem_map.mp hz
        exact (D3.nm t ht).ok
      have okb : ∀ t ∈ bs, PyData.strOk t.2.1 = true ∧ PyData.strOk t.2.2 = true := fun t ht => ⟨okN _ (D3.bk t ht).1, okN _ (D3.bk t ht).2.1⟩
      have b36 := D3.b36
      obtain ⟨w0', hw0', ew0⟩ := List.mem_map.mp hx
      have hxv : valV (heldK L3) (key x) = some (.ref w0'.2.1) := by rw [← ew0]; exact held_val D3.nd hw0'
      have exh : hLf L3 x = w0'.2.2 := by rw [← ew0]; exact hLf_of D3.nd hw0'
      walk_at "zz"
      refine z_cut (fun σ' H' => ∃ (b3 : Addr) (L2 : Hld) (W2 : Lvs) (bs2 : Bars) (v11 v12 : Option V) (F' : Hp), σ' = [some (.ref a), some (.ref wa), none, some (.ref q), some (.ref p), some (.ref b3), some (.int way), some (.str x), some (.ref l), some (.ref m), some (.str s), v11, v12] ∧ Cz a g F H F' H' (B + 4) ∧
        H' q = some (.dK (heldK L2)) ∧ F' q = none ∧ H' p = some (.dK (lvK W2)) ∧ F' p = none ∧ F' b3 = some (.lst (bs2.map fun t => V.ref t.1)) ∧ BarsA F' bs2 ∧ HeldA F' L2 ∧ (WD L2 W2 bs2 ∧ DiffW L3 W bs L2 W2 bs2) ∧ (bs2.map (·.2)).Nodup) ?_ ?_
      · walk_at "zz"
        refine z_ite (fun wy0 => ?_) (fun wn0 => ?_)
        · walk_at "zz"
          refine z_dgetR (.inl hq17) hxv ?_
          walk_at "zz"
          refine z_ninS (Z17.sub.sql (hA16 w0' hw0')) ?_
          walk_at "zz"
          refine z_iteN (fun no => ?_) (fun _ => ?_)
          · have no : s ∉ hLf L3 x := by rw [exh]; exact no
            have pl := D3.pl hw0'
            walk_at "zz"
            refine z_dgetR (.inl hq17) hxv ?_
            walk_at "zz"
            refine ⟨sz (by show 1 ≤ 100000; decide), fun e he => ?_⟩
            have Z18 := Z17.mak he (.lst ([s].map V.str))
            have hq18 := upd_keep (o := .lst ([s].map V.str)) hq17 he
            have hp18 := upd_keep (o := .lst ([s].map V.str)) hp17 he
            have e18 : (upd H17 e (.lst ([s].map V.str))) e = some (.lst ([s].map V.str)) := upd_same
            rw [show [V.str s] = [s].map V.str from rfl]
            generalize upd H17 e (.lst ([s].map V.str)) = H18 at Z18 hq18 hp18 e18 ⊢
            walk_at "zz"
            refine z_cat (Z18.sub _ _ (hA16 w0' hw0')) e18 (by rw [List.length_map, List.length_map, List.length_singleton]; omega) fun r2 hr2 => ?_
            rw [← List.map_append, ← exh]
            have Z19 := Z18.lay hr2 (.lst ((hLf L3 x ++ [s]).map V.str))
            have s19 : Sub F16 (upd F16 r2 (.lst ((hLf L3 x ++ [s]).map V.str))) := fun x o e => upd_keep e (Z18.sub.none hr2)
            have g19 : (upd F16 r2 (.lst ((hLf L3 x ++ [s]).map V.str))) r2 = some (.lst ((hLf L3 x ++ [s]).map V.str)) := upd_same
            have hq19 := upd_keep (o := .lst ((hLf L3 x ++ [s]).map V.str)) hq18 hr2
            have hp19 := upd_keep (o := .lst ((hLf L3 x ++ [s]).map V.str)) hp18 hr2
            have fq19 : (upd F16 r2 (.lst ((hLf L3 x ++ [s]).map V.str))) q = none := by rw [upd_ne (ne_of_none hq18 hr2)]; exact fq16
            have fp19 : (upd F16 r2 (.lst ((hLf L3 x ++ [s]).map V.str))) p = none := by rw [upd_ne (ne_of_none hp18 hr2)]; exact fp16
            generalize upd F16 r2 (.lst ((hLf L3 x ++ [s]).map V.str)) = F19 at Z19 s19 g19 fq19 fp19
            generalize upd H18 r2 (.lst ((hLf L3 x ++ [s]).map V.str)) = H19 at Z19 hq19 hp19 ⊢
            walk_at "zz"
            refine z_dputS hq19 (szl (by rw [held_len]; omega)) (show putK _ _ _ = heldK (setH L3 x r2 (hLf L3 x ++ [s])) from held_set hx) ?_
            have Z20 := Z19.wr hq0 fq19 (.dK (heldK (setH L3 x r2 (hLf L3 x ++ [s]))))
            have hq20 : (upd H19 q (.dK (heldK (setH L3 x r2 (hLf L3 x ++ [s]))))) q = some (.dK (heldK (setH L3 x r2 (hLf L3 x ++ [s])))) := upd_same
            have hp20 : (upd H19 q (.dK (heldK (setH L3 x r2 (hLf L3 x ++ [s]))))) p = some (.dK (lvK W)) := by rw [upd_ne npq.symm]; exact hp19
            generalize upd H19 q (.dK (heldK (setH L3 x r2 (hLf L3 x ++ [s])))) = H20 at Z20 hq20 hp20 ⊢
            have hA20 : HeldA F19 (setH L3 x r2 (hLf L3 x ++ [s])) := fun t ht => by
              rcases setH_mem ht with ⟨_, e1, e2⟩ | ⟨_, hv⟩
              · rw [e1, e2]; exact g19
              · exact s19 _ _ (hA16 t hv)
            walk_at "zz"
            refine ⟨p, rfl, .inl ⟨_, .inl hp20⟩, ?_⟩
            walk_at "zz"
            refine ⟨lvK W, key s, hp20, rfl, szl (by rw [lv_len]; omega), fun v ev => ?_, fun nv => ?_⟩
            · have sW : s ∈ W.map (·.1) := by
                have := lv_some W s
                rw [ev] at this
                exact of_decide_eq_true this.symm
              exact ⟨r, _, W, bs, _, _, F19, rfl, Z20.mono (by omega), hq20, fq19, hp20, fp19, s19 _ _ gr16, fun t ht => s19 _ _ (hB16 t ht), hA20, other_a D3 hx no D3.lw2 sW fun q hq => .inl hq, bn⟩
            · have sW : s ∉ W.map (·.1) := fun h => by
                have := lv_some W s
                rw [nv, decide_eq_true h] at this
                cases this
              obtain ⟨es, wlt⟩ := hs'.resolve_left sW
              rw [lv_put sW]
              exact ⟨r, _, W ++ [(s, 1)], bs, _, _, F19, rfl, (Z20.wr hp0 fp19 _).mono (by omega), by rw [upd_ne npq]; exact hq20, fq19, upd_same, fp19, s19 _ _ gr16, fun t ht => s19 _ _ (hB16 t ht), hA20,
                other_a D3 hx no (D3.lw2.more (by rw [es]; exact ny) sW wlt (by decide) (by decide)) (by rw [List.map_append]; exact List.mem_append_right _ (List.mem_singleton.mpr rfl)) (fun q hq => (List.mem_append.mp hq).imp id fun h => by rw [List.mem_singleton.mp h]), bn⟩
          · walk_at "zz"
            refine z_ite (fun c => absurd (wy0.symm.trans c) (by decide)) (fun _ => ?_)
            walk_at "zz"
            refine z_ite (fun c => absurd (wy0.symm.trans c) (by decide)) (fun _ => ?_)
            walk_at "zz"
            · refine z_dp1 ?_
              walk_at "zz"
              refine ⟨q, rfl, .inl ⟨_, .inl hq17⟩, ?_⟩
              walk_at "zz"
              refine ⟨heldK L3, key x, _, hq17, rfl, hxv, ?_⟩
              rw [held_drop]
              have Z18 := Z17.wr hq0 fq16 (.dK (heldK (L3.filter fun t => decide (t.1 ≠ x))))
              have hq18 : (upd H17 q (.dK (heldK (L3.filter fun t => decide (t.1 ≠ x))))) q = some (.dK (heldK (L3.filter fun t => decide (t.1 ≠ x)))) := upd_same
              have hp18 : (upd H17 q (.dK (heldK (L3.filter fun t => decide (t.1 ≠ x))))) p = some (.dK (lvK W)) := by rw [upd_ne npq.symm]; exact hp17
              generalize upd H17 q (.dK (heldK (L3.filter fun t => decide (t.1 ≠ x)))) = H18 at Z18 hq18 hp18 ⊢
              walk_at "zz"
              refine ⟨F16, l, L3.map (·.1), rfl, Z18.sub, gl16', by rw [List.length_map]; omega, fun z H19 N19 nz noz => ?_⟩
              have Z19 := Z18.pure N19
              have hq19 := N19.keep _ _ hq18 fun k => k
              have hp19 := N19.keep _ _ hp18 fun k => k
              have nof : z ∉ (L3.filter fun t => decide (t.1 ≠ x)).map (·.1) := fun h => noz ((List.filter_sublist.map _).subset h)
              have fl := List.length_filter_le (fun t : Str × Addr × List Str => decide (t.1 ≠ x)) L3
              walk_at "zz"
              refine z_dputS hq19 (szl (by rw [held_len]; omega)) (held_put (ps := hLf L3 x) nof) ?_
              have Z20 := Z19.wr hq0 fq16 (.dK (heldK (L3.filter (fun t => decide (t.1 ≠ x)) ++ [(z, w0'.2.1, hLf L3 x)])))
              have hq20 : (upd H19 q (.dK (heldK (L3.filter (fun t => decide (t.1 ≠ x)) ++ [(z, w0'.2.1, hLf L3 x)])))) q = some (.dK (heldK (L3.filter (fun t => decide (t.1 ≠ x)) ++ [(z, w0'.2.1, hLf L3 x)]))) := upd_same
              have hp20 : (upd H19 q (.dK (heldK (L3.filter (fun t => decide (t.1 ≠ x)) ++ [(z, w0'.2.1, hLf L3 x)])))) p = some (.dK (lvK W)) := by rw [upd_ne npq.symm]; exact hp19
              generalize upd H19 q (.dK (heldK (L3.filter (fun t => decide (t.1 ≠ x)) ++ [(z, w0'.2.1, hLf L3 x)]))) = H20 at Z20 hq20 hp20 ⊢
              walk_at "zz"
              refine ⟨r, rfl, ⟨_, Z20.sub.sql gr16⟩, fun D' hD => ?_⟩
              have D0 := Z20.old hD
              have fD := Z20.sub.none hD
              have Dq : q ≠ D' := ne_of_none hq20 hD
              have Dp : p ≠ D' := ne_of_none hp20 hD
              refine lc_it (walk_list (xs := bs.map fun u => V.ref u.1)) (fun i H' => Cz a g F H F16 H' (B + 4) ∧ H' q = some (.dK (heldK (L3.filter (fun t => decide (t.1 ≠ x)) ++ [(z, w0'.2.1, hLf L3 x)]))) ∧ H' p = some (.dK (lvK W)) ∧ H' D' = some (.lst (((bs.take i).filter fun u => !decide (x ∈ [u.2.1, u.2.2])).map fun u => V.ref u.1)))
                ⟨(Z20.mak hD _).mono (by omega), upd_keep hq20 hD, upd_keep hp20 hD, upd_same⟩ (fun i H' _ h => h.1.sub.sql gr16) ?_ ?_
              · rintro i v H21 H22 hi ⟨Z21, q21, p21, n21⟩ ⟨rfl, hv⟩
                obtain ⟨u, hu', rfl⟩ := bs_at hv
                have um := List.mem_of_getElem? hu'
                walk_at "zz"
                refine z_ninT (ns := [u.2.1, u.2.2]) (Z21.sub.sqt (hB16 u um)) ?_
                walk_at "zz"
                refine z_iteN (fun no => ?_) (fun yes => ?_)
                · walk_at "zz"
                  refine ⟨_, n21, szl (by rw [List.length_map]; exact Nat.le_trans (List.length_filter_le _ _) (by rw [List.length_take]; omega)), Z21.wr D0 fD _, by rw [upd_ne Dq]; exact q21, by rw [upd_ne Dp]; exact p21, ?_⟩
                  rw [upd_same, take_step hu', List.filter_append, List.map_append, List.filter_cons_of_pos (by rw [decide_eq_false no]; rfl)]; rfl
                · refine ⟨Z21, q21, p21, ?_⟩
                  rw [n21, take_step hu', List.filter_append, List.map_append, List.filter_cons_of_neg (by rw [decide_eq_true yes]; decide)]
                  simp
              · rintro H21 ⟨Z21, q21, p21, n21⟩
                rw [List.length_map, List.take_length] at n21
                have Z22 := Z21.frz D0 n21 fD
                have s22 : Sub F16 (upd F16 D' (.lst ((bs.filter fun u => !decide (x ∈ [u.2.1, u.2.2])).map fun u => V.ref u.1))) := fun x o e => upd_keep e fD
                refine ⟨D', _, W, bs.filter (fun u => !decide (x ∈ [u.2.1, u.2.2])), _, _, _, rfl, Z22, q21, by rw [upd_ne Dq]; exact fq16, p21, by rw [upd_ne Dp]; exact fp16, upd_same, fun t ht => s22 _ _ (hB16 t (List.mem_filter.mp ht).1), fun t ht => ?_,
                  other_d D3 hx nz noz (Nat.le_trans (List.length_filter_le _ _) b36) (fun t ht => ?_), bn.sublist (List.filter_sublist.map _)⟩
                · rcases List.mem_append.mp ht with ht | ht
                  · exact s22 _ _ (hA16 t (List.mem_filter.mp ht).1)
                  · rw [List.mem_singleton.mp ht]
                    have := s22 _ _ (hA16 w0' hw0')
                    rw [← exh] at this
                    exact this
                · obtain ⟨m, n⟩ := List.mem_filter.mp ht
                  refine ⟨m, fun e => ?_, fun e => ?_⟩ <;> simp [e] at n
        · walk_at "zz"
          refine z_ite (fun wy1 => ?_) (fun wn1 => ?_)
          · walk_at "zz"
            refine z_dgo (.inl hp17) ?_
            rw [lv_some]
            walk_at "zz"
            refine z_ite (fun yes => ?_) (fun _ => ?_)
            · walk_at "zz"
              refine z_dgetR (.inl hp17) (lv_val yes) ?_
              walk_at "zz"
              refine z_dputS hp17 (szl (by rw [lv_len]; omega)) (lv_set2 yes) ?_
              exact ⟨r, L3, _, bs, _, _, F16, rfl, (Z17.wr hp0 fp16 _).mono (by omega), by rw [upd_ne npq]; exact hq17, fq16, upd_same, fp16, gr16, hB16, hA16, other_b D3 yes, bn⟩
            · walk_at "zz"
              refine z_ite (fun c => absurd (wy1.symm.trans c) (by decide)) (fun _ => ?_)
              walk_at "zz"
              · refine z_dp1 ?_
                walk_at "zz"
                refine ⟨q, rfl, .inl ⟨_, .inl hq17⟩, ?_⟩
                walk_at "zz"
                refine ⟨heldK L3, key x, _, hq17, rfl, hxv, ?_⟩
                rw [held_drop]
                have Z18 := Z17.wr hq0 fq16 (.dK (heldK (L3.filter fun t => decide (t.1 ≠ x))))
                have hq18 : (upd H17 q (.dK (heldK (L3.filter fun t => decide (t.1 ≠ x))))) q = some (.dK (heldK (L3.filter fun t => decide (t.1 ≠ x)))) := upd_same
                have hp18 : (upd H17 q (.dK (heldK (L3.filter fun t => decide (t.1 ≠ x))))) p = some (.dK (lvK W)) := by rw [upd_ne npq.symm]; exact hp17
                generalize upd H17 q (.dK (heldK (L3.filter fun t => decide (t.1 ≠ x)))) = H18 at Z18 hq18 hp18 ⊢
                walk_at "zz"
                refine ⟨F16, l, L3.map (·.1), rfl, Z18.sub, gl16', by rw [List.length_map]; omega, fun z H19 N19 nz noz => ?_⟩
                have Z19 := Z18.pure N19
                have hq19 := N19.keep _ _ hq18 fun k => k
                have hp19 := N19.keep _ _ hp18 fun k => k
                have nof : z ∉ (L3.filter fun t => decide (t.1 ≠ x)).map (·.1) := fun h => noz ((List.filter_sublist.map _).subset h)
                have fl := List.length_filter_le (fun t : Str × Addr × List Str => decide (t.1 ≠ x)) L3
                walk_at "zz"
                refine z_dputS hq19 (szl (by rw [held_len]; omega)) (held_put (ps := hLf L3 x) nof) ?_
                have Z20 := Z19.wr hq0 fq16 (.dK (heldK (L3.filter (fun t => decide (t.1 ≠ x)) ++ [(z, w0'.2.1, hLf L3 x)])))
                have hq20 : (upd H19 q (.dK (heldK (L3.filter (fun t => decide (t.1 ≠ x)) ++ [(z, w0'.2.1, hLf L3 x)])))) q = some (.dK (heldK (L3.filter (fun t => decide (t.1 ≠ x)) ++ [(z, w0'.2.1, hLf L3 x)]))) := upd_same
                have hp20 : (upd H19 q (.dK (heldK (L3.filter (fun t => decide (t.1 ≠ x)) ++ [(z, w0'.2.1, hLf L3 x)])))) p = some (.dK (lvK W)) := by rw [upd_ne npq.symm]; exact hp19
                generalize upd H19 q (.dK (heldK (L3.filter (fun t => decide (t.1 ≠ x)) ++ [(z, w0'.2.1, hLf L3 x)]))) = H20 at Z20 hq20 hp20 ⊢
                walk_at "zz"
                refine ⟨r, rfl, ⟨_, Z20.sub.sql gr16⟩, fun D' hD => ?_⟩
                have D0 := Z20.old hD
                have fD := Z20.sub.none hD
                have Dq : q ≠ D' := ne_of_none hq20 hD
                have Dp : p ≠ D' := ne_of_none hp20 hD
                refine lc_it (walk_list (xs := bs.map fun u => V.ref u.1)) (fun i H' => Cz a g F H F16 H' (B + 4) ∧ H' q = some (.dK (heldK (L3.filter (fun t => decide (t.1 ≠ x)) ++ [(z, w0'.2.1, hLf L3 x)]))) ∧ H' p = some (.dK (lvK W)) ∧ H' D' = some (.lst (((bs.take i).filter fun u => !decide (x ∈ [u.2.1, u.2.2])).map fun u => V.ref u.1)))
                  ⟨(Z20.mak hD _).mono (by omega), upd_keep hq20 hD, upd_keep hp20 hD, upd_same⟩ (fun i H' _ h => h.1.sub.sql gr16) ?_ ?_
                · rintro i v H21 H22 hi ⟨Z21, q21, p21, n21⟩ ⟨rfl, hv⟩
                  obtain ⟨u, hu', rfl⟩ := bs_at hv
                  have um := List.mem_of_getElem? hu'
                  walk_at "zz"
                  refine z_ninT (ns := [u.2.1, u.2.2]) (Z21.sub.sqt (hB16 u um)) ?_
                  walk_at "zz"
                  refine z_iteN (fun no => ?_) (fun yes => ?_)
                  · walk_at "zz"
                    refine ⟨_, n21, szl (by rw [List.length_map]; exact Nat.le_trans (List.length_filter_le _ _) (by rw [List.length_take]; omega)), Z21.wr D0 fD _, by rw [upd_ne Dq]; exact q21, by rw [upd_ne Dp]; exact p21, ?_⟩
                    rw [upd_same, take_step hu', List.filter_append, List.map_append, List.filter_cons_of_pos (by rw [decide_eq_false no]; rfl)]; rfl
                  · refine ⟨Z21, q21, p21, ?_⟩
                    rw [n21, take_step hu', List.filter_append, List.map_append, List.filter_cons_of_neg (by rw [decide_eq_true yes]; decide)]
                    simp
                · rintro H21 ⟨Z21, q21, p21, n21⟩
                  rw [List.length_map, List.take_length] at n21
                  have Z22 := Z21.frz D0 n21 fD
                  have s22 : Sub F16 (upd F16 D' (.lst ((bs.filter fun u => !decide (x ∈ [u.2.1, u.2.2])).map fun u => V.ref u.1))) := fun x o e => upd_keep e fD
                  refine ⟨D', _, W, bs.filter (fun u => !decide (x ∈ [u.2.1, u.2.2])), _, _, _, rfl, Z22, q21, by rw [upd_ne Dq]; exact fq16, p21, by rw [upd_ne Dp]; exact fp16, upd_same, fun t ht => s22 _ _ (hB16 t (List.mem_filter.mp ht).1), fun t ht => ?_,
                    other_d D3 hx nz noz (Nat.le_trans (List.length_filter_le _ _) b36) (fun t ht => ?_), bn.sublist (List.filter_sublist.map _)⟩
                  · rcases List.mem_append.mp ht with ht | ht
                    · exact s22 _ _ (hA16 t (List.mem_filter.mp ht).1)
                    · rw [List.mem_singleton.mp ht]
                      have := s22 _ _ (hA16 w0' hw0')
                      rw [← exh] at this
                      exact this
                  · obtain ⟨m, n⟩ := List.mem_filter.mp ht
                    refine ⟨m, fun e => ?_, fun e => ?_⟩ <;> simp [e] at n
          · walk_at "zz"
            refine z_ite (fun wy2 => ?_) (fun wn2 => ?_)
            · walk_at "zz"
              refine z_lenL (Z17.sub.sql gl16') ?_
              rw [List.length_map, List.length_map]
              walk_at "zz"
              refine z_ite (fun gt => ?_) (fun ngt => ?_)
              · walk_at "zz"
                refine ⟨.inl ⟨rfl, _, Z17.sub.sql gl16'⟩, ?_⟩
                walk_at "zz"
                obtain ⟨j, hj⟩ := List.mem_iff_getElem?.mp hx
                have jl := (List.getElem?_eq_some_iff.mp hj).1
                refine ⟨l, (L3.map (·.1)).map V.str, .str x, j, .str x, rfl, rfl, Z17.sub.sql gl16', rfl, List.all_eq_true.mpr fun v hv => ?_, by rw [List.getElem?_map, hj]; rfl, by show (x == x) = true; exact beq_self_eq_true x, fun m' z' lt hz => ?_, ?_⟩
                · obtain ⟨_, _, rfl⟩ := List.mem_map.mp hv
                  rfl
                · obtain ⟨y', hy', rfl⟩ := at_str hz
                  have ne : y' ≠ x := fun e => by
                    obtain ⟨li, ei⟩ := List.getElem?_eq_some_iff.mp hy'
                    obtain ⟨lk, ek⟩ := List.getElem?_eq_some_iff.mp hj
                    exact List.pairwise_iff_getElem.mp D3.nd m' j li lk lt (ei.trans (e.trans ek.symm))
                  show (y' == x) = false
                  exact beq_eq_false_iff_ne.mpr ne
                obtain ⟨o, ho, no, oin⟩ := at_ahead D3.nd hj (by rw [List.length_map]; omega)
                walk_at "zz"
                refine z_ixL (i := (j : Int) - 1) (Z17.sub.sql gl16') ho ?_
                walk_at "zz"
                refine ⟨sz (by show 2 ≤ 100000; decide), fun e he => ?_⟩
                have Z18 := Z17.mak he (.lst ([x, o].map V.str))
                have hq18 := upd_keep (o := .lst ([x, o].map V.str)) hq17 he
                have hp18 := upd_keep (o := .lst ([x, o].map V.str)) hp17 he
                have e18 : (upd H17 e (.lst ([x, o].map V.str))) e = some (.lst ([x, o].map V.str)) := upd_same
                rw [show [V.str x, V.str o] = [x, o].map V.str from rfl]
                generalize upd H17 e (.lst ([x, o].map V.str)) = H18 at Z18 hq18 hp18 e18 ⊢
                walk_at "zz"
                refine z_sorted (xs := [x, o]) (SqL.of e18) (by show 2 < 64; decide) fun ys q2 pm srt hq2 => ?_
                have Z19 := Z18.mak hq2 (.lst (ys.map V.str))
                have hq19 := upd_keep (o := .lst (ys.map V.str)) hq18 hq2
                have hp19 := upd_keep (o := .lst (ys.map V.str)) hp18 hq2
                have e19 : (upd H18 q2 (.lst (ys.map V.str))) q2 = some (.lst (ys.map V.str)) := upd_same
                generalize upd H18 q2 (.lst (ys.map V.str)) = H19 at Z19 hq19 hp19 e19 ⊢
                refine z_tupL (SqL.of e19) fun tp htp => ?_
                obtain ⟨pa, pb, ey, pok⟩ : ∃ pa pb, ys = [pa, pb] ∧ (pa ∈ L3.map (·.1) ∧ pb ∈ L3.map (·.1) ∧ slt pa pb) := by
                  rcases two_srt pm srt (Ne.symm no) with ⟨c, e⟩ | ⟨c, e⟩
                  · exact ⟨x, o, e, hx, oin, c⟩
                  · exact ⟨o, x, e, oin, hx, c⟩
                subst ey
                have Z20 := Z19.lay htp (.tup [.str pa, .str pb])
                have s20 : Sub F16 (upd F16 tp (.tup [.str pa, .str pb])) := fun x o e => upd_keep e (Z19.sub.none htp)
                have t20 : (upd F16 tp (.tup [.str pa, .str pb])) tp = some (.tup [.str pa, .str pb]) := upd_same
                have hq20 := upd_keep (o := .tup [.str pa, .str pb]) hq19 htp
                have hp20 := upd_keep (o := .tup [.str pa, .str pb]) hp19 htp
                have fq20 : (upd F16 tp (.tup [.str pa, .str pb])) q = none := by rw [upd_ne (ne_of_none hq19 htp)]; exact fq16
                have fp20 : (upd F16 tp (.tup [.str pa, .str pb])) p = none := by rw [upd_ne (ne_of_none hp19 htp)]; exact fp16
                rw [show [pa, pb].map V.str = [V.str pa, V.str pb] from rfl]
                generalize upd F16 tp (.tup [.str pa, .str pb]) = F20 at Z20 s20 t20 fq20 fp20
                generalize upd H19 tp (.tup [.str pa, .str pb]) = H20 at Z20 hq20 hp20 ⊢
                have gr20 := s20 _ _ gr16
                have hB20 : BarsA F20 bs := fun t ht => s20 _ _ (hB16 t ht)
                clear Z18 Z19 hq18 hp18 e18 hq19 hp19 e19
                walk_at "zz"
                refine ⟨sz (by show 1 ≤ 100000; decide), fun mm hmm => ?_⟩
                have Z21 := Z20.mak hmm (.lst [.ref tp])
                have hq21 := upd_keep (o := .lst [.ref tp]) hq20 hmm
                have hp21 := upd_keep (o := .lst [.ref tp]) hp20 hmm
                have m21 : (upd H20 mm (.lst [.ref tp])) mm = some (.lst [.ref tp]) := upd_same
                generalize upd H20 mm (.lst [.ref tp]) = H21 at Z21 hq21 hp21 m21 ⊢
                walk_at "zz"
                refine ⟨dP (pa, pb), bs.map fun u => dP u.2, dp_pair (Z21.sub.sqt t20), .lst (Z21.sub.sql gr20) (dp_pairs fun u hu' => Z21.sub.sqt (hB20 u hu')), sh_dP (okN _ pok.1) (okN _ pok.2.1), sh_dPs okb, ?_⟩
                rw [any_dP]
                walk_at "zz"
                refine .inr ⟨_, rfl, ?_⟩
                obtain ⟨n, add, en, n1, eadd, cases'⟩ : ∃ (n : Nat) (add : Bars), (if (!decide ((pa, pb) ∈ bs.map (·.2))) = true then (1 : Int) else 0) = (n : Int) ∧ n ≤ 1 ∧ (List.replicate n [V.ref tp]).flatten = add.map (fun u => V.ref u.1) ∧ (((pa, pb) ∈ bs.map (·.2) ∧ add = []) ∨ ((pa, pb) ∉ bs.map (·.2) ∧ add = [(tp, pa, pb)])) := by
                  by_cases c : (pa, pb) ∈ bs.map (·.2)
                  · exact ⟨0, [], by rw [decide_eq_true c]; rfl, by omega, rfl, .inl ⟨c, rfl⟩⟩
                  · exact ⟨1, [(tp, pa, pb)], by rw [decide_eq_false c]; rfl, by omega, by simp, .inr ⟨c, rfl⟩⟩
                rw [en]
                walk_at "zz"
                refine ⟨mm, n, _, rfl, rfl, m21, by omega, by omega, sz (by rw [Int.toNat_natCast, List.length_singleton]; omega), fun c hc => ?_⟩
                rw [Int.toNat_natCast, eadd]
                have Z22 := Z21.mak hc (.lst (add.map fun u => V.ref u.1))
                have hq22 := upd_keep (o := .lst (add.map fun u => V.ref u.1)) hq21 hc
                have hp22 := upd_keep (o := .lst (add.map fun u => V.ref u.1)) hp21 hc
                have c22 : (upd H21 c (.lst (add.map fun u => V.ref u.1))) c = some (.lst (add.map fun u => V.ref u.1)) := upd_same
                generalize upd H21 c (.lst (add.map fun u => V.ref u.1)) = H22 at Z22 hq22 hp22 c22 ⊢
                have al : add.length ≤ 1 := by rcases cases' with ⟨_, e⟩ | ⟨_, e⟩ <;> rw [e] <;> simp
                clear Z20 Z21 hq20 hp20 hq21 hp21 m21
                walk_at "zz"
                refine ⟨r, rfl, ⟨_, Z22.sub.sql gr20⟩, fun D' hD => ?_⟩
                have D0 := Z22.old hD
                have fD := Z22.sub.none hD
                have Dq : q ≠ D' := ne_of_none hq22 hD
                have Dp : p ≠ D' := ne_of_none hp22 hD
                have Dc : c ≠ D' := ne_of_none c22 hD
                refine lc_it (walk_list (xs := bs.map fun u => V.ref u.1)) (fun i H' => Cz a g F H F20 H' (B + 4) ∧ H' q = some (.dK (heldK L3)) ∧ H' p = some (.dK (lvK W)) ∧ H' c = some (.lst (add.map fun u => V.ref u.1)) ∧ H' D' = some (.lst (((bs.take i).filter fun u => !decide (u.2 = (pa, pb))).map fun u => V.ref u.1)))
                  ⟨(Z22.mak hD _).mono (by omega), upd_keep hq22 hD, upd_keep hp22 hD, upd_keep c22 hD, upd_same⟩ (fun i H' _ h => h.1.sub.sql gr20) ?_ ?_
                · rintro i v H23 H24 hi ⟨Z23, q23, p23, c23, n23⟩ ⟨rfl, hv⟩
                  obtain ⟨u, hu', rfl⟩ := bs_at hv
                  have um := List.mem_of_getElem? hu'
                  walk_at "zz"
                  refine ⟨dP u.2, dP (pa, pb), dp_pair (Z23.sub.sqt (hB20 u um)), dp_pair (Z23.sub.sqt t20), sh_dP (okb u um).1 (okb u um).2, sh_dP (okN _ pok.1) (okN _ pok.2.1), ?_⟩
                  rw [eqv_dP]
                  walk_at "zz"
                  refine z_iteN (fun ne => ?_) (fun e => ?_)
                  · walk_at "zz"
                    refine ⟨_, n23, szl (by rw [List.length_map]; exact Nat.le_trans (List.length_filter_le _ _) (by rw [List.length_take]; omega)), Z23.wr D0 fD _, by rw [upd_ne Dq]; exact q23, by rw [upd_ne Dp]; exact p23, by rw [upd_ne Dc]; exact c23, ?_⟩
                    rw [upd_same, take_step hu', List.filter_append, List.map_append]
                    simp [ne]
                  · refine ⟨Z23, q23, p23, c23, ?_⟩
                    rw [n23, take_step hu', List.filter_append, List.map_append]
                    simp [e]
                · rintro H23 ⟨Z23, q23, p23, c23, n23⟩
                  rw [List.length_map, List.take_length] at n23
                  have fl := List.length_filter_le (fun u : Addr × Str × Str => !decide (u.2 = (pa, pb))) bs
                  walk_at "zz"
                  refine z_cat n23 c23 (by rw [List.length_map, List.length_map]; omega) fun r2 hr2 => ?_
                  rw [← List.map_append]
                  have Z24 := Z23.lay hr2 (.lst (((bs.filter fun u => !decide (u.2 = (pa, pb))) ++ add).map fun u => V.ref u.1))
                  have s24 : Sub F20 (upd F20 r2 (.lst (((bs.filter fun u => !decide (u.2 = (pa, pb))) ++ add).map fun u => V.ref u.1))) := fun x o e => upd_keep e (Z23.sub.none hr2)
                  have fm : ∀ {u}, u ∈ bs.filter (fun u => !decide (u.2 = (pa, pb))) ↔ u ∈ bs ∧ u.2 ≠ (pa, pb) := fun {u} => by rw [List.mem_filter]; simp
                  have nnd : (((bs.filter fun u => !decide (u.2 = (pa, pb))) ++ add).map (·.2)).Nodup := by
                    rw [List.map_append]
                    refine List.nodup_append.mpr ⟨bn.sublist (List.filter_sublist.map _), ?_, fun a1 h1 b1 h2 e => ?_⟩
                    · rcases cases' with ⟨_, e⟩ | ⟨_, e⟩ <;> rw [e] <;> simp
                    · obtain ⟨u, hu', rfl⟩ := List.mem_map.mp h1
                      rcases cases' with ⟨_, z⟩ | ⟨_, z⟩
                      · rw [z] at h2; cases h2
                      · rw [z, List.map_singleton, List.mem_singleton] at h2
                        exact (fm.mp hu').2 (e.trans h2)
                  refine ⟨r2, L3, W, _, _, _, _, rfl, Z24, upd_keep q23 hr2, by rw [upd_ne (ne_of_none q23 hr2)]; exact fq20, upd_keep p23 hr2, by rw [upd_ne (ne_of_none p23 hr2)]; exact fp20, upd_same, fun t ht => s24 _ _ ?_, fun t ht => s24 _ _ (s20 _ _ (hA16 t ht)),
                    other_c D3 (p := (pa, pb)) pok ?_ (fun q' hq' => ?_) ?_, ?_⟩
                  · rcases List.mem_append.mp ht with ht | ht
                    · exact hB20 t (fm.mp ht).1
                    · rcases cases' with ⟨_, z⟩ | ⟨_, z⟩
                      · rw [z] at ht; cases ht
                      · rw [z, List.mem_singleton] at ht
                        rw [ht]; exact t20
                  · exact nnd
                  · rw [List.map_append] at hq'
                    rcases List.mem_append.mp hq' with h | h
                    · exact .inl ((List.filter_sublist.map _).subset h)
                    · rcases cases' with ⟨_, z⟩ | ⟨_, z⟩
                      · rw [z] at h; cases h
                      · rw [z, List.map_singleton, List.mem_singleton] at h; exact .inr h
                  · rw [List.map_append, List.mem_append]
                    rcases cases' with ⟨c, z⟩ | ⟨c, z⟩
                    · rw [z]
                      refine ⟨fun h => ?_, fun h => absurd c h⟩
                      rcases h with h | h
                      · obtain ⟨u, hu', e⟩ := List.mem_map.mp h
                        exact absurd e (fm.mp hu').2
                      · cases h
                    · rw [z]
                      exact ⟨fun _ => c, fun _ => .inr (List.mem_singleton.mpr rfl)⟩
                  · exact nnd
              · walk_at "zz"
                · refine z_dp1 ?_
                  walk_at "zz"
                  refine ⟨q, rfl, .inl ⟨_, .inl hq17⟩, ?_⟩
                  walk_at "zz"
                  refine ⟨heldK L3, key x, _, hq17, rfl, hxv, ?_⟩
                  rw [held_drop]
                  have Z18 := Z17.wr hq0 fq16 (.dK (heldK (L3.filter fun t => decide (t.1 ≠ x))))
                  have hq18 : (upd H17 q (.dK (heldK (L3.filter fun t => decide (t.1 ≠ x))))) q = some (.dK (heldK (L3.filter fun t => decide (t.1 ≠ x)))) := upd_same
                  have hp18 : (upd H17 q (.dK (heldK (L3.filter fun t => decide (t.1 ≠ x))))) p = some (.dK (lvK W)) := by rw [upd_ne npq.symm]; exact hp17
                  generalize upd H17 q (.dK (heldK (L3.filter fun t => decide (t.1 ≠ x)))) = H18 at Z18 hq18 hp18 ⊢
                  walk_at "zz"
                  refine ⟨F16, l, L3.map (·.1), rfl, Z18.sub, gl16', by rw [List.length_map]; omega, fun z H19 N19 nz noz => ?_⟩
                  have Z19 := Z18.pure N19
                  have hq19 := N19.keep _ _ hq18 fun k => k
                  have hp19 := N19.keep _ _ hp18 fun k => k
                  have nof : z ∉ (L3.filter fun t => decide (t.1 ≠ x)).map (·.1) := fun h => noz ((List.filter_sublist.map _).subset h)
                  have fl := List.length_filter_le (fun t : Str × Addr × List Str => decide (t.1 ≠ x)) L3
                  walk_at "zz"
                  refine z_dputS hq19 (szl (by rw [held_len]; omega)) (held_put (ps := hLf L3 x) nof) ?_
                  have Z20 := Z19.wr hq0 fq16 (.dK (heldK (L3.filter (fun t => decide (t.1 ≠ x)) ++ [(z, w0'.2.1, hLf L3 x)])))
                  have hq20 : (upd H19 q (.dK (heldK (L3.filter (fun t => decide (t.1 ≠ x)) ++ [(z, w0'.2.1, hLf L3 x)])))) q = some (.dK (heldK (L3.filter (fun t => decide (t.1 ≠ x)) ++ [(z, w0'.2.1, hLf L3 x)]))) := upd_same
                  have hp20 : (upd H19 q (.dK (heldK (L3.filter (fun t => decide (t.1 ≠ x)) ++ [(z, w0'.2.1, hLf L3 x)])))) p = some (.dK (lvK W)) := by rw [upd_ne npq.symm]; exact hp19
                  generalize upd H19 q (.dK (heldK (L3.filter (fun t => decide (t.1 ≠ x)) ++ [(z, w0'.2.1, hLf L3 x)]))) = H20 at Z20 hq20 hp20 ⊢
                  walk_at "zz"
                  refine ⟨r, rfl, ⟨_, Z20.sub.sql gr16⟩, fun D' hD => ?_⟩
                  have D0 := Z20.old hD
                  have fD := Z20.sub.none hD
                  have Dq : q ≠ D' := ne_of_none hq20 hD
                  have Dp : p ≠ D' := ne_of_none hp20 hD
                  refine lc_it (walk_list (xs := bs.map fun u => V.ref u.1)) (fun i H' => Cz a g F H F16 H' (B + 4) ∧ H' q = some (.dK (heldK (L3.filter (fun t => decide (t.1 ≠ x)) ++ [(z, w0'.2.1, hLf L3 x)]))) ∧ H' p = some (.dK (lvK W)) ∧ H' D' = some (.lst (((bs.take i).filter fun u => !decide (x ∈ [u.2.1, u.2.2])).map fun u => V.ref u.1)))
                    ⟨(Z20.mak hD _).mono (by omega), upd_keep hq20 hD, upd_keep hp20 hD, upd_same⟩ (fun i H' _ h => h.1.sub.sql gr16) ?_ ?_
                  · rintro i v H21 H22 hi ⟨Z21, q21, p21, n21⟩ ⟨rfl, hv⟩
                    obtain ⟨u, hu', rfl⟩ := bs_at hv
                    have um := List.mem_of_getElem? hu'
                    walk_at "zz"
                    refine z_ninT (ns := [u.2.1, u.2.2]) (Z21.sub.sqt (hB16 u um)) ?_
                    walk_at "zz"
                    refine z_iteN (fun no => ?_) (fun yes => ?_)
                    · walk_at "zz"
                      refine ⟨_, n21, szl (by rw [List.length_map]; exact Nat.le_trans (List.length_filter_le _ _) (by rw [List.length_take]; omega)), Z21.wr D0 fD _, by rw [upd_ne Dq]; exact q21, by rw [upd_ne Dp]; exact p21, ?_⟩
                      rw [upd_same, take_step hu', List.filter_append, List.map_append, List.filter_cons_of_pos (by rw [decide_eq_false no]; rfl)]; rfl
                    · refine ⟨Z21, q21, p21, ?_⟩
                      rw [n21, take_step hu', List.filter_append, List.map_append, List.filter_cons_of_neg (by rw [decide_eq_true yes]; decide)]
                      simp
                  · rintro H21 ⟨Z21, q21, p21, n21⟩
                    rw [List.length_map, List.take_length] at n21
                    have Z22 := Z21.frz D0 n21 fD
                    have s22 : Sub F16 (upd F16 D' (.lst ((bs.filter fun u => !decide (x ∈ [u.2.1, u.2.2])).map fun u => V.ref u.1))) := fun x o e => upd_keep e fD
                    refine ⟨D', _, W, bs.filter (fun u => !decide (x ∈ [u.2.1, u.2.2])), _, _, _, rfl, Z22, q21, by rw [upd_ne Dq]; exact fq16, p21, by rw [upd_ne Dp]; exact fp16, upd_same, fun t ht => s22 _ _ (hB16 t (List.mem_filter.mp ht).1), fun t ht => ?_,
                      other_d D3 hx nz noz (Nat.le_trans (List.length_filter_le _ _) b36) (fun t ht => ?_), bn.sublist (List.filter_sublist.map _)⟩
                    · rcases List.mem_append.mp ht with ht | ht
                      · exact s22 _ _ (hA16 t (List.mem_filter.mp ht).1)
                      · rw [List.mem_singleton.mp ht]
                        have := s22 _ _ (hA16 w0' hw0')
                        rw [← exh] at this
                        exact this
                    · obtain ⟨m, n⟩ := List.mem_filter.mp ht
                      refine ⟨m, fun e => ?_, fun e => ?_⟩ <;> simp [e] at n
            · walk_at "zz"
              · refine z_dp1 ?_
                walk_at "zz"
                refine ⟨q, rfl, .inl ⟨_, .inl hq17⟩, ?_⟩
                walk_at "zz"
                refine ⟨heldK L3, key x, _, hq17, rfl, hxv, ?_⟩
                rw [held_drop]
                have Z18 := Z17.wr hq0 fq16 (.dK (heldK (L3.filter fun t => decide (t.1 ≠ x))))
                have hq18 : (upd H17 q (.dK (heldK (L3.filter fun t => decide (t.1 ≠ x))))) q = some (.dK (heldK (L3.filter fun t => decide (t.1 ≠ x)))) := upd_same
                have hp18 : (upd H17 q (.dK (heldK (L3.filter fun t => decide (t.1 ≠ x))))) p = some (.dK (lvK W)) := by rw [upd_ne npq.symm]; exact hp17
                generalize upd H17 q (.dK (heldK (L3.filter fun t => decide (t.1 ≠ x)))) = H18 at Z18 hq18 hp18 ⊢
                walk_at "zz"
                refine ⟨F16, l, L3.map (·.1), rfl, Z18.sub, gl16', by rw [List.length_map]; omega, fun z H19 N19 nz noz => ?_⟩
                have Z19 := Z18.pure N19
                have hq19 := N19.keep _ _ hq18 fun k => k
                have hp19 := N19.keep _ _ hp18 fun k => k
                have nof : z ∉ (L3.filter fun t => decide (t.1 ≠ x)).map (·.1) := fun h => noz ((List.filter_sublist.map _).subset h)
                have fl := List.length_filter_le (fun t : Str × Addr × List Str => decide (t.1 ≠ x)) L3
                walk_at "zz"
                refine z_dputS hq19 (szl (by rw [held_len]; omega)) (held_put (ps := hLf L3 x) nof) ?_
                have Z20 := Z19.wr hq0 fq16 (.dK (heldK (L3.filter (fun t => decide (t.1 ≠ x)) ++ [(z, w0'.2.1, hLf L3 x)])))
                have hq20 : (upd H19 q (.dK (heldK (L3.filter (fun t => decide (t.1 ≠ x)) ++ [(z, w0'.2.1, hLf L3 x)])))) q = some (.dK (heldK (L3.filter (fun t => decide (t.1 ≠ x)) ++ [(z, w0'.2.1, hLf L3 x)]))) := upd_same
                have hp20 : (upd H19 q (.dK (heldK (L3.filter (fun t => decide (t.1 ≠ x)) ++ [(z, w0'.2.1, hLf L3 x)])))) p = some (.dK (lvK W)) := by rw [upd_ne npq.symm]; exact hp19
                generalize upd H19 q (.dK (heldK (L3.filter (fun t => decide (t.1 ≠ x)) ++ [(z, w0'.2.1, hLf L3 x)]))) = H20 at Z20 hq20 hp20 ⊢
                walk_at "zz"
                refine ⟨r, rfl, ⟨_, Z20.sub.sql gr16⟩, fun D' hD => ?_⟩
                have D0 := Z20.old hD
                have fD := Z20.sub.none hD
                have Dq : q ≠ D' := ne_of_none hq20 hD
                have Dp : p ≠ D' := ne_of_none hp20 hD
                refine lc_it (walk_list (xs := bs.map fun u => V.ref u.1)) (fun i H' => Cz a g F H F16 H' (B + 4) ∧ H' q = some (.dK (heldK (L3.filter (fun t => decide (t.1 ≠ x)) ++ [(z, w0'.2.1, hLf L3 x)]))) ∧ H' p = some (.dK (lvK W)) ∧ H' D' = some (.lst (((bs.take i).filter fun u => !decide (x ∈ [u.2.1, u.2.2])).map fun u => V.ref u.1)))
                  ⟨(Z20.mak hD _).mono (by omega), upd_keep hq20 hD, upd_keep hp20 hD, upd_same⟩ (fun i H' _ h => h.1.sub.sql gr16) ?_ ?_
                · rintro i v H21 H22 hi ⟨Z21, q21, p21, n21⟩ ⟨rfl, hv⟩
                  obtain ⟨u, hu', rfl⟩ := bs_at hv
                  have um := List.mem_of_getElem? hu'
                  walk_at "zz"
                  refine z_ninT (ns := [u.2.1, u.2.2]) (Z21.sub.sqt (hB16 u um)) ?_
                  walk_at "zz"
                  refine z_iteN (fun no => ?_) (fun yes => ?_)
                  · walk_at "zz"
                    refine ⟨_, n21, szl (by rw [List.length_map]; exact Nat.le_trans (List.length_filter_le _ _) (by rw [List.length_take]; omega)), Z21.wr D0 fD _, by rw [upd_ne Dq]; exact q21, by rw [upd_ne Dp]; exact p21, ?_⟩
                    rw [upd_same, take_step hu', List.filter_append, List.map_append, List.filter_cons_of_pos (by rw [decide_eq_false no]; rfl)]; rfl
                  · refine ⟨Z21, q21, p21, ?_⟩
                    rw [n21, take_step hu', List.filter_append, List.map_append, List.filter_cons_of_neg (by rw [decide_eq_true yes]; decide)]
                    simp
                · rintro H21 ⟨Z21, q21, p21, n21⟩
                  rw [List.length_map, List.take_length] at n21
                  have Z22 := Z21.frz D0 n21 fD
                  have s22 : Sub F16 (upd F16 D' (.lst ((bs.filter fun u => !decide (x ∈ [u.2.1, u.2.2])).map fun u => V.ref u.1))) := fun x o e => upd_keep e fD
                  refine ⟨D', _, W, bs.filter (fun u => !decide (x ∈ [u.2.1, u.2.2])), _, _, _, rfl, Z22, q21, by rw [upd_ne Dq]; exact fq16, p21, by rw [upd_ne Dp]; exact fp16, upd_same, fun t ht => s22 _ _ (hB16 t (List.mem_filter.mp ht).1), fun t ht => ?_,
                    other_d D3 hx nz noz (Nat.le_trans (List.length_filter_le _ _) b36) (fun t ht => ?_), bn.sublist (List.filter_sublist.map _)⟩
                  · rcases List.mem_append.mp ht with ht | ht
                    · exact s22 _ _ (hA16 t (List.mem_filter.mp ht).1)
                    · rw [List.mem_singleton.mp ht]
                      have := s22 _ _ (hA16 w0' hw0')
                      rw [← exh] at this
                      exact this
                  · obtain ⟨m, n⟩ := List.mem_filter.mp ht
                    refine ⟨m, fun e => ?_, fun e => ?_⟩ <;> simp [e] at n
      · rintro σ' H18 ⟨b3, L2, W2, bs2, v11, v12, F18, rfl, Z18, q18, fq18, p18, fp18, gb18, hB18, hA18, ww, nn⟩
        walk_at "zz"
        refine fun wa' hwa' => ?_
        have Z19 := Z18.mak hwa' (.dK [])
        have q19 := upd_keep (o := .dK []) q18 hwa'
        have p19 := upd_keep (o := .dK []) p18 hwa'
        have hw19 : (upd H18 wa' (.dK [])) wa' = some (.dK []) := upd_same
        have fw18 := Z18.sub.none hwa'
        have wa0 := Z18.old hwa'
        have qw : q ≠ wa' := ne_of_none q18 hwa'
        have pw : p ≠ wa' := ne_of_none p18 hwa'
        generalize upd H18 wa' (.dK []) = H19 at Z19 q19 p19 hw19 ⊢
        walk_at "zz"
        refine ⟨hw19, wK q p b3, rfl, (by show 3 ≤ 15; decide), ?_⟩
        show Q (.ref wa') (upd H19 wa' (.dK (wK q p b3)))
        have Z20 := (Z19.wr wa0 fw18 (.dK (wK q p b3))).frz wa0 upd_same fw18
        have q20 : (upd H19 wa' (.dK (wK q p b3))) q = some (.dK (heldK L2)) := by rw [upd_ne qw]; exact q19
        have p20 : (upd H19 wa' (.dK (wK q p b3))) p = some (.dK (lvK W2)) := by rw [upd_ne pw]; exact p19
        have fq20 : (upd F18 wa' (.dK (wK q p b3))) q = none := by rw [upd_ne qw]; exact fq18
        have fp20 : (upd F18 wa' (.dK (wK q p b3))) p = none := by rw [upd_ne pw]; exact fp18
        have Z21 := Z20.frz hq0 q20 fq20
        have fp21 : (upd (upd F18 wa' (.dK (wK q p b3))) q (.dK (heldK L2))) p = none := by rw [upd_ne npq.symm]; exact fp20
        have Z22 := (Z21.frz hp0 p20 fp21).mono (B2 := B + 10) (by omega)
        have s22 : Sub F18 (upd (upd (upd F18 wa' (.dK (wK q p b3))) q (.dK (heldK L2))) p (.dK (lvK W2))) := fun a o h => upd_keep (upd_keep (upd_keep h fw18) fq20) fp21
        exact k3 wa' q p b3 L2 W2 bs2 _ _ Z22 ⟨upd_keep (upd_keep upd_same fq20) fp21, upd_keep upd_same fp21, upd_same, s22 _ _ gb18, fun t ht => s22 _ _ (hB18 t ht), fun t ht => s22 _ _ (hA18 t ht)⟩ ww nn
end
end EV
end

section
set_option maxHeartbeats 4000000
local macro_rules | `(tactic| walk_at "za") => `(tactic| (first | exact Or.inl ⟨by omega, by omega⟩ | exact Or.inr ⟨by omega, by omega⟩ | exact ⟨by omega, by omega⟩ | exact ⟨by omega, by omega, by omega⟩ | omega))
local macro_rules | `(tactic| walk_at "z") => `(tactic| (first
  | with_reducible refine EV.z_seq ?_ | with_reducible refine EV.z_next ?_ | with_reducible refine EV.z_nx ?_ | with_reducible refine EV.z_rt ?_ | with_reducible refine EV.z_asg ?_ | with_reducible refine EV.z_name ?_
  | with_reducible refine EV.z_drop ?_ | with_reducible refine EV.z_ret ?_ | with_reducible refine EV.z_if ?_
  | ((with_reducible refine EV.z_var (v := ?vv) ?hv ?_); (case hv => exact rfl)) | with_reducible refine EV.z_c ?_ | with_reducible refine EV.z_op ?_ | with_reducible refine EV.z_un ?_ | with_reducible refine EV.z_I0 ?_ | with_reducible refine EV.z_U ?_ | ((with_reducible refine EV.z_I ?hc ?_); (case hc => walk_at "za"))
  | ((with_reducible refine EV.z_eq ?hv ?_); (case hv => exact rfl)) | ((with_reducible refine EV.z_ne ?hv ?_); (case hv => exact rfl))
  | with_reducible refine EV.z_test ?_ | with_reducible refine EV.z_bl ?_ | with_reducible refine EV.z_B ?_ | with_reducible refine EV.z_and ?_ | with_reducible refine EV.z_or ?_ | with_reducible refine EV.z_not ?_ | with_reducible refine EV.z_andV ?_
  | with_reducible refine EV.z_orV ?_ | with_reducible refine EV.z_notV ?_ | with_reducible refine EV.z_ifE ?_ | with_reducible refine EV.z_nil ?_ | with_reducible refine EV.z_cons ?_ | with_reducible refine EV.z_tup ?_ | with_reducible refine EV.z_lst ?_
  | with_reducible refine EV.z_cb ?_ | with_reducible refine EV.z_call ?_ | with_reducible refine EV.z_dget ?_ | with_reducible refine EV.z_dput ?_ | with_reducible refine EV.z_chain ?_ | with_reducible refine EV.z_then ?_ | with_reducible refine EV.z_fld ?_ | with_reducible refine EV.z_bm ?_
  | with_reducible refine EV.z_par ?_ | with_reducible refine EV.z_par3 ?_ | with_reducible refine EV.z_ex2 ?_ | with_reducible refine EV.z_ex3 ?_ | with_reducible refine EV.z_tyes ?_ | ((with_reducible refine EV.z_wipe ?hv ?_); (case hv => exact rfl))
  | with_reducible refine EV.z_lc ?_ | with_reducible refine EV.z_ltS ?_ | with_reducible refine EV.z_disp ?_ | with_reducible refine EV.z_pc ?_ | with_reducible refine EV.z_pn ?_ | with_reducible refine EV.z_m1 ?_ | with_reducible refine EV.z_isS ?_ | with_reducible refine EV.z_sl ?_ | with_reducible refine EV.z_np ?_ | with_reducible refine EV.z_pt ?_ | with_reducible refine EV.z_exI ?_ | with_reducible refine EV.z_is ?_ | with_reducible refine EV.z_istr ?_ | with_reducible refine EV.z_no ?_ | with_reducible refine EV.z_yes ?_ | with_reducible refine EV.z_for ?_ | with_reducible refine EV.z_il ?_ | with_reducible refine EV.z_it ?_ | with_reducible refine EV.z_r1 ?_ | with_reducible refine EV.z_ik ?_ | with_reducible refine EV.z_din ?_ | with_reducible refine EV.z_dnin ?_ | with_reducible refine EV.z_dsd ?_ | with_reducible refine EV.z_gs ?_ | with_reducible refine EV.z_gc ?_ | with_reducible refine EV.z_gn ?_ | with_reducible refine EV.z_turn ?_))
local macro_rules | `(tactic| walk_at "zz") => `(tactic| repeat walk_at "z")
local macro_rules | `(tactic| walk_at "z") => `(tactic| (first | with_reducible refine EV.z_mt ?_ | with_reducible refine EV.z_cS ?_ | with_reducible refine EV.z_mkO ?_ | with_reducible refine EV.z_mkK ?_))
/-! ### a full world -/
namespace EV
open PySem PySem.Spec PyProof.Rows L2
def spFull : Sp := fun vs H Q _ => ∃ F : Hp, vs = [] ∧ Sub F H ∧ ∀ (wa hd lv br : Addr) (L : Hld) (W : Lvs) (bs : Bars) F' H', Nx No F H F' H' → Wd F' wa hd lv br L W bs → WD L W bs → (bs.map (·.2)).Nodup → Q (.ref wa) H'
def fFolk : List Str := ["hold", "page", "bar", "a", "aa", "zzzzzz"]
abbrev fSigns : Str := "lkjihgfedcba"
def fTwo (c : Nat) : Str := (⟨#[c]⟩ : Str) ++ ("z" : Str)
def fSheets : List Str := fSigns.cps.toList.map fTwo
def fPairs : List (Str × Str) := fFolk.flatMap fun x => (fFolk.filter fun y => decide (x.cps.toList < y.cps.toList)).map fun y => (x, y)
def nmBf (x : Str) : Bool := decide (1 ≤ x.cps.toList.length) && decide (x.cps.toList.length ≤ 6) && x.cps.toList.all fun c => decide (97 ≤ c) && decide (c ≤ 122)
theorem nm_of {x : Str} (h : nmBf x = true) : Nm x := by
  unfold nmBf at h
  simp only [Bool.and_eq_true, decide_eq_true_eq, List.all_eq_true] at h
  exact ⟨h.1.1, h.1.2, h.2⟩
theorem f_folk : fFolk.Nodup ∧ ∀ x ∈ fFolk, Nm x := ⟨by decide +kernel, fun x hx => nm_of (by
  have all : (fFolk.all nmBf) = true := by decide +kernel
  exact List.all_eq_true.mp all x hx)⟩
theorem f_sheets : fSheets.Nodup ∧ fSheets.length = 12 ∧ ∀ x ∈ fSheets, Nm x := ⟨by decide +kernel, by decide +kernel, fun x hx => nm_of (by
  have all : (fSheets.all nmBf) = true := by decide +kernel
  exact List.all_eq_true.mp all x hx)⟩
theorem f_pairs : fPairs.Nodup ∧ fPairs.length ≤ 36 ∧ ∀ p ∈ fPairs, p.1 ∈ fFolk ∧ p.2 ∈ fFolk ∧ slt p.1 p.2 := ⟨by decide +kernel, by decide +kernel, fun p hp => by
  obtain ⟨x, hx, h⟩ := List.mem_flatMap.mp hp
  obtain ⟨y, hy, rfl⟩ := List.mem_map.mp h
  obtain ⟨hy, lt⟩ := List.mem_filter.mp hy
  exact ⟨hx, hy, of_decide_eq_true lt⟩⟩
theorem f_world {L : Hld} {bs : Bars} (en : L.map (·.1) = fFolk) (ep : ∀ t ∈ L, t.2.2 = fSheets) (eb : bs.map (·.2) = fPairs) : WD L (fSheets.map fun s => (s, 9)) bs ∧ (bs.map (·.2)).Nodup := by
  have ll : L.length = 6 := by have := congrArg List.length en; rw [List.length_map] at this; exact this
  have bl : bs.length = fPairs.length := by have := congrArg List.length eb; rwa [List.length_map] at this
  have ek : (fSheets.map fun s => ((s, 9) : Str × Int)).map (·.1) = fSheets := by rw [List.map_map]; exact List.map_id _
  refine ⟨⟨by omega, by omega, fun t ht => f_folk.2 _ (by rw [← en]; exact List.mem_map_of_mem ht), ⟨fSheets, by rw [f_sheets.2.1]; exact Nat.le_refl _, f_sheets.2.2, ⟨by rw [en]; exact f_folk.1, fun t ht => by rw [ep t ht, ek]; exact ⟨f_sheets.1, fun x hx => hx⟩, by rw [ek]; exact f_sheets.1, fun q hq => ?_, fun q hq => ?_⟩⟩, by rw [bl]; exact f_pairs.2.1, fun t ht => ?_⟩, by rw [eb]; exact f_pairs.1⟩
  · obtain ⟨s, hs, rfl⟩ := List.mem_map.mp hq
    exact ⟨hs, by show (1 : Int) ≤ 9; decide, by show (9 : Int) ≤ 9; decide⟩
  · obtain ⟨s, hs, rfl⟩ := List.mem_map.mp hq
    cases L with
    | nil => simp at ll
    | cons t L => exact ⟨t, List.mem_cons_self, by rw [ep t List.mem_cons_self]; exact hs⟩
  · rw [en]
    exact f_pairs.2.2 t.2 (by rw [← eb]; exact List.mem_map_of_mem ht)
abbrev s_full : Stmt := top 47
abbrev N_full : List Str := ["letter", "folk", "sheets", "person", "held", "fences", "first", "second", "sheet"]
abbrev P_full : List Str := []
theorem sc_full : FnScope N_full P_full (defScope s_full) := ⟨rfl, rfl, rfl, by decide +kernel, rfl, by decide +kernel, by decide +kernel⟩
section
variable {P : Program} {w : World} {K : PySem.W.Frag} {mg : Str → Option Value} {base : Heap}
theorem ok_full (T : Txt mg) {f fd} (D : C8.Def K mg "_law_full" s_full f fd) (b : Binds K fd P_full []) : C8.Cal P w K mg base 1 "_law_full" spFull [] := by
  refine C8.cal0 D b .nil sc_full (fun vs H Q E h => ?_) (fun cdv A outer s H vs Q E hr h => ?_)
  · obtain ⟨F, rfl, _⟩ := h
    rfl
  · obtain ⟨F, rfl, sF, k⟩ := h
    have hu := hu_of hr
    refine ⟨_, (pss_cons (ps_asg (pe_tup (pa_cons (pe_lst (pa_cons pe_str (pa_cons pe_str (pa_cons pe_str (pa_cons pe_str (pa_cons pe_str (pa_cons pe_str pa_nil))))))) (pa_cons (pe_lc (own := [("letter", 0)]) rfl sc_full.nd (pi_str pe_str) (blkOk_by (N := N_full) (sc := defScope s_full) (by decide +kernel)) (fun _ _ _ _ _ => (pg_name (i := 0) sc_full.nd rfl (Or.inl rfl))) (fun _ _ _ _ _ => pts_nil) (fun _ _ _ _ _ => (pe_op k_addS (pv 0) pe_str))) pa_nil))) (k_pgt K 2 rfl (pgs_cons (pg_name (i := 1) sc_full.nd rfl (Or.inl rfl)) (pgs_cons (pg_name (i := 2) sc_full.nd rfl (Or.inr rfl)) pgs_nil))))
  (pss_cons (ps_set (i := 4) sc_full.nd rfl (Or.inl rfl) (pe_callTy (call_dictP rfl) rfl T.b_dict (by decide +kernel) (pa_cons (pe_lc (own := [("person", 3)]) rfl sc_full.nd (k_pil K (pv 1)) (blkOk_by (N := N_full) (sc := defScope s_full) (by decide +kernel)) (fun _ _ _ _ _ => (pg_name (i := 3) sc_full.nd rfl (Or.inl rfl))) (fun _ _ _ _ _ => pts_nil) (fun _ _ _ _ _ => (pe_tup (pa_cons (pv 3) (pa_cons (pe_callTy (k_listOf K) rfl T.b_list (by decide +kernel) (pa_cons (pv 2) pa_nil)) pa_nil))))) pa_nil)))
  (pss_cons (ps_set (i := 5) sc_full.nd rfl (Or.inl rfl) (pe_lst pa_nil))
  (pss_cons (ps_for PassesOwn.never rfl (k_pil K (pv 1)) (pg_name (i := 6) sc_full.nd rfl (Or.inr rfl))
    (pss_one (ps_set (i := 5) sc_full.nd rfl (Or.inl rfl) (pe_op op_cat (pv 5) (pe_lc (own := [("second", 7)]) rfl sc_full.nd (k_pil K (pv 1)) (blkOk_by (N := N_full) (sc := defScope s_full) (by decide +kernel)) (fun _ _ _ _ _ => (pg_name (i := 7) sc_full.nd rfl (Or.inl rfl))) (fun _ _ _ _ _ => (pts_one (pt_cmpR k_ltS (pv 6) (pv 7) (nomark _)))) (fun _ _ _ _ _ => (pe_tup (pa_cons (pv 6) (pa_cons (pv 7) pa_nil)))))))))
  (pss_one (ps_ret (pe_disp (pps_cons pe_str (pv 4) (pps_cons pe_str (pe_callTy (call_dictP rfl) rfl T.b_dict (by decide +kernel) (pa_cons (pe_lc (own := [("sheet", 8)]) rfl sc_full.nd (k_pil K (pv 2)) (blkOk_by (N := N_full) (sc := defScope s_full) (by decide +kernel)) (fun _ _ _ _ _ => (pg_name (i := 8) sc_full.nd rfl (Or.inl rfl))) (fun _ _ _ _ _ => pts_nil) (fun _ _ _ _ _ => (pe_tup (pa_cons (pv 8) (pa_cons pe_int pa_nil))))) pa_nil)) (pps_cons pe_str (pv 5) pps_nil))) rfl rfl (by simp) (by decide)))))))), ?_⟩
    walk_at "zz"
    refine ⟨sz (by show 6 ≤ 100000; decide), fun l hl => ?_⟩
    have N1 := (Nx.refl (M := No) sF).trans (Nx.lay (M := No) (o := .lst (fFolk.map V.str)) sF hl)
    have g1 : (upd F l (.lst (fFolk.map V.str))) l = some (.lst (fFolk.map V.str)) := upd_same
    rw [show [V.str ("hold" : Str), V.str ("page" : Str), V.str ("bar" : Str), V.str ("a" : Str), V.str ("aa" : Str), V.str ("zzzzzz" : Str)] = fFolk.map V.str from rfl]
    generalize upd F l (.lst (fFolk.map V.str)) = F1 at N1 g1
    generalize upd H l (.lst (fFolk.map V.str)) = H1 at N1 ⊢
    walk_at "zz"
    refine fun D' hD => ?_
    have D0 := N1.old hD
    have fD := N1.sub.none hD
    refine lc_it (walk_str (z := fSigns)) (fun i H' => Nx No F H F1 H' ∧ H' D' = some (.lst (((fSigns.cps.toList.take i).map fTwo).map V.str))) ⟨N1.trans (Nx.mak N1.sub hD), upd_same⟩ (fun _ _ _ _ => trivial) ?_ ?_
    · rintro i v H2 H3 hi ⟨N2, h2⟩ ⟨rfl, c, hc, rfl⟩
      have hc' : fSigns.cps.toList[i]? = some c := by rw [Array.getElem?_toList]; exact hc
      have i12 : i < 12 := hi
      walk_at "zz"
      refine z_addS (sz (by show (1 : Nat) + 1 ≤ 100000; decide)) ?_
      refine ⟨_, h2, szl (by rw [List.length_map, List.length_map, List.length_take]; omega), N2.wr (.inl D0) fD, ?_⟩
      rw [upd_same, take_step hc', List.map_append, List.map_append]; rfl
    · rintro H2 ⟨N2, h2⟩
      have e12 : fSigns.cps.toList.take fSigns.cps.size = fSigns.cps.toList := by rw [← Array.length_toList, List.take_length]
      rw [e12] at h2
      have N3 := N2.frz D0 h2 fD
      have s3 : Sub F1 (upd F1 D' (.lst (fSheets.map V.str))) := fun x o e => upd_keep e fD
      have g3 := s3 _ _ g1
      have g3' : (upd F1 D' (.lst (fSheets.map V.str))) D' = some (.lst (fSheets.map V.str)) := upd_same
      have N3' : Nx No F H (upd F1 D' (.lst (fSheets.map V.str))) H2 := N3
      generalize upd F1 D' (.lst (fSheets.map V.str)) = F3 at N3' g3 g3'
      clear N3 s3 N2 h2 N1 g1 fD
      walk_at "zz"
      refine ⟨sz (by show 2 ≤ 100000; decide), fun u hu1 => ?_⟩
      have N4 := N3'.trans (Nx.mak (M := No) (o := .tup [.ref l, .ref D']) N3'.sub hu1)
      have u4 : (upd H2 u (.tup [.ref l, .ref D'])) u = some (.tup [.ref l, .ref D']) := upd_same
      generalize upd H2 u (.tup [.ref l, .ref D']) = H4 at N4 u4 ⊢
      refine z_gt (SqT.of u4) rfl ?_
      walk_at "zz"
      refine ⟨l, rfl, ⟨_, N4.sub.sql g3⟩, fun E1 hE1 => ?_⟩
      have E10 := N4.old hE1
      have fE1 := N4.sub.none hE1
      refine lc_it (walk_list (xs := fFolk.map V.str)) (fun i H' => ∃ (F' : Hp) (ps : List Quad), Nx No F H F' H' ∧ Sub F3 F' ∧ F' E1 = none ∧ H' E1 = some (.lst (ps.map fun p => V.ref p.1)) ∧ (∀ p ∈ ps, F' p.1 = some (.tup [.str p.2.1, .ref p.2.2.1]) ∧ F' p.2.2.1 = some (.lst (fSheets.map V.str)) ∧ p.2.2.2 = fSheets) ∧ ps.map (fun p => p.2.1) = fFolk.take i)
        ⟨F3, [], N4.trans (Nx.mak N4.sub hE1), fun _ _ e => e, fE1, upd_same, fun p hp => (by cases hp), rfl⟩ (fun i H' _ ⟨_, _, N, s, _⟩ => N.sub.sql (s _ _ g3)) ?_ ?_
      · rintro i v H5 H6 hi ⟨F5, ps, N5, s5, fE5, h5, q5, e5⟩ ⟨rfl, hv⟩
        obtain ⟨n, hn, rfl⟩ := at_str hv
        have pl : ps.length ≤ 6 := by have := congrArg List.length e5; rw [List.length_map, List.length_take] at this; have : fFolk.length = 6 := rfl; omega
        walk_at "zz"
        refine z_list (.inl (N5.sub.sql (s5 _ _ g3'))) fun m hm => ?_
        have N6 := N5.trans (Nx.lay (M := No) (o := .lst (fSheets.map V.str)) N5.sub hm)
        have s6 : Sub F5 (upd F5 m (.lst (fSheets.map V.str))) := fun x o e => upd_keep e (N5.sub.none hm)
        have m6 : (upd F5 m (.lst (fSheets.map V.str))) m = some (.lst (fSheets.map V.str)) := upd_same
        have h6 := upd_keep (o := .lst (fSheets.map V.str)) h5 hm
        have fE6 : (upd F5 m (.lst (fSheets.map V.str))) E1 = none := by rw [upd_ne (ne_of_none h5 hm)]; exact fE5
        generalize upd F5 m (.lst (fSheets.map V.str)) = F6 at N6 s6 m6 fE6
        generalize upd H6 m (.lst (fSheets.map V.str)) = H7 at N6 h6 ⊢
        walk_at "zz"
        refine ⟨sz (by show 2 ≤ 100000; decide), fun r hr1 => ?_⟩
        have N7 := N6.trans (Nx.lay (M := No) (o := .tup [.str n, .ref m]) N6.sub hr1)
        have s7 : Sub F6 (upd F6 r (.tup [.str n, .ref m])) := fun x o e => upd_keep e (N6.sub.none hr1)
        have h7 := upd_keep (o := .tup [.str n, .ref m]) h6 hr1
        have fE7 : (upd F6 r (.tup [.str n, .ref m])) E1 = none := by rw [upd_ne (ne_of_none h6 hr1)]; exact fE6
        refine ⟨_, h7, szl (by rw [List.length_map]; omega), _, ps ++ [(r, n, m, fSheets)], N7.wr (.inl E10) fE7, fun x o e => s7 _ _ (s6 _ _ (s5 _ _ e)), fE7, by rw [upd_same, List.map_append]; rfl, fun p hp => ?_, by rw [List.map_append, e5, take_step hn]; rfl⟩
        rcases List.mem_append.mp hp with hp | hp
        · obtain ⟨a1, a2, a3⟩ := q5 p hp
          exact ⟨s7 _ _ (s6 _ _ a1), s7 _ _ (s6 _ _ a2), a3⟩
        · rw [List.mem_singleton.mp hp]
          exact ⟨upd_same, s7 _ _ m6, rfl⟩
      · rintro H5 ⟨F5, ps, N5, s5, fE5, h5, q5, e5⟩
        rw [List.length_map, List.take_length] at e5
        walk_at "zz"
        refine ⟨E1, ps.map (fun p : Quad => p.1), heldK (ps.map fun p : Quad => (p.2.1, p.2.2.1, p.2.2.2)), rfl, SqL.of (by rw [List.map_map]; exact h5), paired_of fun p hp => N5.sub.sqt (q5 p hp).1, fun q hq => ?_⟩
        have ekeys : (ps.map fun p => ((p.2.1, p.2.2.1, p.2.2.2) : Str × Addr × List Str)).map (·.1) = fFolk := by rw [List.map_map]; exact e5
        have mk := mergeK_held (L := ps.map fun p => (p.2.1, p.2.2.1, p.2.2.2)) (A := []) (by rw [List.nil_append, ekeys]; exact f_folk.1)
        rw [List.nil_append] at mk
        rw [show mergeK [] (heldK (ps.map fun p => (p.2.1, p.2.2.1, p.2.2.2))) = heldK (ps.map fun p => (p.2.1, p.2.2.1, p.2.2.2)) from mk]
        have hL : HeldA F5 (ps.map fun p => ((p.2.1, p.2.2.1, p.2.2.2) : Str × Addr × List Str)) := fun t ht => by
          obtain ⟨p, hp, rfl⟩ := List.mem_map.mp ht
          obtain ⟨_, a2, a3⟩ := q5 p hp
          show F5 p.2.2.1 = some (.lst (p.2.2.2.map V.str))
          rw [a3]; exact a2
        have pL : ∀ t ∈ (ps.map fun p => ((p.2.1, p.2.2.1, p.2.2.2) : Str × Addr × List Str)), t.2.2 = fSheets := fun t ht => by
          obtain ⟨p, hp, rfl⟩ := List.mem_map.mp ht
          exact (q5 p hp).2.2
        generalize (ps.map fun p => ((p.2.1, p.2.2.1, p.2.2.2) : Str × Addr × List Str)) = L at ekeys hL pL ⊢
        have N6 := N5.trans (Nx.lay (M := No) (o := .dK (heldK L)) N5.sub hq)
        have s6 : Sub F5 (upd F5 q (.dK (heldK L))) := fun x o e => upd_keep e (N5.sub.none hq)
        have q6 : (upd F5 q (.dK (heldK L))) q = some (.dK (heldK L)) := upd_same
        generalize upd F5 q (.dK (heldK L)) = F6 at N6 s6 q6
        generalize upd H5 q (.dK (heldK L)) = H6 at N6 ⊢
        have hL6 : HeldA F6 L := fun t ht => s6 _ _ (hL t ht)
        have g6 := s6 _ _ (s5 _ _ g3)
        have g6' := s6 _ _ (s5 _ _ g3')
        clear N5 q5 h5 mk s5 s6 hL g3 g3' N4 N3' u4
        walk_at "zz"
        refine ⟨sz (by decide), fun e he => ?_⟩
        have N7 := N6.trans (Nx.lay (M := No) (o := .lst []) N6.sub he)
        have s7 : Sub F6 (upd F6 e (.lst [])) := fun x o h => upd_keep h (N6.sub.none he)
        have e7 : (upd F6 e (.lst [])) e = some (.lst ((([] : Bars)).map fun t => V.ref t.1)) := upd_same
        generalize upd F6 e (.lst []) = F7 at N7 s7 e7
        generalize upd H6 e (.lst []) = H7 at N7 ⊢
        walk_at "zz"
        refine z_loopL (xs := fFolk.map V.str) (N7.sub.sql (s7 _ _ g6)) (fun i σ' H' => ∃ (F' : Hp) (bs : Bars) (fe : Addr) (v6 : Option V), σ' = [none, some (.ref l), some (.ref D'), none, some (.ref q), some (.ref fe), v6, none, none] ∧ Nx No F H F' H' ∧ Sub F7 F' ∧ F' fe = some (.lst (bs.map fun t => V.ref t.1)) ∧ BarsA F' bs ∧
            bs.map (·.2) = (fFolk.take i).flatMap fun x => (fFolk.filter fun y => decide (x.cps.toList < y.cps.toList)).map fun y => (x, y))
          ⟨F7, [], e, none, rfl, N7, fun _ _ e => e, e7, fun t ht => (by cases ht), rfl⟩ (fun i σ' H' _ ⟨_, _, _, _, _, N, s, _⟩ => N.sub.sql (s _ _ (s7 _ _ g6))) ?_ ?_
        · rintro i v σ' H8 hi ⟨F8, bs, fe, v6, rfl, N8, s8, f8, b8, e8⟩
          obtain ⟨x, hx, rfl⟩ := at_str hi
          have i6 : i < 6 := (List.getElem?_eq_some_iff.mp hx).1
          have bl : bs.length ≤ 36 := by
            have := congrArg List.length e8
            rw [List.length_map] at this
            have k36 : ∀ i, i < 6 → ((fFolk.take i).flatMap fun x => (fFolk.filter fun y => decide (x.cps.toList < y.cps.toList)).map fun y => (x, y)).length ≤ 36 := by decide +kernel
            have := k36 i i6
            omega
          walk_at "zz"
          refine ⟨l, rfl, ⟨_, N8.sub.sql (s8 _ _ (s7 _ _ g6))⟩, fun E2 hE2 => ?_⟩
          have E20 := N8.old hE2
          have fE2 := N8.sub.none hE2
          refine lc_it (walk_list (xs := fFolk.map V.str)) (fun j H' => ∃ (F' : Hp) (cs : Bars), Nx No F H F' H' ∧ Sub F8 F' ∧ F' E2 = none ∧ H' E2 = some (.lst (cs.map fun t => V.ref t.1)) ∧ BarsA F' cs ∧ cs.map (·.2) = ((fFolk.take j).filter fun y => decide (x.cps.toList < y.cps.toList)).map fun y => (x, y))
            ⟨F8, [], N8.trans (Nx.mak N8.sub hE2), fun _ _ e => e, fE2, upd_same, fun t ht => (by cases ht), rfl⟩ (fun i H' _ ⟨_, _, N, s, _⟩ => N.sub.sql (s _ _ (s8 _ _ (s7 _ _ g6)))) ?_ ?_
          · rintro j v H9 H10 hj ⟨F9, cs, N9, s9, fE9, h9, b9, e9⟩ ⟨rfl, hv⟩
            obtain ⟨y, hy, rfl⟩ := at_str hv
            have cl : cs.length ≤ 6 := by
              have := congrArg List.length e9
              rw [List.length_map, List.length_map] at this
              have f := List.length_filter_le (fun y : Str => decide (x.cps.toList < y.cps.toList)) (fFolk.take j)
              rw [List.length_take] at f
              have : fFolk.length = 6 := rfl
              omega
            walk_at "zz"
            refine z_ite (fun lt => ?_) (fun nlt => ?_)
            · walk_at "zz"
              refine ⟨sz (by show 2 ≤ 100000; decide), fun r hr1 => ?_⟩
              have N10 := N9.trans (Nx.lay (M := No) (o := .tup [.str x, .str y]) N9.sub hr1)
              have s10 : Sub F9 (upd F9 r (.tup [.str x, .str y])) := fun z o e => upd_keep e (N9.sub.none hr1)
              have h10 := upd_keep (o := .tup [.str x, .str y]) h9 hr1
              have fE10 : (upd F9 r (.tup [.str x, .str y])) E2 = none := by rw [upd_ne (ne_of_none h9 hr1)]; exact fE9
              refine ⟨_, h10, szl (by rw [List.length_map]; omega), _, cs ++ [(r, x, y)], N10.wr (.inl E20) fE10, fun z o e => s10 _ _ (s9 _ _ e), fE10, by rw [upd_same, List.map_append]; rfl, fun t ht => ?_, ?_⟩
              · rcases List.mem_append.mp ht with ht | ht
                · exact s10 _ _ (b9 t ht)
                · rw [List.mem_singleton.mp ht]; exact upd_same
              · rw [List.map_append, e9, take_step hy, List.filter_append, List.map_append, show List.filter (fun y => decide (x.cps.toList < y.cps.toList)) [y] = [y] from List.filter_cons_of_pos (p := fun y : Str => decide (x.cps.toList < y.cps.toList)) (decide_eq_true lt)]; rfl
            · refine ⟨F9, cs, N9, s9, fE9, h9, b9, ?_⟩
              rw [e9, take_step hy, List.filter_append, List.map_append, show List.filter (fun y => decide (x.cps.toList < y.cps.toList)) [y] = [] from List.filter_cons_of_neg (p := fun y : Str => decide (x.cps.toList < y.cps.toList)) (by rw [decide_eq_false nlt]; decide)]
              simp
          · rintro H9 ⟨F9, cs, N9, s9, fE9, h9, b9, e9⟩
            rw [List.length_map, List.take_length] at e9
            have cl : cs.length ≤ 6 := by
              have := congrArg List.length e9
              rw [List.length_map, List.length_map] at this
              have f := List.length_filter_le (fun y : Str => decide (x.cps.toList < y.cps.toList)) fFolk
              have : fFolk.length = 6 := rfl
              omega
            walk_at "zz"
            refine z_cat (N9.sub _ _ (s9 _ _ f8)) h9 (by rw [List.length_map, List.length_map]; omega) fun r hr1 => ?_
            rw [← List.map_append]
            have N10 := N9.trans (Nx.lay (M := No) (o := .lst ((bs ++ cs).map fun t => V.ref t.1)) N9.sub hr1)
            have s10 : Sub F9 (upd F9 r (.lst ((bs ++ cs).map fun t => V.ref t.1))) := fun z o e => upd_keep e (N9.sub.none hr1)
            walk_at "zz"
            refine ⟨_, bs ++ cs, r, _, rfl, N10, fun z o e => s10 _ _ (s9 _ _ (s8 _ _ e)), upd_same, fun t ht => ?_, by rw [List.map_append, e8, e9, take_step hx, List.flatMap_append, List.flatMap_singleton]⟩
            rcases List.mem_append.mp ht with ht | ht
            · exact s10 _ _ (s9 _ _ (b8 t ht))
            · exact s10 _ _ (b9 t ht)
        · rintro σ' H8 ⟨F8, bs, fe, v6, rfl, N8, s8, f8, b8, e8⟩
          rw [List.length_map, List.take_length] at e8
          obtain ⟨ww, nn⟩ := f_world ekeys pL e8
          have hL8 : HeldA F8 L := fun t ht => s8 _ _ (s7 _ _ (hL6 t ht))
          have q8 := s8 _ _ (s7 _ _ q6)
          walk_at "zz"
          refine fun wa hwa => ?_
          have wa0 := N8.old hwa
          have fwa := N8.sub.none hwa
          have N9 := N8.trans (Nx.mak (M := No) (o := .dK []) N8.sub hwa)
          have w9 : (upd H8 wa (.dK [])) wa = some (.dK []) := upd_same
          generalize upd H8 wa (.dK []) = H9 at N9 w9 ⊢
          walk_at "zz"
          refine ⟨D', rfl, ⟨_, N9.sub.sql (s8 _ _ (s7 _ _ g6'))⟩, fun E3 hE3 => ?_⟩
          have E30 := N9.old hE3
          have fE3 := N9.sub.none hE3
          have w3 : wa ≠ E3 := ne_of_none w9 hE3
          refine lc_it (walk_list (xs := fSheets.map V.str)) (fun j H' => Nx No F H F8 H' ∧ H' wa = some (.dK []) ∧ ∃ ps : List (Addr × Str × Int), H' E3 = some (.lst (ps.map fun t => V.ref t.1)) ∧ ps.map (·.2) = (fSheets.take j).map (fun s => (s, 9)) ∧ ∀ t ∈ ps, H' t.1 = some (.tup [.str t.2.1, .int t.2.2]))
            ⟨N9.trans (Nx.mak N9.sub hE3), upd_keep w9 hE3, [], upd_same, rfl, fun t ht => (by cases ht)⟩ (fun i H' _ h => h.1.sub.sql (s8 _ _ (s7 _ _ g6'))) ?_ ?_
          · rintro j v H10 H11 hj ⟨N10, w10, ps, h10, e10, q10⟩ ⟨rfl, hv⟩
            obtain ⟨s, hs, rfl⟩ := at_str hv
            have pl : ps.length ≤ 12 := by
              have := congrArg List.length e10
              rw [List.length_map, List.length_map, List.length_take] at this
              have := f_sheets.2.1
              omega
            walk_at "zz"
            refine ⟨sz (by show 2 ≤ 100000; decide), fun r hr1 => ?_⟩
            have N11 := N10.trans (Nx.mak (M := No) (o := .tup [.str s, .int 9]) N10.sub hr1)
            have h11 := upd_keep (o := .tup [.str s, .int 9]) h10 hr1
            have w11 := upd_keep (o := .tup [.str s, .int 9]) w10 hr1
            have rE : E3 ≠ r := ne_of_none h10 hr1
            refine ⟨_, h11, szl (by rw [List.length_map]; omega), N11.wr (.inl E30) fE3, by rw [upd_ne w3]; exact w11, ps ++ [(r, s, 9)], by rw [upd_same, List.map_append]; rfl, by rw [List.map_append, e10, take_step hs, List.map_append]; rfl, fun t ht => ?_⟩
            rcases List.mem_append.mp ht with ht | ht
            · rw [upd_ne (ne_of (q10 t ht) h10 (fun z => nomatch z))]; exact upd_keep (q10 t ht) hr1
            · rw [List.mem_singleton.mp ht, upd_ne rE.symm]; exact upd_same
          · rintro H10 ⟨N10, w10, ps, h10, e10, q10⟩
            rw [List.length_map, List.take_length] at e10
            walk_at "zz"
            have ek : (ps.map (·.2)).map (·.1) = fSheets := by rw [e10, List.map_map]; exact List.map_id _
            refine ⟨E3, ps.map (fun t => t.1), lvK (ps.map fun t => t.2), rfl, SqL.of (by rw [List.map_map]; exact h10), paired_lv (fun t ht => SqT.of (q10 t ht)), fun p2 hp2 => ?_⟩
            have mk := mergeK_lv (W := ps.map fun t => t.2) (A := []) (by rw [List.nil_append, ek]; exact f_sheets.1)
            rw [List.nil_append] at mk
            rw [show mergeK [] (lvK (ps.map fun t => t.2)) = lvK (ps.map fun t => t.2) from mk, e10]
            have N11 := N10.trans (Nx.lay (M := No) (o := .dK (lvK (fSheets.map fun s => (s, 9)))) N10.sub hp2)
            have s11 : Sub F8 (upd F8 p2 (.dK (lvK (fSheets.map fun s => (s, 9))))) := fun x o e => upd_keep e (N10.sub.none hp2)
            have w11 := upd_keep (o := .dK (lvK (fSheets.map fun s => (s, 9)))) w10 hp2
            have fw11 : (upd F8 p2 (.dK (lvK (fSheets.map fun s => (s, 9))))) wa = none := by rw [upd_ne (ne_of_none w10 hp2)]; exact fwa
            have p11 : (upd F8 p2 (.dK (lvK (fSheets.map fun s => (s, 9))))) p2 = some (.dK (lvK (fSheets.map fun s => (s, 9)))) := upd_same
            generalize upd F8 p2 (.dK (lvK (fSheets.map fun s => (s, 9)))) = F11 at N11 s11 fw11 p11
            generalize upd H10 p2 (.dK (lvK (fSheets.map fun s => (s, 9)))) = H11 at N11 w11 ⊢
            walk_at "zz"
            refine ⟨w11, wK q p2 fe, rfl, (by show 3 ≤ 15; decide), ?_⟩
            show Q (.ref wa) (upd H11 wa (.dK (wK q p2 fe)))
            have N12 := (N11.wr (o := .dK (wK q p2 fe)) (.inl wa0) fw11).frz wa0 upd_same fw11
            have s12 : Sub F11 (upd F11 wa (.dK (wK q p2 fe))) := fun x o e => upd_keep e fw11
            exact k wa q p2 fe L _ bs _ _ N12 ⟨upd_same, s12 _ _ (s11 _ _ q8), s12 _ _ p11, s12 _ _ (s11 _ _ f8), fun t ht => s12 _ _ (s11 _ _ (b8 t ht)), fun t ht => s12 _ _ (s11 _ _ (hL8 t ht))⟩ ww nn
end
end EV
end

section
set_option maxHeartbeats 2000000
local macro_rules | `(tactic| walk_at "za") => `(tactic| (first | exact Or.inl ⟨by omega, by omega⟩ | exact Or.inr ⟨by omega, by omega⟩ | exact ⟨by omega, by omega⟩ | exact ⟨by omega, by omega, by omega⟩ | omega))
local macro_rules | `(tactic| walk_at "z") => `(tactic| (first
  | with_reducible refine EV.z_seq ?_ | with_reducible refine EV.z_next ?_ | with_reducible refine EV.z_nx ?_ | with_reducible refine EV.z_rt ?_ | with_reducible refine EV.z_asg ?_ | with_reducible refine EV.z_name ?_
  | with_reducible refine EV.z_drop ?_ | with_reducible refine EV.z_ret ?_ | with_reducible refine EV.z_if ?_
  | ((with_reducible refine EV.z_var (v := ?vv) ?hv ?_); (case hv => exact rfl)) | with_reducible refine EV.z_c ?_ | with_reducible refine EV.z_op ?_ | with_reducible refine EV.z_un ?_ | with_reducible refine EV.z_I0 ?_ | with_reducible refine EV.z_U ?_ | ((with_reducible refine EV.z_I ?hc ?_); (case hc => walk_at "za"))
  | ((with_reducible refine EV.z_eq ?hv ?_); (case hv => exact rfl)) | ((with_reducible refine EV.z_ne ?hv ?_); (case hv => exact rfl))
  | with_reducible refine EV.z_test ?_ | with_reducible refine EV.z_bl ?_ | with_reducible refine EV.z_B ?_ | with_reducible refine EV.z_and ?_ | with_reducible refine EV.z_or ?_ | with_reducible refine EV.z_not ?_ | with_reducible refine EV.z_andV ?_
  | with_reducible refine EV.z_orV ?_ | with_reducible refine EV.z_notV ?_ | with_reducible refine EV.z_ifE ?_ | with_reducible refine EV.z_nil ?_ | with_reducible refine EV.z_cons ?_ | with_reducible refine EV.z_tup ?_ | with_reducible refine EV.z_lst ?_
  | with_reducible refine EV.z_cb ?_ | with_reducible refine EV.z_call ?_ | with_reducible refine EV.z_dget ?_ | with_reducible refine EV.z_dput ?_ | with_reducible refine EV.z_chain ?_ | with_reducible refine EV.z_then ?_ | with_reducible refine EV.z_fld ?_ | with_reducible refine EV.z_bm ?_
  | with_reducible refine EV.z_par ?_ | with_reducible refine EV.z_par3 ?_ | with_reducible refine EV.z_ex2 ?_ | with_reducible refine EV.z_ex3 ?_ | with_reducible refine EV.z_tyes ?_ | ((with_reducible refine EV.z_wipe ?hv ?_); (case hv => exact rfl))
  | with_reducible refine EV.z_lc ?_ | with_reducible refine EV.z_ltS ?_ | with_reducible refine EV.z_disp ?_ | with_reducible refine EV.z_pc ?_ | with_reducible refine EV.z_pn ?_ | with_reducible refine EV.z_m1 ?_ | with_reducible refine EV.z_isS ?_ | with_reducible refine EV.z_sl ?_ | with_reducible refine EV.z_np ?_ | with_reducible refine EV.z_pt ?_ | with_reducible refine EV.z_exI ?_ | with_reducible refine EV.z_is ?_ | with_reducible refine EV.z_istr ?_ | with_reducible refine EV.z_no ?_ | with_reducible refine EV.z_yes ?_ | with_reducible refine EV.z_for ?_ | with_reducible refine EV.z_il ?_ | with_reducible refine EV.z_it ?_ | with_reducible refine EV.z_r1 ?_ | with_reducible refine EV.z_ik ?_ | with_reducible refine EV.z_din ?_ | with_reducible refine EV.z_dnin ?_ | with_reducible refine EV.z_dsd ?_ | with_reducible refine EV.z_gs ?_ | with_reducible refine EV.z_gc ?_ | with_reducible refine EV.z_gn ?_ | with_reducible refine EV.z_turn ?_))
local macro_rules | `(tactic| walk_at "zz") => `(tactic| repeat walk_at "z")
namespace EV
open PySem PySem.Spec PyProof.Rows L2
/-- the draws' state is made -/
def spBegun (K : PySem.W.Frag) : Sp := fun vs H Q _ => ∃ (s : Addr) (ns : List Int), vs = [.ref s] ∧ SqL K H s (ns.map V.int) ∧ ns.length ≤ 1000 ∧ ∀ (a g : Addr) F' H', Sub F' H' → Sta F' H' a g 0 → Q (.ref a) H'
section
variable {P : Program} {w : World} {K : PySem.W.Frag} {mg : Str → Option Value} {base : Heap}
theorem ok_begun (T : Txt mg) {f fd} (D : C8.Def K mg "_law_begun" s_begun f fd) (b : Binds K fd ["script"] []) : C8.Cal P w K mg base 1 "_law_begun" (spBegun K) [] := by
  refine C8.cal0 D b .nil sc_begun (fun vs H Q E h => ?_) (fun cdv A outer s H vs Q E hr h => ?_)
  · obtain ⟨s, ns, rfl, _⟩ := h
    rfl
  · obtain ⟨s, ns, rfl, hs, hn, k⟩ := h
    have hu := hu_of hr
    refine ⟨_, (pss_cons (ps_setLc (i := 2) (own := [("cell", 1)]) rfl sc_begun.nd rfl rfl (sw_true rfl rfl rfl (by decide +kernel)) (k_pil K (pv 0)) (blkOk_by (N := N_begun) (sc := defScope s_begun) (by decide +kernel)) (fun _ _ _ _ _ => (pg_name (i := 1) sc_begun.nd rfl (Or.inl rfl))) (fun _ _ _ _ _ => (pts_one (pt_cmpR op_ge (pv 1) (pe_op op_pow pe_int pe_int) (nomark _)))) (fun _ _ _ _ _ => (pe_op op_sub (pv 1) (pe_op op_pow pe_int pe_int))))
  (pss_one (ps_ret (pe_disp (pps_cons pe_str (pv 2) (pps_cons pe_str (pe_callTy (k_listOf K) rfl T.b_list (by decide +kernel) (pa_cons (pv 0) pa_nil)) (pps_cons pe_str pe_int (pps_cons pe_str pe_int pps_nil)))) rfl rfl (by simp) (by decide))))), ?_⟩
    walk_at "zz"
    refine ⟨s, rfl, ⟨_, hs⟩, fun g hg => ?_⟩
    have keep : Same H (upd H g (.lst [])) := fun b o e => upd_keep e hg
    refine lc_it (walk_list (xs := ns.map V.int)) (fun i H' => Same H H' ∧ ∃ gs : List Int, H' g = some (.lst (gs.map V.int)) ∧ gs.length ≤ i) ⟨keep, [], upd_same, Nat.le_refl _⟩ (fun i H' _ h => h.1.seq hs) ?_ ?_
    · rintro i x H1 H2 hi ⟨s1, gs, h1, l1⟩ ⟨rfl, hx⟩
      rw [List.length_map] at hi
      obtain ⟨n, hn, rfl⟩ := at_int hx
      walk_at "zz"
      refine z_ite (fun _ => ?_) (fun _ => ⟨s1, gs, h1, by omega⟩)
      walk_at "zz"
      exact ⟨_, h1, szl (by rw [List.length_map]; omega), fun b o e => by rw [upd_ne (ne_of_none e hg)]; exact s1 b o e, gs ++ [n - 10 ^ (18 : Int).toNat], by rw [upd_same]; simp, by simp; omega⟩
    · rintro H1 ⟨s1, gs, h1, l1⟩
      walk_at "zz"
      intro a ha
      have ga : g ≠ a := ne_of_none h1 ha
      walk_at "zz"
      refine z_list (ys := ns.map V.int) (.inl ?_) fun c hc => ?_
      · exact Same.seq (fun b o e => upd_keep (s1 b o e) ha) hs
      have ca : a ≠ c := ne_of_none upd_same hc
      have cg : g ≠ c := ne_of_none (show (upd H1 a (.dK [])) g = some _ by rw [upd_ne ga]; exact h1) hc
      walk_at "zz"
      refine ⟨by rw [upd_ne ca]; exact upd_same, [(key "great", .ref g), (key "cells", .ref c), (key "rest", .int 0), (key "turn", .int 0)], rfl, (by show 4 ≤ 15; decide), ?_⟩
      walk_at "zz"
      refine k a g (upd (fun _ => none) c (.lst (ns.map V.int))) _ ?_ ⟨c, 0, 0, gs, ns, ⟨upd_same, ?_, upd_same, by rw [upd_ne ca], by rw [upd_ne cg]⟩, by omega, by omega⟩
      · intro b o e
        by_cases z : b = c
        · subst z; rw [upd_same] at e; cases e
          rw [upd_ne ca.symm, upd_same]
        · rw [upd_ne z] at e; cases e
      · rw [upd_ne ga, upd_ne cg, upd_ne ga]; exact h1
end
end EV
end

section
set_option maxHeartbeats 4000000
local macro_rules | `(tactic| walk_at "za") => `(tactic| (first | exact Or.inl ⟨by omega, by omega⟩ | exact Or.inr ⟨by omega, by omega⟩ | exact ⟨by omega, by omega⟩ | exact ⟨by omega, by omega, by omega⟩ | omega))
local macro_rules | `(tactic| walk_at "z") => `(tactic| (first
  | with_reducible refine EV.z_seq ?_ | with_reducible refine EV.z_next ?_ | with_reducible refine EV.z_nx ?_ | with_reducible refine EV.z_rt ?_ | with_reducible refine EV.z_asg ?_ | with_reducible refine EV.z_name ?_
  | with_reducible refine EV.z_drop ?_ | with_reducible refine EV.z_ret ?_ | with_reducible refine EV.z_if ?_
  | ((with_reducible refine EV.z_var (v := ?vv) ?hv ?_); (case hv => exact rfl)) | with_reducible refine EV.z_c ?_ | with_reducible refine EV.z_op ?_ | with_reducible refine EV.z_un ?_ | with_reducible refine EV.z_I0 ?_ | with_reducible refine EV.z_U ?_ | ((with_reducible refine EV.z_I ?hc ?_); (case hc => walk_at "za"))
  | ((with_reducible refine EV.z_eq ?hv ?_); (case hv => exact rfl)) | ((with_reducible refine EV.z_ne ?hv ?_); (case hv => exact rfl))
  | with_reducible refine EV.z_test ?_ | with_reducible refine EV.z_bl ?_ | with_reducible refine EV.z_B ?_ | with_reducible refine EV.z_and ?_ | with_reducible refine EV.z_or ?_ | with_reducible refine EV.z_not ?_ | with_reducible refine EV.z_andV ?_
  | with_reducible refine EV.z_orV ?_ | with_reducible refine EV.z_notV ?_ | with_reducible refine EV.z_ifE ?_ | with_reducible refine EV.z_nil ?_ | with_reducible refine EV.z_cons ?_ | with_reducible refine EV.z_tup ?_ | with_reducible refine EV.z_lst ?_
  | with_reducible refine EV.z_cb ?_ | with_reducible refine EV.z_call ?_ | with_reducible refine EV.z_dget ?_ | with_reducible refine EV.z_dput ?_ | with_reducible refine EV.z_chain ?_ | with_reducible refine EV.z_then ?_ | with_reducible refine EV.z_fld ?_ | with_reducible refine EV.z_bm ?_
  | with_reducible refine EV.z_par ?_ | with_reducible refine EV.z_par3 ?_ | with_reducible refine EV.z_ex2 ?_ | with_reducible refine EV.z_ex3 ?_ | with_reducible refine EV.z_tyes ?_ | ((with_reducible refine EV.z_wipe ?hv ?_); (case hv => exact rfl))
  | with_reducible refine EV.z_lc ?_ | with_reducible refine EV.z_ltS ?_ | with_reducible refine EV.z_disp ?_ | with_reducible refine EV.z_pc ?_ | with_reducible refine EV.z_pn ?_ | with_reducible refine EV.z_m1 ?_ | with_reducible refine EV.z_isS ?_ | with_reducible refine EV.z_sl ?_ | with_reducible refine EV.z_np ?_ | with_reducible refine EV.z_pt ?_ | with_reducible refine EV.z_exI ?_ | with_reducible refine EV.z_is ?_ | with_reducible refine EV.z_istr ?_ | with_reducible refine EV.z_no ?_ | with_reducible refine EV.z_yes ?_ | with_reducible refine EV.z_for ?_ | with_reducible refine EV.z_il ?_ | with_reducible refine EV.z_it ?_ | with_reducible refine EV.z_r1 ?_ | with_reducible refine EV.z_ik ?_ | with_reducible refine EV.z_din ?_ | with_reducible refine EV.z_dnin ?_ | with_reducible refine EV.z_dsd ?_ | with_reducible refine EV.z_gs ?_ | with_reducible refine EV.z_gc ?_ | with_reducible refine EV.z_gn ?_ | with_reducible refine EV.z_turn ?_))
local macro_rules | `(tactic| walk_at "zz") => `(tactic| repeat walk_at "z")
local macro_rules | `(tactic| walk_at "z") => `(tactic| (first | with_reducible refine EV.z_mt ?_ | with_reducible refine EV.z_cS ?_ | with_reducible refine EV.z_mkO ?_ | with_reducible refine EV.z_mkK ?_))
/-! ### the law -/
namespace EV
open PySem PySem.Spec PyProof.Rows L2
def spLaw (K : PySem.W.Frag) : Sp := fun vs H Q _ => ∃ (a : Addr) (ns : List Int), vs = [.ref a] ∧ SqL K H a (ns.map V.int) ∧ ns.length ≤ 63 ∧ ∀ H', Q (.bl true) H'
abbrev s_law : Stmt := top 48
abbrev N_law : List Str := ["script", "state", "turn", "world", "other"]
abbrev P_law : List Str := ["script"]
theorem sc_law : FnScope N_law P_law (defScope s_law) := ⟨rfl, rfl, rfl, by decide +kernel, rfl, by decide +kernel, by decide +kernel⟩
section
variable {P : Program} {w : World} {K : PySem.W.Frag} {mg : Str → Option Value} {base : Heap} {C : Addr}
theorem ok_law (T : Txt mg) (c_begun : C8.Cal P w K mg base 1 "_law_begun" (spBegun K) []) (c_take : C8.Cal P w K mg base 2 "_law_take" spTake []) (c_ready : C8.Cal P w K mg base 6 "_law_ready" spReady []) (c_world : C8.Cal P w K mg base 5 "_law_world" spWorld []) (c_otherwise : C8.Cal P w K mg base 4 "_law_otherwise" spOther [])
    (c_right : CalG P w K mg base 7 "_law_right" spRight) (c_made : C8.Cal P w K mg base 6 "_law_made" (spMade C) []) (c_group_text : C8.Cal P w K mg base 2 "group_text" (spGText C) []) (c_row : C8.Cal P w K mg base 4 "_law_row" spRow []) (c_full : C8.Cal P w K mg base 1 "_law_full" spFull [])
    {f fd} (D : C8.Def K mg "law" s_law f fd) : FnG P w K mg base 8 f fd P_law (spLaw K) := by
  refine fnG_of D.fn sc_law (fun vs H Q E h => ?_) (fun cdv A outer s H vs Q E hG hr h => ?_)
  · obtain ⟨a, ns, rfl, _⟩ := h
    rfl
  · obtain ⟨sc, ns, rfl, hs, h63, k⟩ := h
    have hu := hu_of hr
    have hu65 := hu65_of hr
    refine ⟨_, (pss_cons (ps_set (i := 1) sc_law.nd rfl (Or.inl rfl) (C8.pe_c c_begun hr (by decide) rfl (pa_cons (pv 0) pa_nil)))
  (pss_cons (ps_for PassesOwn.never rfl (pi_range1 rfl T.b_range (pa_cons pe_int pa_nil)) (pg_name (i := 2) sc_law.nd rfl (Or.inl rfl))
    (C8.pss_cut (ps_set (i := 3) sc_law.nd rfl (Or.inl rfl) (pe_ifExp (pt_cmpR op_eq (C8.pe_c c_take hr (by decide) rfl (pa_cons (pv 1) (pa_cons pe_int pa_nil))) pe_int (nomark _)) (C8.pe_c c_ready hr (by decide) rfl (pa_cons (pv 1) (pa_cons pe_int pa_nil))) (C8.pe_c c_world hr (by decide) rfl (pa_cons (pv 1) (pa_cons pe_int pa_nil)))))
  (pss_cons (ps_set (i := 4) sc_law.nd rfl (Or.inl rfl) (C8.pe_c c_otherwise hr (by decide) rfl (pa_cons (pv 1) (pa_cons (pv 3) pa_nil))))
  (C8.pss_cut (ps_if (PW.pt (pw_or (pt_not (pt_val (pe_g c_right hG hr (by decide) rfl (pa_cons (pv 3) pa_nil)))) (pw_or1 (pt_not (pt_val (pe_g c_right hG hr (by decide) rfl (pa_cons (pv 4) pa_nil)))))))
    (pss_one (ps_ret pe_bl))
    pss_nil)
  (pss_cons (ps_if (pt_cmpR op_eq (C8.pe_c c_group_text hr (by decide) rfl (pa_cons (C8.pe_c c_made hr (by decide) rfl (pa_cons (pv 4) pa_nil)) pa_nil)) (C8.pe_c c_group_text hr (by decide) rfl (pa_cons (C8.pe_c c_made hr (by decide) rfl (pa_cons (pv 3) pa_nil)) pa_nil)) (nomark _))
    (pss_one (ps_ret pe_bl))
    pss_nil)
  (pss_one (ps_if (pt_not (pt_val (pe_g c_right hG hr (by decide) rfl (pa_cons (pe_ix (k_ixL K) (C8.pe_c c_row hr (by decide) rfl (pa_cons (pv 1) (pa_cons (pv 3) (pa_cons (pe_op op_add pe_int (C8.pe_c c_take hr (by decide) rfl (pa_cons (pv 1) (pa_cons pe_int pa_nil)))) pa_nil)))) pe_int (fun _ _ => rfl)) pa_nil))))
    (pss_one (ps_ret pe_bl))
    pss_nil)))))))
  (pss_one (ps_ret (pe_g c_right hG hr (by decide) rfl (pa_cons (pe_c0 c_full hr (by decide) rfl) pa_nil)))))), ?_⟩
    walk_at "zz"
    refine ⟨sc, ns, rfl, hs, by omega, fun a g F0 H1 sF S => ?_⟩
    have Z := Cz.start sF S
    walk_at "zz"
    refine ⟨3, rfl, by decide, by decide, for_it (D := Ends.mk _ _ _ _) walk_range (fun i σ' H' => ∃ (F' : Hp) (v2 v3 v4 : Option V), σ' = [some (.ref sc), some (.ref a), v2, v3, v4] ∧ Cz a g F0 H1 F' H' (2000 * i)) ⟨F0, none, none, none, rfl, Z.mono (by omega)⟩ (fun _ _ _ _ _ => trivial) ?_ ?_⟩
    · rintro i v σ' H2 H2' hi ⟨F2, v2, v3, v4, rfl, Z2⟩ ⟨rfl, rfl⟩
      have hi : i < 3 := hi
      walk_at "zz"
      refine z_cut (fun σ' H' => ∃ (wa hd lv br : Addr) (L : Hld) (W : Lvs) (bs : Bars) (F' : Hp), σ' = [some (.ref sc), some (.ref a), some (.int (0 + (i : Int))), some (.ref wa), v4] ∧ Cz a g F0 H1 F' H' (2000 * i + 1200) ∧ Wd F' wa hd lv br L W bs ∧ WD L W bs ∧ (bs.map (·.2)).Nodup) ?_ ?_
      · walk_at "zz"
        refine z_take Z2 (by omega) (by omega) (by omega) fun way H5 w0 w1 Z5 _ => ?_
        walk_at "zz"
        refine z_ite (fun _ => ?_) (fun _ => ?_)
        · walk_at "zz"
          refine ⟨F2, a, g, 6, _, rfl, by decide, by decide, Z5.sub, Z5.S, by omega, fun wa hd lv br L W bs F6 H6 N6 S6 d D bn => ?_⟩
          walk_at "zz"
          exact ⟨wa, hd, lv, br, L, W, bs, F6, rfl, (Z5.step N6 S6).mono (by omega), d, D, bn⟩
        · walk_at "zz"
          refine ⟨F2, a, g, 6, _, rfl, by decide, by decide, Z5.sub, Z5.S, by omega, fun wa hd lv br L W bs F6 H6 N6 S6 d D bn => ?_⟩
          walk_at "zz"
          exact ⟨wa, hd, lv, br, L, W, bs, F6, rfl, (Z5.step N6 S6).mono (by omega), d, D, bn⟩
      rintro σ' H3 ⟨wa, hd, lv, br, L, W, bs, F3, rfl, Z3, d, D, bn⟩
      clear Z2
      walk_at "zz"
      refine ⟨F3, a, g, wa, hd, lv, br, L, W, bs, _, rfl, Z3.sub, Z3.S, by omega, d, D, bn, fun wa2 hd2 lv2 br2 L2 W2 bs2 F4 H4 N4 S4 d2 D2 bn2 df => ?_⟩
      have Z4 := Z3.step N4 S4
      have d4 := d.sub N4.mono
      walk_at "zz"
      refine z_cut (fun σ' H' => σ' = [some (.ref sc), some (.ref a), some (.int (0 + (i : Int))), some (.ref wa), some (.ref wa2)] ∧ Cz a g F0 H1 F4 H' (2000 * i + 1210)) ?_ ?_
      · walk_at "zz"
        refine ⟨F4, wa, hd, lv, br, L, W, bs, rfl, Z4.sub, d4, D, bn, fun H5 N5 => ?_⟩
        have Z5 := Z4.pure N5
        refine ⟨true, rfl, ?_⟩
        rw [if_neg (by decide)]
        walk_at "zz"
        refine ⟨F4, wa2, hd2, lv2, br2, L2, W2, bs2, rfl, Z5.sub, d2, D2, bn2, fun H6 N6 => ?_⟩
        have Z6 := Z5.pure N6
        refine ⟨true, rfl, ?_⟩
        rw [if_neg (by decide)]
        walk_at "zz"
        exact ⟨rfl, Z6.mono (by omega)⟩
      clear Z4
      rintro σ' H5 ⟨rfl, Z5⟩
      walk_at "zz"
      refine ⟨F4, wa2, hd2, lv2, br2, L2, W2, bs2, rfl, Z5.sub, d2, D2, fun g2 M2 V2 cs2 F6 H6 N6 gr2 co2 => ?_⟩
      have Z6 := Z5.pure N6
      walk_at "zz"
      refine ⟨F6, g2, M2, V2, cs2, rfl, Z6.sub, gr2, fun H7 N7 => ?_⟩
      have Z7 := Z6.pure N7
      have d7 := d4.sub N6.mono
      walk_at "zz"
      refine ⟨F6, wa, hd, lv, br, L, W, bs, rfl, Z7.sub, d7, D, fun g1 M1 V1 cs1 F8 H8 N8 gr1 co1 => ?_⟩
      have Z8 := Z7.pure N8
      walk_at "zz"
      refine ⟨F8, g1, M1, V1, cs1, rfl, Z8.sub, gr1, fun H9 N9 => ?_⟩
      have Z9 := Z8.pure N9
      walk_at "zz"
      refine z_ite (fun e => absurd (V.str.inj e) (diff_text D D2 gr1.d co1 gr2.d co2 df)) (fun _ => ?_)
      have d9 := d7.sub N8.mono
      clear Z5 Z6 Z7 Z8
      walk_at "zz"
      refine z_take Z9 (by omega) (by omega) (by omega) fun r H10 r0 r1 Z10 _ => ?_
      walk_at "zz"
      rw [show (1 : Int) + r = ((1 + r.toNat : Nat) : Int) by omega]
      refine ⟨F8, a, g, wa, hd, lv, br, L, W, bs, _, 1 + r.toNat, rfl, Z10.sub, Z10.S, by omega, d9, D, fun rr c wa' ks kk F11 H11 N11 S11 hr11 _ _ _ _ _ _ hd' L' d11 D11 _ _ => ?_⟩
      have Z11 := Z10.step N11 S11
      walk_at "zz"
      refine z_ixL (i := 1) (Z11.sub.sql hr11) (atI_nat (j := 1) rfl) ?_
      walk_at "zz"
      refine ⟨F11, wa', hd', lv, br, L', W, bs, rfl, Z11.sub, d11, D11, bn, fun H12 N12 => ?_⟩
      have Z12 := Z11.pure N12
      refine ⟨true, rfl, ?_⟩
      rw [if_neg (by decide)]
      walk_at "zz"
      exact ⟨F11, _, _, _, rfl, Z12.mono (by omega)⟩
    · rintro σ' H2 ⟨F2, v2, v3, v4, rfl, Z2⟩
      walk_at "zz"
      refine ⟨F2, rfl, Z2.sub, fun wa hd lv br L W bs F3 H3 N3 d D bn => ?_⟩
      have Z3 := Z2.pure N3
      walk_at "zz"
      refine ⟨F3, wa, hd, lv, br, L, W, bs, rfl, Z3.sub, d, D, bn, fun H4 N4 => ?_⟩
      exact k H4
end
end EV
end

section
set_option maxHeartbeats 8000000
/-! ### the head: what the top leaves -/
namespace EV
open PySem PySem.Spec PyProof.Rows L2
theorem fun_of {K : PySem.W.Frag} {x q : Str} {st : Stmt} {f : Addr} {fd : FuncData} {dvs : List V} {kws : List (Str × V)} (F : FunD K x q (C8.fnArgs st) (C8.fnBody st) (C8.fnScope st) dvs kws f fd) : C8.Fun K x q st f fd :=
  ⟨let ⟨oc, od, dV, kV, doc, pm, an, cdv, ct, osl, e, lk, hc, _, _⟩ := F.ex; ⟨oc, od, dV, kV, doc, pm, an, cdv, ct, osl, e, lk, hc⟩⟩
theorem def_of {K : PySem.W.Frag} {mg : Str → Option Value} {x : Str} {st : Stmt} {f : Addr} {fd : FuncData} {dvs : List V} {kws : List (Str × V)} (F : FunD K x x (C8.fnArgs st) (C8.fnBody st) (C8.fnScope st) dvs kws f fd) (hm : mg x = some (.ref f)) : C8.Def K mg x st f fd := ⟨fun_of F, hm, F.kp⟩
def clsB (K : PySem.W.Frag) (C : Addr) : Bool := match K.lookup C with
  | some ⟨.type "type", _, .cls cd, sl⟩ => (match cd.mro, sl.toList with
    | .ref C' :: bm, [_, _, _, _, some (.builtin n), _] => C' == C && (n == "ValueError.__new__" && (!cd.hasDel && (cd.hasDict && PySem.HandSPX.refsVE bm)))
    | _, _ => false)
  | _ => false
theorem clsB_ok {K : PySem.W.Frag} {C : Addr} (h : clsB K C = true) : ∃ nm q N bs bm sn sub ab col dd k0 k1 k2 k3 k5, K.lookup C = some (excClassObj nm q C N bs bm true sn sub ab col dd k0 k1 k2 k3 k5 "ValueError.__new__") ∧ PySem.HandSPX.refsVE bm = true := by
  unfold clsB at h
  split at h
  · rename_i dd cd sl hl
    split at h
    · rename_i C2 tl s0 s1 s2 s3 nid s5 e1 e2
      simp only [Bool.and_eq_true, beq_iff_eq, Bool.not_eq_true'] at h
      obtain ⟨rfl, rfl, d1, d2, d3⟩ := h
      obtain ⟨nm, bs, mro, ns, qn, hd, sn, sub, ab, col, del⟩ := cd
      dsimp only at e1 d1 d2
      subst e1 d1 d2
      obtain ⟨l⟩ := sl
      have e3 : l = [s0, s1, s2, s3, some (.builtin "ValueError.__new__"), s5] := e2
      subst e3
      exact ⟨nm, qn, ns, bs, tl, sn, sub, ab, col, dd, s0, s1, s2, s3, s5, hl, d3⟩
    · cases h
  · cases h
def ownB (K : PySem.W.Frag) (x : Str) : Bool := clsB K (He.ga K x) && (He.eqO (PySem.W.findIn K (.ref (He.ga K x)) "__setattr__") (some (some (.builtin "object.__setattr__"))) && (decide (PySem.W.subIn K (.ref (He.ga K x)) (.type "BaseException") = some true) && (decide (PySem.W.typeIn K (.ref (He.ga K x)) = some (.type "type")) &&
  (PySem.W.keepIn K (.ref (He.ga K x)) && (He.eqO (PySem.W.findIn K (.ref (He.ga K x)) "__init__") (some (some (.ref (He.ma K (He.ga K x) "__init__")))) && decide (PySem.W.typeIn K (.ref (He.ma K (He.ga K x) "__init__")) = some (.type "function")))))))
def gisB (K : PySem.W.Frag) : Bool := He.eqO (PySem.W.findIn K (.ref (He.ga K "Group")) "__class__") (some (some (.builtin "object.__class__"))) && (He.eqO (PySem.W.specialIn K (.builtin "object.__class__") "__get__") (some (some (.builtin "getset_descriptor.__get__"))) &&
  (decide (PySem.W.takesIn K (.builtin "object.__class__") = some true) && decide (PySem.W.mroIn K (He.ga K "Group") (.type "object") = some true)))
def exF (K : PySem.W.Frag) : Bool := gisB K
theorem gis_ok {K : PySem.W.Frag} (c : exF K = true) : GIs K (He.ga K "Group") := by
  obtain ⟨h1, h2⟩ := He.ba c
  obtain ⟨h3, h4⟩ := He.ba h2
  obtain ⟨h5, h6⟩ := He.ba h4
  exact ⟨He.eqO_ok h1, He.eqO_ok h3, of_decide_eq_true h5, of_decide_eq_true h6⟩
theorem xcls_ok {K : PySem.W.Frag} {mg : Str → Option Value} {x : Str} {C : Addr} (g : mg x = some (.ref C)) (c : PySem.W.excIn K C He.veBase "ValueError.__new__" = true ∧ PySem.W.keepIn K (.ref C) = true ∧ PySem.W.subIn K (.ref C) (.type "BaseException") = some true ∧ PySem.W.typeIn K (.ref C) = some (.type "type")) : XCls K mg x C :=
  ⟨g, c.1, c.2.1, c.2.2.1, c.2.2.2⟩
theorem kb_init {K : PySem.W.Frag} {f : Addr} {fd : FuncData} (F : FunD K "__init__" "Group.__init__" (C8.fnArgs s_Group___init__) (C8.fnBody s_Group___init__) (C8.fnScope s_Group___init__) [] [] f fd) : KBn K fd P_Group___init__ 2 ["leaves", "barred"] (fun us ws => us ++ ws) (fun vs zs => vs ++ zs) := by
  obtain ⟨oc, od, dV, kV, doc, pm, an, cdv, ct, osl, rfl, lk, hc, hD, _⟩ := F.ex
  rcases hD with ⟨_, rfl⟩ | ⟨z, _⟩
  · refine ⟨fun s us ws X l1 l2 => ?_, fun r1 r2 => r1.append r2⟩
    match us, ws, l1, l2 with
    | [_, _], [_, _], _, _ => exact BindsTo.of_eq rfl
  · exact absurd rfl z
theorem kb_text {K : PySem.W.Frag} {f : Addr} {fd : FuncData} (F : FunD K "group_text" "group_text" (C8.fnArgs s_group_text) (C8.fnBody s_group_text) (C8.fnScope s_group_text) [] [] f fd) : KBn K fd P_group_text 0 ksT (fun _ ws => pmT ws) (fun _ zs => pmT zs) := by
  obtain ⟨oc, od, dV, kV, doc, pm, an, cdv, ct, osl, rfl, lk, hc, hD, _⟩ := F.ex
  rcases hD with ⟨_, rfl⟩ | ⟨z, _⟩
  · refine ⟨fun s us ws X l1 l2 => ?_, fun r1 r2 => r2⟩
    match us, ws, l1, l2 with
    | [], [_], _, _ => exact BindsTo.of_eq rfl
  · exact absurd rfl z
/-! the Hook: facts, defs, one Bool more -/
abbrev AlE : Type := He.AlD × Bool
def obsEG (n : Nat) (fa : List He.Fa) (fn : List He.DefD) (ex : PySem.W.Frag → Bool) (g : Addr → Option Obj) : AlE := (He.obsDG n fa fn g, ex (He.frG g (He.asD g n)))
def hookE (n : Nat) (fa : List He.Fa) (fn : List He.DefD) (ex : PySem.W.Frag → Bool) : PySem.W.Hook where
  α := AlE
  obs := fun s => obsEG n fa fn ex s.heap.get?
  val := fun _ => (He.valD fn, true)
  says := fun _ h => ∃ K : PySem.W.Frag, K.In h ∧ He.SaysD fa fn K ∧ ex K = true
  of := fun _ _ e => ⟨_, He.frG_in, congrArg (fun z : AlE => z.1) e, congrArg (fun z : AlE => z.2) e⟩
  keeps := fun _ _ _ ⟨K, hK, c⟩ k => ⟨K, PySem.W.Frag.In.keeps hK k, c⟩
theorem obsEG_eq {n : Nat} {fa : List He.Fa} {fn : List He.DefD} {ex : PySem.W.Frag → Bool} {g : Addr → Option Obj} {s : Shared} (h : ∀ a, g a = s.heap.get? a) : obsEG n fa fn ex g = (hookE n fa fn ex).obs s := by
  have e : g = s.heap.get? := funext h
  rw [e] <;> rfl
def d_mixed : He.DefD := ⟨("_law_mixed", none), "_law_mixed", "_law_mixed", C8.fnArgs s_mixed, C8.fnBody s_mixed, C8.fnScope s_mixed, [], []⟩
def d_take : He.DefD := ⟨("_law_take", none), "_law_take", "_law_take", C8.fnArgs s_take, C8.fnBody s_take, C8.fnScope s_take, [], []⟩
def d_pick : He.DefD := ⟨("_law_pick", none), "_law_pick", "_law_pick", C8.fnArgs s_pick, C8.fnBody s_pick, C8.fnScope s_pick, [], []⟩
def d_names : He.DefD := ⟨("_law_names", none), "_law_names", "_law_names", C8.fnArgs s_names, C8.fnBody s_names, C8.fnScope s_names, [], []⟩
def d_begun : He.DefD := ⟨("_law_begun", none), "_law_begun", "_law_begun", C8.fnArgs s_begun, C8.fnBody s_begun, C8.fnScope s_begun, [], []⟩
def d_weight : He.DefD := ⟨("_law_weight", none), "_law_weight", "_law_weight", C8.fnArgs s_weight, C8.fnBody s_weight, C8.fnScope s_weight, [], []⟩
def d_fences : He.DefD := ⟨("_law_fences", none), "_law_fences", "_law_fences", C8.fnArgs s_fences, C8.fnBody s_fences, C8.fnScope s_fences, [], []⟩
def d_held : He.DefD := ⟨("_law_held", none), "_law_held", "_law_held", C8.fnArgs s_held, C8.fnBody s_held, C8.fnScope s_held, [], []⟩
def d_levelled : He.DefD := ⟨("_law_levelled", none), "_law_levelled", "_law_levelled", C8.fnArgs s_levelled, C8.fnBody s_levelled, C8.fnScope s_levelled, [], []⟩
def d_world : He.DefD := ⟨("_law_world", none), "_law_world", "_law_world", C8.fnArgs s_world, C8.fnBody s_world, C8.fnScope s_world, [], []⟩
def d_ready : He.DefD := ⟨("_law_ready", none), "_law_ready", "_law_ready", C8.fnArgs s_ready, C8.fnBody s_ready, C8.fnScope s_ready, [], []⟩
def d_even : He.DefD := ⟨("_law_even", none), "_law_even", "_law_even", C8.fnArgs s_even, C8.fnBody s_even, C8.fnScope s_even, [], []⟩
def d_met : He.DefD := ⟨("_law_met", none), "_law_met", "_law_met", C8.fnArgs s_met, C8.fnBody s_met, C8.fnScope s_met, [], []⟩
def d_open : He.DefD := ⟨("_law_open", none), "_law_open", "_law_open", C8.fnArgs s_open, C8.fnBody s_open, C8.fnScope s_open, [], []⟩
def d_row : He.DefD := ⟨("_law_row", none), "_law_row", "_law_row", C8.fnArgs s_row, C8.fnBody s_row, C8.fnScope s_row, [], []⟩
def d_is_name : He.DefD := ⟨("is_name", none), "is_name", "is_name", C8.fnArgs s_is_name, C8.fnBody s_is_name, C8.fnScope s_is_name, [], []⟩
def d_is_list : He.DefD := ⟨("is_list", none), "is_list", "is_list", C8.fnArgs s_is_list, C8.fnBody s_is_list, C8.fnScope s_is_list, [], []⟩
def d_is_pair : He.DefD := ⟨("is_pair", none), "is_pair", "is_pair", C8.fnArgs s_is_pair, C8.fnBody s_is_pair, C8.fnScope s_is_pair, [], []⟩
def d_rising_pair : He.DefD := ⟨("rising_pair", none), "rising_pair", "rising_pair", C8.fnArgs s_rising_pair, C8.fnBody s_rising_pair, C8.fnScope s_rising_pair, [], []⟩
def d_is_number : He.DefD := ⟨("is_number", none), "is_number", "is_number", C8.fnArgs s_is_number, C8.fnBody s_is_number, C8.fnScope s_is_number, [], []⟩
def d_are_leaves : He.DefD := ⟨("are_leaves", none), "are_leaves", "are_leaves", C8.fnArgs s_are_leaves, C8.fnBody s_are_leaves, C8.fnScope s_are_leaves, [], []⟩
def d_are_pages : He.DefD := ⟨("_are_pages", none), "_are_pages", "_are_pages", C8.fnArgs s_are_pages, C8.fnBody s_are_pages, C8.fnScope s_are_pages, [], []⟩
def d_pages_in : He.DefD := ⟨("_pages_in", none), "_pages_in", "_pages_in", C8.fnArgs s_pages_in, C8.fnBody s_pages_in, C8.fnScope s_pages_in, [], []⟩
def d_clean_held : He.DefD := ⟨("_clean_held", none), "_clean_held", "_clean_held", C8.fnArgs s_clean_held, C8.fnBody s_clean_held, C8.fnScope s_clean_held, [], []⟩
def d_clean_leaves : He.DefD := ⟨("_clean_leaves", none), "_clean_leaves", "_clean_leaves", C8.fnArgs s_clean_leaves, C8.fnBody s_clean_leaves, C8.fnScope s_clean_leaves, [], []⟩
def d_clean_barred : He.DefD := ⟨("_clean_barred", none), "_clean_barred", "_clean_barred", C8.fnArgs s_clean_barred, C8.fnBody s_clean_barred, C8.fnScope s_clean_barred, [], []⟩
def d_Group___init__ : He.DefD := ⟨("Group", some "__init__"), "__init__", "Group.__init__", C8.fnArgs s_Group___init__, C8.fnBody s_Group___init__, C8.fnScope s_Group___init__, [], []⟩
def d_Group_people : He.DefD := ⟨("Group", some "people"), "people", "Group.people", C8.fnArgs s_Group_people, C8.fnBody s_Group_people, C8.fnScope s_Group_people, [], []⟩
def d_Group_pages : He.DefD := ⟨("Group", some "pages"), "pages", "Group.pages", C8.fnArgs s_Group_pages, C8.fnBody s_Group_pages, C8.fnScope s_Group_pages, [], []⟩
def d_Group_held : He.DefD := ⟨("Group", some "held"), "held", "Group.held", C8.fnArgs s_Group_held, C8.fnBody s_Group_held, C8.fnScope s_Group_held, [], []⟩
def d_Group_leaves : He.DefD := ⟨("Group", some "leaves"), "leaves", "Group.leaves", C8.fnArgs s_Group_leaves, C8.fnBody s_Group_leaves, C8.fnScope s_Group_leaves, [], []⟩
def d_Group_barred : He.DefD := ⟨("Group", some "barred"), "barred", "Group.barred", C8.fnArgs s_Group_barred, C8.fnBody s_Group_barred, C8.fnScope s_Group_barred, [], []⟩
def d_Group___eq__ : He.DefD := ⟨("Group", some "__eq__"), "__eq__", "Group.__eq__", C8.fnArgs s_Group___eq__, C8.fnBody s_Group___eq__, C8.fnScope s_Group___eq__, [], []⟩
def d_made : He.DefD := ⟨("_law_made", none), "_law_made", "_law_made", C8.fnArgs s_made, C8.fnBody s_made, C8.fnScope s_made, [], []⟩
def d_fresh : He.DefD := ⟨("_law_fresh", none), "_law_fresh", "_law_fresh", C8.fnArgs s_fresh, C8.fnBody s_fresh, C8.fnScope s_fresh, [], []⟩
def d_group_text : He.DefD := ⟨("group_text", none), "group_text", "group_text", C8.fnArgs s_group_text, C8.fnBody s_group_text, C8.fnScope s_group_text, [], []⟩
def d_text : He.DefD := ⟨("_law_text", none), "_law_text", "_law_text", C8.fnArgs s_text, C8.fnBody s_text, C8.fnScope s_text, [], []⟩
def d_right : He.DefD := ⟨("_law_right", none), "_law_right", "_law_right", C8.fnArgs s_right, C8.fnBody s_right, C8.fnScope s_right, [], []⟩
def d_otherwise : He.DefD := ⟨("_law_otherwise", none), "_law_otherwise", "_law_otherwise", C8.fnArgs s_otherwise, C8.fnBody s_otherwise, C8.fnScope s_otherwise, [], []⟩
def d_full : He.DefD := ⟨("_law_full", none), "_law_full", "_law_full", C8.fnArgs s_full, C8.fnBody s_full, C8.fnScope s_full, [], []⟩
def d_law : He.DefD := ⟨("law", none), "law", "law", C8.fnArgs s_law, C8.fnBody s_law, C8.fnScope s_law, [], []⟩
def fn0 : List He.DefD := [d_mixed, d_take, d_pick, d_names, d_begun, d_weight, d_fences, d_held, d_levelled, d_world, d_ready, d_even, d_met, d_open, d_row, d_is_name, d_is_list, d_is_pair, d_rising_pair, d_is_number]
def fn1 : List He.DefD := [d_are_leaves, d_are_pages, d_pages_in, d_clean_held, d_clean_leaves, d_clean_barred, d_Group___init__, d_Group_people, d_Group_pages, d_Group_held, d_Group_leaves, d_Group_barred, d_Group___eq__, d_made, d_fresh, d_group_text, d_text, d_right, d_otherwise, d_full]
def fn2 : List He.DefD := [d_law]
def fnA : List He.DefD := fn0 ++ fn1 ++ fn2
def fa0 : List He.Fa := [.free "len", .free "list", .free "range", .free "sum", .free "sorted", .free "int", .free "max", .free "min", .free "tuple", .free "set", .free "dict", .free "all", .free "repr", .free "str", .free "bool", .free "isinstance", .free "enumerate", .str "LETTERS" "abcdefghijklmnopqrstuvwxyz", .int "MOST_LETTERS" 6, .int "MOST_PEOPLE" 6]
def fa1 : List He.Fa := [.int "MOST_PAGES" 12, .int "MOST_LEAVES" 9, .glo "_law_mixed", .glo "_law_take", .glo "_law_pick", .glo "_law_names", .glo "_law_begun", .glo "_law_weight", .glo "_law_fences", .glo "_law_held", .glo "_law_levelled", .glo "_law_world", .glo "_law_ready", .glo "_law_even", .glo "_law_met", .glo "_law_open", .glo "_law_row", .glo "is_name", .glo "is_list", .glo "is_pair"]
def fa2 : List He.Fa := [.glo "rising_pair", .glo "is_number", .glo "are_leaves", .glo "_are_pages", .glo "_pages_in", .glo "_clean_held", .glo "_clean_leaves", .glo "_clean_barred", .glo "_law_made", .glo "_law_fresh", .glo "group_text", .glo "_law_text", .glo "_law_right", .glo "_law_otherwise", .glo "_law_full", .glo "law", .glo "Group", .cls "Group", .noat "Group" "_held", .noat "Group" "_leaves"]
def fa3 : List He.Fa := [.noat "Group" "_barred", .mkr "Group", .meth "Group" "people", .meth "Group" "pages", .meth "Group" "held", .meth "Group" "leaves", .meth "Group" "barred", .meth "Group" "__eq__"]
def faA : List He.Fa := fa0 ++ fa1 ++ fa2 ++ fa3
def nm0 : List PySem.Str := ["_wall", "HandError", "BadGroup", "NoPerson", "NoPage", "LETTERS", "MOST_LETTERS", "MOST_PEOPLE", "MOST_PAGES", "MOST_LEAVES", "is_name", "is_list", "is_pair", "is_number", "are_leaves", "rising_pair", "_are_pages", "_pages_in", "_clean_held", "_clean_leaves"]
def nm1 : List PySem.Str := ["_clean_barred", "Group", "group_text", "_law_begun", "_law_mixed", "_law_take", "_law_pick", "_law_names", "_law_held", "_law_weight", "_law_levelled", "_law_fences", "_law_world", "_law_even", "_law_met", "_law_open", "_law_row", "_law_ready", "_law_made", "_law_fresh"]
def nm2 : List PySem.Str := ["_law_otherwise", "_law_text", "_law_right", "_law_full"]
def nmA : List PySem.Str := nm0 ++ nm1 ++ nm2
abbrev Rw : PySem.W.OpenRow := PySem.W.OpenLaw.row PySem.Challenge.rw_evenhands_k42_texts_of_groups
abbrev hkE : PySem.W.Hook := hookE 5 faA fnA exF
def obE (s : PySem.W.SharedT) : AlE := obsEG 5 faA fnA exF (HandSHeadRun.getT s)
theorem obE_eq (s : PySem.W.SharedT) : obE s = hkE.obs s.abs := obsEG_eq (HandSHeadRun.getT_eq s)
set_option maxHeartbeats 0 in
theorem runE (w : World) : HandSHeadRun.RunEq Rw (PySem.W.view Rw.prog [48]) hkE obE 4000 nmA w := by
  intro os
  kernel_rfl
set_option maxHeartbeats 0 in
theorem facts {P : Program} {w : World} {K : PySem.W.Frag} {h : Heap} {mg : Str → Option Value} {f : Addr} (X : K.In h) (Gn : h.Ns mainGlobals mg) (hfa : mg ("law" : Str) = some (.ref f)) (c : He.SaysD faA fnA K) (cx : exF K = true) :
    ∃ fd : FuncData, (∀ (s : Shared) (v : Value), BindsTo s fd ⟨[v], []⟩ [("script", v)]) ∧ ∀ base : Heap, K.In base → base.Ns mainGlobals mg → FnG P w K mg base 8 f fd ["script"] (spLaw K) := by
  have e := hfa.symm.trans (He.glo_ok X Gn (c.fact 55 (f := .glo "law") rfl))
  cases e
  obtain ⟨fd_mixed, F_mixed⟩ := c.def_ 0 (d := d_mixed) rfl
  obtain ⟨fd_take, F_take⟩ := c.def_ 1 (d := d_take) rfl
  obtain ⟨fd_pick, F_pick⟩ := c.def_ 2 (d := d_pick) rfl
  obtain ⟨fd_names, F_names⟩ := c.def_ 3 (d := d_names) rfl
  obtain ⟨fd_begun, F_begun⟩ := c.def_ 4 (d := d_begun) rfl
  obtain ⟨fd_weight, F_weight⟩ := c.def_ 5 (d := d_weight) rfl
  obtain ⟨fd_fences, F_fences⟩ := c.def_ 6 (d := d_fences) rfl
  obtain ⟨fd_held, F_held⟩ := c.def_ 7 (d := d_held) rfl
  obtain ⟨fd_levelled, F_levelled⟩ := c.def_ 8 (d := d_levelled) rfl
  obtain ⟨fd_world, F_world⟩ := c.def_ 9 (d := d_world) rfl
  obtain ⟨fd_ready, F_ready⟩ := c.def_ 10 (d := d_ready) rfl
  obtain ⟨fd_even, F_even⟩ := c.def_ 11 (d := d_even) rfl
  obtain ⟨fd_met, F_met⟩ := c.def_ 12 (d := d_met) rfl
  obtain ⟨fd_open, F_open⟩ := c.def_ 13 (d := d_open) rfl
  obtain ⟨fd_row, F_row⟩ := c.def_ 14 (d := d_row) rfl
  obtain ⟨fd_is_name, F_is_name⟩ := c.def_ 15 (d := d_is_name) rfl
  obtain ⟨fd_is_list, F_is_list⟩ := c.def_ 16 (d := d_is_list) rfl
  obtain ⟨fd_is_pair, F_is_pair⟩ := c.def_ 17 (d := d_is_pair) rfl
  obtain ⟨fd_rising_pair, F_rising_pair⟩ := c.def_ 18 (d := d_rising_pair) rfl
  obtain ⟨fd_is_number, F_is_number⟩ := c.def_ 19 (d := d_is_number) rfl
  obtain ⟨fd_are_leaves, F_are_leaves⟩ := c.def_ 20 (d := d_are_leaves) rfl
  obtain ⟨fd_are_pages, F_are_pages⟩ := c.def_ 21 (d := d_are_pages) rfl
  obtain ⟨fd_pages_in, F_pages_in⟩ := c.def_ 22 (d := d_pages_in) rfl
  obtain ⟨fd_clean_held, F_clean_held⟩ := c.def_ 23 (d := d_clean_held) rfl
  obtain ⟨fd_clean_leaves, F_clean_leaves⟩ := c.def_ 24 (d := d_clean_leaves) rfl
  obtain ⟨fd_clean_barred, F_clean_barred⟩ := c.def_ 25 (d := d_clean_barred) rfl
  obtain ⟨fd_Group___init__, F_Group___init__⟩ := c.def_ 26 (d := d_Group___init__) rfl
  obtain ⟨fd_Group_people, F_Group_people⟩ := c.def_ 27 (d := d_Group_people) rfl
  obtain ⟨fd_Group_pages, F_Group_pages⟩ := c.def_ 28 (d := d_Group_pages) rfl
  obtain ⟨fd_Group_held, F_Group_held⟩ := c.def_ 29 (d := d_Group_held) rfl
  obtain ⟨fd_Group_leaves, F_Group_leaves⟩ := c.def_ 30 (d := d_Group_leaves) rfl
  obtain ⟨fd_Group_barred, F_Group_barred⟩ := c.def_ 31 (d := d_Group_barred) rfl
  obtain ⟨fd_Group___eq__, F_Group___eq__⟩ := c.def_ 32 (d := d_Group___eq__) rfl
  obtain ⟨fd_made, F_made⟩ := c.def_ 33 (d := d_made) rfl
  obtain ⟨fd_fresh, F_fresh⟩ := c.def_ 34 (d := d_fresh) rfl
  obtain ⟨fd_group_text, F_group_text⟩ := c.def_ 35 (d := d_group_text) rfl
  obtain ⟨fd_text, F_text⟩ := c.def_ 36 (d := d_text) rfl
  obtain ⟨fd_right, F_right⟩ := c.def_ 37 (d := d_right) rfl
  obtain ⟨fd_otherwise, F_otherwise⟩ := c.def_ 38 (d := d_otherwise) rfl
  obtain ⟨fd_full, F_full⟩ := c.def_ 39 (d := d_full) rfl
  obtain ⟨fd_law, F_law⟩ := c.def_ 40 (d := d_law) rfl
  have b_mixed := FunD.bindsN (ps := P_mixed) F_mixed fun _ _ _ _ _ _ us hl => match us, hl with | [_], _ => rfl
  have D_mixed : C8.Def K mg "_law_mixed" s_mixed _ fd_mixed := def_of F_mixed (He.glo_ok X Gn (c.fact 22 (f := .glo "_law_mixed") rfl))
  have b_take := FunD.bindsN (ps := P_take) F_take fun _ _ _ _ _ _ us hl => match us, hl with | [_, _], _ => rfl
  have D_take : C8.Def K mg "_law_take" s_take _ fd_take := def_of F_take (He.glo_ok X Gn (c.fact 23 (f := .glo "_law_take") rfl))
  have b_pick := FunD.bindsN (ps := P_pick) F_pick fun _ _ _ _ _ _ us hl => match us, hl with | [_, _], _ => rfl
  have D_pick : C8.Def K mg "_law_pick" s_pick _ fd_pick := def_of F_pick (He.glo_ok X Gn (c.fact 24 (f := .glo "_law_pick") rfl))
  have b_names := FunD.bindsN (ps := P_names) F_names fun _ _ _ _ _ _ us hl => match us, hl with | [_, _], _ => rfl
  have D_names : C8.Def K mg "_law_names" s_names _ fd_names := def_of F_names (He.glo_ok X Gn (c.fact 25 (f := .glo "_law_names") rfl))
  have b_begun := FunD.bindsN (ps := P_begun) F_begun fun _ _ _ _ _ _ us hl => match us, hl with | [_], _ => rfl
  have D_begun : C8.Def K mg "_law_begun" s_begun _ fd_begun := def_of F_begun (He.glo_ok X Gn (c.fact 26 (f := .glo "_law_begun") rfl))
  have b_weight := FunD.bindsN (ps := P_weight) F_weight fun _ _ _ _ _ _ us hl => match us, hl with | [_, _], _ => rfl
  have D_weight : C8.Def K mg "_law_weight" s_weight _ fd_weight := def_of F_weight (He.glo_ok X Gn (c.fact 27 (f := .glo "_law_weight") rfl))
  have b_fences := FunD.bindsN (ps := P_fences) F_fences fun _ _ _ _ _ _ us hl => match us, hl with | [_, _], _ => rfl
  have D_fences : C8.Def K mg "_law_fences" s_fences _ fd_fences := def_of F_fences (He.glo_ok X Gn (c.fact 28 (f := .glo "_law_fences") rfl))
  have b_held := FunD.bindsN (ps := P_held) F_held fun _ _ _ _ _ _ us hl => match us, hl with | [_, _, _], _ => rfl
  have D_held : C8.Def K mg "_law_held" s_held _ fd_held := def_of F_held (He.glo_ok X Gn (c.fact 29 (f := .glo "_law_held") rfl))
  have b_levelled := FunD.bindsN (ps := P_levelled) F_levelled fun _ _ _ _ _ _ us hl => match us, hl with | [_, _, _], _ => rfl
  have D_levelled : C8.Def K mg "_law_levelled" s_levelled _ fd_levelled := def_of F_levelled (He.glo_ok X Gn (c.fact 30 (f := .glo "_law_levelled") rfl))
  have b_world := FunD.bindsN (ps := P_world) F_world fun _ _ _ _ _ _ us hl => match us, hl with | [_, _], _ => rfl
  have D_world : C8.Def K mg "_law_world" s_world _ fd_world := def_of F_world (He.glo_ok X Gn (c.fact 31 (f := .glo "_law_world") rfl))
  have b_ready := FunD.bindsN (ps := P_ready) F_ready fun _ _ _ _ _ _ us hl => match us, hl with | [_, _], _ => rfl
  have D_ready : C8.Def K mg "_law_ready" s_ready _ fd_ready := def_of F_ready (He.glo_ok X Gn (c.fact 32 (f := .glo "_law_ready") rfl))
  have b_even := FunD.bindsN (ps := P_even) F_even fun _ _ _ _ _ _ us hl => match us, hl with | [_, _, _], _ => rfl
  have D_even : C8.Def K mg "_law_even" s_even _ fd_even := def_of F_even (He.glo_ok X Gn (c.fact 33 (f := .glo "_law_even") rfl))
  have b_met := FunD.bindsN (ps := P_met) F_met fun _ _ _ _ _ _ us hl => match us, hl with | [_, _, _], _ => rfl
  have D_met : C8.Def K mg "_law_met" s_met _ fd_met := def_of F_met (He.glo_ok X Gn (c.fact 34 (f := .glo "_law_met") rfl))
  have b_open := FunD.bindsN (ps := P_open) F_open fun _ _ _ _ _ _ us hl => match us, hl with | [_], _ => rfl
  have D_open : C8.Def K mg "_law_open" s_open _ fd_open := def_of F_open (He.glo_ok X Gn (c.fact 35 (f := .glo "_law_open") rfl))
  have b_row := FunD.bindsN (ps := P_row) F_row fun _ _ _ _ _ _ us hl => match us, hl with | [_, _, _], _ => rfl
  have D_row : C8.Def K mg "_law_row" s_row _ fd_row := def_of F_row (He.glo_ok X Gn (c.fact 36 (f := .glo "_law_row") rfl))
  have b_is_name := FunD.bindsN (ps := P_is_name) F_is_name fun _ _ _ _ _ _ us hl => match us, hl with | [_], _ => rfl
  have D_is_name : C8.Def K mg "is_name" s_is_name _ fd_is_name := def_of F_is_name (He.glo_ok X Gn (c.fact 37 (f := .glo "is_name") rfl))
  have b_is_list := FunD.bindsN (ps := P_is_list) F_is_list fun _ _ _ _ _ _ us hl => match us, hl with | [_], _ => rfl
  have D_is_list : C8.Def K mg "is_list" s_is_list _ fd_is_list := def_of F_is_list (He.glo_ok X Gn (c.fact 38 (f := .glo "is_list") rfl))
  have b_is_pair := FunD.bindsN (ps := P_is_pair) F_is_pair fun _ _ _ _ _ _ us hl => match us, hl with | [_], _ => rfl
  have D_is_pair : C8.Def K mg "is_pair" s_is_pair _ fd_is_pair := def_of F_is_pair (He.glo_ok X Gn (c.fact 39 (f := .glo "is_pair") rfl))
  have b_rising_pair := FunD.bindsN (ps := P_rising_pair) F_rising_pair fun _ _ _ _ _ _ us hl => match us, hl with | [_, _], _ => rfl
  have D_rising_pair : C8.Def K mg "rising_pair" s_rising_pair _ fd_rising_pair := def_of F_rising_pair (He.glo_ok X Gn (c.fact 40 (f := .glo "rising_pair") rfl))
  have b_is_number := FunD.bindsN (ps := P_is_number) F_is_number fun _ _ _ _ _ _ us hl => match us, hl with | [_, _, _], _ => rfl
  have D_is_number : C8.Def K mg "is_number" s_is_number _ fd_is_number := def_of F_is_number (He.glo_ok X Gn (c.fact 41 (f := .glo "is_number") rfl))
  have b_are_leaves := FunD.bindsN (ps := P_are_leaves) F_are_leaves fun _ _ _ _ _ _ us hl => match us, hl with | [_], _ => rfl
  have D_are_leaves : C8.Def K mg "are_leaves" s_are_leaves _ fd_are_leaves := def_of F_are_leaves (He.glo_ok X Gn (c.fact 42 (f := .glo "are_leaves") rfl))
  have b_are_pages := FunD.bindsN (ps := P_are_pages) F_are_pages fun _ _ _ _ _ _ us hl => match us, hl with | [_], _ => rfl
  have D_are_pages : C8.Def K mg "_are_pages" s_are_pages _ fd_are_pages := def_of F_are_pages (He.glo_ok X Gn (c.fact 43 (f := .glo "_are_pages") rfl))
  have b_pages_in := FunD.bindsN (ps := P_pages_in) F_pages_in fun _ _ _ _ _ _ us hl => match us, hl with | [_], _ => rfl
  have D_pages_in : C8.Def K mg "_pages_in" s_pages_in _ fd_pages_in := def_of F_pages_in (He.glo_ok X Gn (c.fact 44 (f := .glo "_pages_in") rfl))
  have b_clean_held := FunD.bindsN (ps := P_clean_held) F_clean_held fun _ _ _ _ _ _ us hl => match us, hl with | [_], _ => rfl
  have D_clean_held : C8.Def K mg "_clean_held" s_clean_held _ fd_clean_held := def_of F_clean_held (He.glo_ok X Gn (c.fact 45 (f := .glo "_clean_held") rfl))
  have b_clean_leaves := FunD.bindsN (ps := P_clean_leaves) F_clean_leaves fun _ _ _ _ _ _ us hl => match us, hl with | [_, _], _ => rfl
  have D_clean_leaves : C8.Def K mg "_clean_leaves" s_clean_leaves _ fd_clean_leaves := def_of F_clean_leaves (He.glo_ok X Gn (c.fact 46 (f := .glo "_clean_leaves") rfl))
  have b_clean_barred := FunD.bindsN (ps := P_clean_barred) F_clean_barred fun _ _ _ _ _ _ us hl => match us, hl with | [_, _], _ => rfl
  have D_clean_barred : C8.Def K mg "_clean_barred" s_clean_barred _ fd_clean_barred := def_of F_clean_barred (He.glo_ok X Gn (c.fact 47 (f := .glo "_clean_barred") rfl))
  have D_Group___init__ : C8.Fun K "__init__" "Group.__init__" s_Group___init__ _ fd_Group___init__ := fun_of F_Group___init__
  have b_Group_people := FunD.bindsN (ps := P_Group_people) F_Group_people fun _ _ _ _ _ _ us hl => match us, hl with | [_], _ => rfl
  have D_Group_people : C8.Fun K "people" "Group.people" s_Group_people _ fd_Group_people := fun_of F_Group_people
  have b_Group_pages := FunD.bindsN (ps := P_Group_pages) F_Group_pages fun _ _ _ _ _ _ us hl => match us, hl with | [_], _ => rfl
  have D_Group_pages : C8.Fun K "pages" "Group.pages" s_Group_pages _ fd_Group_pages := fun_of F_Group_pages
  have b_Group_held := FunD.bindsN (ps := P_Group_held) F_Group_held fun _ _ _ _ _ _ us hl => match us, hl with | [_, _], _ => rfl
  have D_Group_held : C8.Fun K "held" "Group.held" s_Group_held _ fd_Group_held := fun_of F_Group_held
  have b_Group_leaves := FunD.bindsN (ps := P_Group_leaves) F_Group_leaves fun _ _ _ _ _ _ us hl => match us, hl with | [_, _], _ => rfl
  have D_Group_leaves : C8.Fun K "leaves" "Group.leaves" s_Group_leaves _ fd_Group_leaves := fun_of F_Group_leaves
  have b_Group_barred := FunD.bindsN (ps := P_Group_barred) F_Group_barred fun _ _ _ _ _ _ us hl => match us, hl with | [_], _ => rfl
  have D_Group_barred : C8.Fun K "barred" "Group.barred" s_Group_barred _ fd_Group_barred := fun_of F_Group_barred
  have b_Group___eq__ := FunD.bindsN (ps := P_Group___eq__) F_Group___eq__ fun _ _ _ _ _ _ us hl => match us, hl with | [_, _], _ => rfl
  have D_Group___eq__ : C8.Fun K "__eq__" "Group.__eq__" s_Group___eq__ _ fd_Group___eq__ := fun_of F_Group___eq__
  have b_made := FunD.bindsN (ps := P_made) F_made fun _ _ _ _ _ _ us hl => match us, hl with | [_], _ => rfl
  have D_made : C8.Def K mg "_law_made" s_made _ fd_made := def_of F_made (He.glo_ok X Gn (c.fact 48 (f := .glo "_law_made") rfl))
  have b_fresh := FunD.bindsN (ps := P_fresh) F_fresh fun _ _ _ _ _ _ us hl => match us, hl with | [_], _ => rfl
  have D_fresh : C8.Def K mg "_law_fresh" s_fresh _ fd_fresh := def_of F_fresh (He.glo_ok X Gn (c.fact 49 (f := .glo "_law_fresh") rfl))
  have b_group_text := FunD.bindsN (ps := P_group_text) F_group_text fun _ _ _ _ _ _ us hl => match us, hl with | [_], _ => rfl
  have D_group_text : C8.Def K mg "group_text" s_group_text _ fd_group_text := def_of F_group_text (He.glo_ok X Gn (c.fact 50 (f := .glo "group_text") rfl))
  have b_text := FunD.bindsN (ps := P_text) F_text fun _ _ _ _ _ _ us hl => match us, hl with | [_], _ => rfl
  have D_text : C8.Def K mg "_law_text" s_text _ fd_text := def_of F_text (He.glo_ok X Gn (c.fact 51 (f := .glo "_law_text") rfl))
  have b_right := FunD.bindsN (ps := P_right) F_right fun _ _ _ _ _ _ us hl => match us, hl with | [_], _ => rfl
  have D_right : C8.Def K mg "_law_right" s_right _ fd_right := def_of F_right (He.glo_ok X Gn (c.fact 52 (f := .glo "_law_right") rfl))
  have b_otherwise := FunD.bindsN (ps := P_otherwise) F_otherwise fun _ _ _ _ _ _ us hl => match us, hl with | [_, _], _ => rfl
  have D_otherwise : C8.Def K mg "_law_otherwise" s_otherwise _ fd_otherwise := def_of F_otherwise (He.glo_ok X Gn (c.fact 53 (f := .glo "_law_otherwise") rfl))
  have b_full := FunD.bindsN (ps := P_full) F_full fun _ _ _ _ _ _ us hl => match us, hl with | [], _ => rfl
  have D_full : C8.Def K mg "_law_full" s_full _ fd_full := def_of F_full (He.glo_ok X Gn (c.fact 54 (f := .glo "_law_full") rfl))
  have b_law := FunD.bindsN (ps := P_law) F_law fun _ _ _ _ _ _ us hl => match us, hl with | [_], _ => rfl
  have D_law : C8.Def K mg "law" s_law _ fd_law := def_of F_law (He.glo_ok X Gn (c.fact 55 (f := .glo "law") rfl))
  refine ⟨fd_law, fun s v => FunD.bindsA (ps := ["script"]) F_law (fun _ _ _ _ _ _ us hl => match us, hl with | [_], _ => rfl) s [v] rfl, fun base _ _ => ?_⟩
  have T : Txt mg := { b_len := He.free_ok X Gn (c.fact 0 (f := .free "len") rfl), b_list := He.free_ok X Gn (c.fact 1 (f := .free "list") rfl), b_range := He.free_ok X Gn (c.fact 2 (f := .free "range") rfl), b_sum := He.free_ok X Gn (c.fact 3 (f := .free "sum") rfl), b_sorted := He.free_ok X Gn (c.fact 4 (f := .free "sorted") rfl), b_int := He.free_ok X Gn (c.fact 5 (f := .free "int") rfl), b_max := He.free_ok X Gn (c.fact 6 (f := .free "max") rfl), b_min := He.free_ok X Gn (c.fact 7 (f := .free "min") rfl), b_tuple := He.free_ok X Gn (c.fact 8 (f := .free "tuple") rfl), b_set := He.free_ok X Gn (c.fact 9 (f := .free "set") rfl), b_dict := He.free_ok X Gn (c.fact 10 (f := .free "dict") rfl), b_all := He.free_ok X Gn (c.fact 11 (f := .free "all") rfl), b_repr := He.free_ok X Gn (c.fact 12 (f := .free "repr") rfl), b_str := He.free_ok X Gn (c.fact 13 (f := .free "str") rfl), b_bool := He.free_ok X Gn (c.fact 14 (f := .free "bool") rfl), b_isinstance := He.free_ok X Gn (c.fact 15 (f := .free "isinstance") rfl), b_enumerate := He.free_ok X Gn (c.fact 16 (f := .free "enumerate") rfl), g_LETTERS := He.str_ok X Gn (c.fact 17 (f := .str "LETTERS" "abcdefghijklmnopqrstuvwxyz") rfl), g_MOST_LETTERS := He.int_ok X Gn (c.fact 18 (f := .int "MOST_LETTERS" 6) rfl), g_MOST_PEOPLE := He.int_ok X Gn (c.fact 19 (f := .int "MOST_PEOPLE" 6) rfl), g_MOST_PAGES := He.int_ok X Gn (c.fact 20 (f := .int "MOST_PAGES" 12) rfl), g_MOST_LEAVES := He.int_ok X Gn (c.fact 21 (f := .int "MOST_LEAVES" 9) rfl) }
  have gGroup : mg "Group" = some (.ref (He.ga K "Group")) := He.glo_ok X Gn (c.fact 56 (f := .glo "Group") rfl)
  have G : GCls K (He.ga K "Group") := ⟨He.cls_ok (c.fact 57 (f := .cls "Group") rfl), He.noat_ok (c.fact 58 (f := .noat "Group" "_held") rfl), He.noat_ok (c.fact 59 (f := .noat "Group" "_leaves") rfl), He.noat_ok (c.fact 60 (f := .noat "Group" "_barred") rfl)⟩
  have GI : GIs K (He.ga K "Group") := gis_ok cx
  have me_people := He.meth_ok (c.fact 62 (f := .meth "Group" "people") rfl)
  have me_pages := He.meth_ok (c.fact 63 (f := .meth "Group" "pages") rfl)
  have me_held := He.meth_ok (c.fact 64 (f := .meth "Group" "held") rfl)
  have me_leaves := He.meth_ok (c.fact 65 (f := .meth "Group" "leaves") rfl)
  have me_barred := He.meth_ok (c.fact 66 (f := .meth "Group" "barred") rfl)
  have me___eq__ := He.meth_ok (c.fact 67 (f := .meth "Group" "__eq__") rfl)
  have c_mixed := ok_mixed (P := P) (w := w) (K := K) (mg := mg) (base := base) T D_mixed b_mixed
  have c_take := ok_take (P := P) (w := w) (K := K) (mg := mg) (base := base) T c_mixed D_take b_take
  have c_pick := ok_pick (P := P) (w := w) (K := K) (mg := mg) (base := base) T c_take D_pick b_pick
  have c_names := ok_names (P := P) (w := w) (K := K) (mg := mg) (base := base) T c_take c_pick D_names b_names
  have c_begun := ok_begun (P := P) (w := w) (K := K) (mg := mg) (base := base) T D_begun b_begun
  have c_weight := ok_weight (P := P) (w := w) (K := K) (mg := mg) (base := base) T D_weight b_weight
  have c_fences := ok_fences (P := P) (w := w) (K := K) (mg := mg) (base := base) T c_take D_fences b_fences
  have c_held := ok_held (P := P) (w := w) (K := K) (mg := mg) (base := base) T c_take D_held b_held
  have c_levelled := ok_levelled (P := P) (w := w) (K := K) (mg := mg) (base := base) T c_take c_weight D_levelled b_levelled
  have c_world := ok_world (P := P) (w := w) (K := K) (mg := mg) (base := base) T c_take c_names c_held c_fences c_levelled D_world b_world
  have c_ready := ok_ready (P := P) (w := w) (K := K) (mg := mg) (base := base) T c_take c_names c_fences c_levelled c_world D_ready b_ready
  have c_even := ok_even (P := P) (w := w) (K := K) (mg := mg) (base := base) T c_weight D_even b_even
  have c_met := ok_met (P := P) (w := w) (K := K) (mg := mg) (base := base) T D_met b_met
  have c_open := ok_open (P := P) (w := w) (K := K) (mg := mg) (base := base) T c_even D_open b_open
  have c_row := ok_row (P := P) (w := w) (K := K) (mg := mg) (base := base) T c_take c_pick c_open c_met D_row b_row
  have c_is_name := ok_is_name (P := P) (w := w) (K := K) (mg := mg) (base := base) T D_is_name b_is_name
  have c_is_list := ok_is_list (P := P) (w := w) (K := K) (mg := mg) (base := base) T D_is_list b_is_list
  have c_is_pair := ok_is_pair (P := P) (w := w) (K := K) (mg := mg) (base := base) T D_is_pair b_is_pair
  have c_rising_pair := ok_rising_pair (P := P) (w := w) (K := K) (mg := mg) (base := base) T D_rising_pair b_rising_pair
  have c_is_number := ok_is_number (P := P) (w := w) (K := K) (mg := mg) (base := base) T D_is_number b_is_number
  have c_are_leaves := ok_are_leaves (P := P) (w := w) (K := K) (mg := mg) (base := base) T c_is_number D_are_leaves b_are_leaves
  have c_are_pages := ok_are_pages (P := P) (w := w) (K := K) (mg := mg) (base := base) T c_is_list c_is_name D_are_pages b_are_pages
  have c_pages_in := ok_pages_in (P := P) (w := w) (K := K) (mg := mg) (base := base) T D_pages_in b_pages_in
  have c_clean_held := ok_clean_held (P := P) (w := w) (K := K) (mg := mg) (base := base) T c_is_name c_are_pages c_pages_in D_clean_held b_clean_held
  have c_clean_leaves := ok_clean_leaves (P := P) (w := w) (K := K) (mg := mg) (base := base) T c_is_list c_is_pair c_are_leaves D_clean_leaves b_clean_leaves
  have c_clean_barred := ok_clean_barred (P := P) (w := w) (K := K) (mg := mg) (base := base) T c_is_list c_is_pair c_rising_pair D_clean_barred b_clean_barred
  have i_Group := ok_init (P := P) (w := w) (K := K) (mg := mg) (base := base) T G c_clean_held c_pages_in c_clean_leaves c_clean_barred D_Group___init__
  have c_Group : MkG P w K mg base (He.ga K "Group") := ⟨_, _, _, He.mkr_ok (c.fact 61 (f := .mkr "Group") rfl), i_Group, gGroup, kb_init F_Group___init__⟩
  have m_people := ok_people (P := P) (w := w) (K := K) (mg := mg) (base := base) T G me_people D_Group_people b_Group_people
  have m_pages := ok_pages (P := P) (w := w) (K := K) (mg := mg) (base := base) T G me_pages D_Group_pages b_Group_pages
  have m_held := ok_gheld (P := P) (w := w) (K := K) (mg := mg) (base := base) T G me_held D_Group_held b_Group_held
  have m_leaves := ok_gleaves (P := P) (w := w) (K := K) (mg := mg) (base := base) T G me_leaves D_Group_leaves b_Group_leaves
  have m_barred := ok_gbarred (P := P) (w := w) (K := K) (mg := mg) (base := base) T G me_barred D_Group_barred b_Group_barred
  have i_eq := ok_eqX (P := P) (w := w) (K := K) (mg := mg) (base := base) T G GI gGroup D_Group___eq__
  have EQ : EqOkX P w K mg base (He.ga K "Group") := ⟨_, _, i_eq, me___eq__.at_, me___eq__.fn, b_Group___eq__⟩
  have c_made := ok_made (P := P) (w := w) (K := K) (mg := mg) (base := base) T c_Group D_made b_made
  have c_fresh := ok_fresh (P := P) (w := w) (K := K) (mg := mg) (base := base) T D_fresh b_fresh
  have i_group_text := ok_group_text (P := P) (w := w) (K := K) (mg := mg) (base := base) T m_people m_pages m_held m_leaves m_barred D_group_text
  have c_group_text : C8.Cal P w K mg base 2 "group_text" (spGText (He.ga K "Group")) [] := ⟨_, _, _, [], i_group_text, D_group_text.mgf, D_group_text.kp, b_group_text, .nil⟩
  have k_group_text : CalN C8.CX0 P w K mg base 2 "group_text" (spGText (He.ga K "Group")) ksT pmT := ⟨_, _, _, i_group_text, D_group_text.mgf, D_group_text.kp, kb_text F_group_text⟩
  have c_text := ok_text (P := P) (w := w) (K := K) (mg := mg) (base := base) T D_text b_text
  have c_right := ok_right (P := P) (w := w) (K := K) (mg := mg) (base := base) T EQ c_made c_group_text k_group_text c_text D_right b_right
  have c_otherwise := ok_otherwise (P := P) (w := w) (K := K) (mg := mg) (base := base) T c_take c_pick c_fresh D_otherwise b_otherwise
  have c_full := ok_full (P := P) (w := w) (K := K) (mg := mg) (base := base) T D_full b_full
  have i_law := ok_law (P := P) (w := w) (K := K) (mg := mg) (base := base) T c_begun c_take c_ready c_world c_otherwise c_right c_made c_group_text c_row c_full D_law
  exact i_law
end EV
open PySem PySem.W PySem.Calls PyProof.Rows
set_option maxRecDepth 100000 in
set_option maxHeartbeats 0 in
theorem PySem.Challenge.cw_evenhands_k42_texts_of_groups_holds : PySem.Challenge.rw_evenhands_k42_texts_of_groups.Holds := by
  w_on; o_law
  refine HandSHeadRun.head_any (r := OpenLaw.row PySem.Challenge.rw_evenhands_k42_texts_of_groups) (q := view (OpenLaw.row PySem.Challenge.rw_evenhands_k42_texts_of_groups).prog [48]) (H := EV.hkE) (ob := EV.obE) (M := 4000) (loose := EV.nmA) (d := HandSHeadRun.topDef (OpenLaw.row PySem.Challenge.rw_evenhands_k42_texts_of_groups).prog 48) (kwd := []) EV.obE_eq
    (by kernel_rfl) (fun s => by kernel_rfl) EV.runE (by kernel_rfl) (by kernel_rfl) (by kernel_rfl) (by rfl) (by first | assumption | decide +kernel) (by decide +kernel) ⟨rfl, rfl, rfl, rfl, rfl, by decide +kernel⟩ ?hw ?hc
  case hw => w_witness2
  case hc =>
    refine EV.walk_G (l := PySem.Challenge.rw_evenhands_k42_texts_of_groups) (n := 63) (k := 8) (x := "script") rfl (by decide) (by kernel_rfl) ⟨rfl, by decide, by decide⟩ ?F
    intro w mg fa h Y G hmg0
    obtain ⟨K, KX, c, cx⟩ := Y
    have hmg : mg ("law" : PySem.Str) = some (.ref fa) := by
      have e : (HandSHeadRun.topDef (OpenLaw.row PySem.Challenge.rw_evenhands_k42_texts_of_groups).prog 48).name = ("law" : PySem.Str) := by kernel_rfl
      rw [← e]
      exact hmg0
    obtain ⟨fd, hb, hF⟩ := EV.facts (P := (PySem.Challenge.rw_evenhands_k42_texts_of_groups).prog) (w := w) KX G hmg c cx
    exact ⟨K, fd, EV.spLaw K, KX, hb, fun H a ns hl _ hS => ⟨a, ns, rfl, hS, hl, fun _ => rfl⟩, hF⟩
end
