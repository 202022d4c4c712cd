import PyProof.Rows.All
import Wide.All
import OpenK.AllK
import Wide.FinOn
import HandS.Head0
import HandS.Head1
import HandS.Head2
import HandS.HeadEnd
import HandS.HeadHook1
import HandS.HeadHook2
import HandS.HeadHook3
import HandS.HeadHook4
import HandS.Words
import HandS.ForMost
import HandS.IsInst
import HandS.TupAny
import HandS.Walk
import HandS.Style
import HandS.Conv
import HandS.Wide
import HandS.Flow
import HandS.Defaults
import KE.GoesEnum
import HandS.ForExc
import HandS.CallSlots
import HandS.AnyAll
import HandS.TupMul
import PyProof.NeKinds
import PyProof.P3Eq
import HandS.Rev
import HandS.Zip
import HandS.GenList
import PyProof.TupleOfGen
import PyProof.GenCompT
import HandS.NoneIn
import HandS.More
import HandS.Text
import HandS.Deep
import HandS.Dict
import HandS.Small
import HandS.ExcInit
import HandS.ExcField
import HandS.ExcIs
import HandS.TryOnly
import KE.KExcIs
import KE.GoesMore
import PyProof.StrBlockL
import PyProof.MeetsStr2
import PyProof.StrOps2
import KE.SortData
import HandS.FStr
import KE.KUnpackStar
import PyProof.StrLawsTight
import PyProof.Rows.StrNews2
import PyProof.ReprLen
import PyProof.StrLawsIn
import PySem.Challenge.RW_roomways_k07_whole_known_houses
set_option Elab.async false
set_option linter.all false
set_option maxRecDepth 100000
set_option maxHeartbeats 4000000
/-! facts that a run of the top shows -/
namespace Dn
open PySem PySem.Spec PyProof.Rows L2 PySem.W PySem.Calls
/-! ### a smaller part of the heap: the module's objects, their code, the classes' methods and their code -/
end Dn
namespace Rw
open PySem PySem.Spec PyProof.Rows L2 PySem.SeqAt

/-! ### a text beside a dict: never equal -/
theorem str_declines_dict (b : Str) (u : Tok) (l : Addr) (c : Value) (es : Array DictEntry) (n : Nat) (dd : Option Addr) (sl : Array (Option Value)) :
    Meets (Builtin.«str.__eq__» ⟨[.str b u, .ref l], []⟩) (fun _ R s => s.heap.get? l = some { cls := c, dict := dd, data := .dict es n, slots := sl } ∧ R (.ok (.ret .notImplemented)) s) :=
  .of_wp fun prog w A R s h => by
    obtain ⟨hp, g, d, tk, os⟩ := s
    obtain ⟨hl, h⟩ := h
    wp_walk using AutoSeq1.wpAny_loadPart' hl, wpAny_load hl
    exact ⟨_, rfl, h⟩
theorem dict_declines_str (l : Addr) (es : Array DictEntry) (n : Nat) (dd : Option Addr) (sl : Array (Option Value)) (b : Str) (u : Tok) :
    Meets (Builtin.«dict.__eq__» ⟨[.ref l, .str b u], []⟩) (fun _ R s => s.heap.get? l = some { cls := .type "dict", dict := dd, data := .dict es n, slots := sl } ∧ R (.ok (.ret .notImplemented)) s) :=
  .of_wp fun prog w A R s h => by
    obtain ⟨hp, g, d, tk, os⟩ := s
    obtain ⟨hl, h⟩ := h
    have f1 : isSubtype (.type "str") (.type "dict") = pure false := by rw [isSubtype_type]; kernel_rfl
    wp_walk using AutoSeq1.wpAny_loadPart' hl, wpAny_load hl
    exact ⟨_, rfl, h⟩
theorem sub_dict_str : isSubtype (.type "dict") (.type "str") = pure false := by rw [isSubtype_type]; kernel_rfl
section
variable {A : Around} {s : Shared}
theorem rc_str_dict {l : Addr} {o : Obj} {es : Array DictEntry} {n : Nat} (b : Str) (u : Tok) (ho : s.heap.get? l = some o) (hc : o.cls = .type "dict") (hd : o.data = .dict es n) (hu : A.units < cLine) : RcAt A s (.str b u) (.ref l) false := fun prog w E Q h => by
  obtain ⟨cls, dd, data, sl⟩ := o
  simp only at hc hd
  subst hc hd
  refine rc_eq_decline_or (k := false) (typeIs_str s b u) ⟨_, ho, rfl⟩ (by decide) sub_dict_str F.slot_str_eq F.slot_dict_eq_refl
    (fun _ hq => ?_) (fun _ hq => ?_) (fun _ hq => wpAny_of_eq (rfl : isSame (.str b u) (.ref l) = pure false) hq) (.inr hu) h
  · exact call_meets F.slot_str_eq (typeIs_str s b u) F.entry_str_eq (F.args_str_eq_2 _ _) (str_declines_dict b u l (.type "dict") es n dd sl) ⟨ho, hq⟩
  · exact call_meets F.slot_dict_eq_refl ⟨_, ho, rfl⟩ F.entry_dict_eq (F.args_dict_eq_2 _ _) (dict_declines_str l es n dd sl b u) ⟨ho, hq⟩
theorem eq_str_dict {l : Addr} {o : Obj} {es : Array DictEntry} {n : Nat} (b : Str) (u : Tok) (ho : s.heap.get? l = some o) (hc : o.cls = .type "dict") (hd : o.data = .dict es n) (hu : A.units < cLine) : EqAt A s (.str b u) (.ref l) false := fun prog w E Q h => by
  unfold eqBool
  refine wpAny_holding ?_
  refine wpAny_ite_split (fun hab => absurd (eq_of_beq hab) nofun) (fun _ => ?_)
  exact wpAny_bind (rc_str_dict b u ho hc hd hu prog w E _ (wpAny_truthy_bool h))
end
end Rw
namespace Rw
open PySem PySem.Spec PyProof.Rows L2 PySem.SeqAt

/-! ### a value as data, all of whose objects stand, none of them at a place that av forbids -/
mutual
inductive Rp (av : Addr → Prop) (H : Hp) : V → PyData → Prop
  | non : Rp av H .non .none
  | bl (b : Bool) : Rp av H (.bl b) (.bool b)
  | int (i : Int) : Rp av H (.int i) (.int i)
  | str (x : Str) : Rp av H (.str x) (.str x)
  | lst {a : Addr} {xs : List V} {ds : List PyData} : ¬ av a → H a = some (.lst xs) → RpAll av H xs ds → Rp av H (.ref a) (.list ds)
  | tup {a : Addr} {xs : List V} {ds : List PyData} : ¬ av a → H a = some (.tup xs) → RpAll av H xs ds → Rp av H (.ref a) (.tuple ds)
  | dct {a : Addr} {k : Str} {v : V} {d : PyData} : ¬ av a → H a = some (.dK [(.inr k, v)]) → Rp av H v d → Rp av H (.ref a) (.dict [(.str k, d)])
inductive RpAll (av : Addr → Prop) (H : Hp) : List V → List PyData → Prop
  | nil : RpAll av H [] []
  | cons {v : V} {vs : List V} {d : PyData} {ds : List PyData} : Rp av H v d → RpAll av H vs ds → RpAll av H (v :: vs) (d :: ds)
end
/-- what stood at places that av does not name stands -/
def Ext (av : Addr → Prop) (H H' : Hp) : Prop := ∀ b o, ¬ av b → H b = some o → H' b = some o
section
variable {av : Addr → Prop} {H H' : Hp}
theorem Ext.refl : Ext av H H := fun _ _ _ h => h
theorem Ext.trans {H1 H2 H3 : Hp} (a : Ext av H1 H2) (b : Ext av H2 H3) : Ext av H1 H3 := fun c o n h => b c o n (a c o n h)
theorem Ext.of_same {H1 H2 : Hp} (a : Same H1 H2) : Ext av H1 H2 := fun c o _ h => a c o h
theorem same_new {p : Addr} (h : H p = none) (o : HO) : Same H (upd H p o) := fun b u q => by
  rw [upd_ne (ne_of_none q h)]
  exact q
theorem Ext.new {p : Addr} (h : H p = none) (o : HO) : Ext av H (upd H p o) := Ext.of_same (same_new h o)
theorem Ext.put {p : Addr} (h : av p) (o : HO) : Ext av H (upd H p o) := fun b u n q => by
  rw [upd_ne (fun e => n (by rw [e]; exact h))]
  exact q
mutual
theorem Rp.mono (e : Ext av H H') : ∀ {v : V} {d : PyData}, Rp av H v d → Rp av H' v d
  | _, _, .non => .non
  | _, _, .bl b => .bl b
  | _, _, .int i => .int i
  | _, _, .str x => .str x
  | _, _, .lst n h r => .lst n (e _ _ n h) (RpAll.mono e r)
  | _, _, .tup n h r => .tup n (e _ _ n h) (RpAll.mono e r)
  | _, _, .dct n h r => .dct n (e _ _ n h) (Rp.mono e r)
theorem RpAll.mono (e : Ext av H H') : ∀ {v : List V} {d : List PyData}, RpAll av H v d → RpAll av H' v d
  | _, _, .nil => .nil
  | _, _, .cons a b => .cons (Rp.mono e a) (RpAll.mono e b)
end
theorem RpAll.len : ∀ {vs : List V} {ds : List PyData}, RpAll av H vs ds → vs.length = ds.length
  | _, _, .nil => rfl
  | _, _, .cons _ b => by rw [List.length_cons, List.length_cons, RpAll.len b]
theorem RpAll.at : ∀ {vs : List V} {ds : List PyData} {i : Nat} {v : V}, RpAll av H vs ds → vs[i]? = some v → ∃ d, ds[i]? = some d ∧ Rp av H v d
  | _, _, _, _, .nil, h => by simp at h
  | _, _, 0, _, .cons a _, h => by
    have e := Option.some.inj h
    subst e
    exact ⟨_, rfl, a⟩
  | _, _, i + 1, _, .cons _ b, h => RpAll.at (i := i) b h
theorem RpAll.app : ∀ {vs ws : List V} {ds es : List PyData}, RpAll av H vs ds → RpAll av H ws es → RpAll av H (vs ++ ws) (ds ++ es)
  | _, _, _, _, .nil, q => q
  | _, _, _, _, .cons a b, q => .cons a (RpAll.app b q)
theorem RpAll.take : ∀ {vs : List V} {ds : List PyData} (n : Nat), RpAll av H vs ds → RpAll av H (vs.take n) (ds.take n)
  | _, _, 0, _ => .nil
  | _, _, _ + 1, .nil => .nil
  | _, _, n + 1, .cons a b => .cons a (RpAll.take n b)
theorem RpAll.drop : ∀ {vs : List V} {ds : List PyData} (n : Nat), RpAll av H vs ds → RpAll av H (vs.drop n) (ds.drop n)
  | _, _, 0, q => q
  | _, _, _ + 1, .nil => .nil
  | _, _, n + 1, .cons _ b => RpAll.drop n b
theorem RpAll.set {v : V} {d : PyData} (r : Rp av H v d) : ∀ {vs : List V} {ds : List PyData} (n : Nat), RpAll av H vs ds → RpAll av H (vs.set n v) (ds.set n d)
  | _, _, _, .nil => .nil
  | _, _, 0, .cons _ b => .cons r b
  | _, _, n + 1, .cons a b => .cons a (RpAll.set r n b)
theorem RpAll.snoc {vs : List V} {ds : List PyData} {v : V} {d : PyData} (a : RpAll av H vs ds) (b : Rp av H v d) : RpAll av H (vs ++ [v]) (ds ++ [d]) := a.app (.cons b .nil)
theorem RpAll.ints : ∀ ns : List Int, RpAll av H (ns.map V.int) (ns.map PyData.int)
  | [] => .nil
  | n :: r => .cons (.int n) (RpAll.ints r)
end

/-! ### what it reads as -/
section
variable {X : Cx} {pins : List (Addr × Obj)} {σ : L2.St} {H : Hp} {s : Shared} {av : Addr → Prop}
mutual
theorem Rp.reads (I : Inv X pins σ H s) : ∀ (d : PyData) (v : V) (u : Value), Rp av H v d → RelV v u → ∃ as, Reads s.heap u d as ∧ ∀ b ∈ as, ∃ o, H b = some o
  | .none, _, _, h, r => by
    cases h
    cases r
    exact ⟨_, Reads.none, fun b hb => absurd hb (by simp)⟩
  | .bool b, _, _, h, r => by
    cases h
    cases r
    exact ⟨_, Reads.bool b, fun b hb => absurd hb (by simp)⟩
  | .int i, _, _, h, r => by
    cases h
    obtain ⟨t, rfl⟩ := r
    exact ⟨_, Reads.int i t, fun b hb => absurd hb (by simp)⟩
  | .str x, _, _, h, r => by
    cases h
    obtain ⟨t, rfl⟩ := r
    exact ⟨_, Reads.str x t, fun b hb => absurd hb (by simp)⟩
  | .list ds, _, _, h, r => by
    cases h with
    | lst n hs ha =>
      cases r
      obtain ⟨its, rv, ⟨o, n, ho, hc, _, hd⟩, _⟩ := I.list (SqL.of hs)
      obtain ⟨as, hr, hk⟩ := RpAll.reads I ds _ its ha rv
      refine ⟨_, Reads.list ho hc hd hr, fun b hb => ?_⟩
      rcases List.mem_cons.mp hb with e | e
      · rw [e]
        exact ⟨_, hs⟩
      · exact hk b e
  | .tuple ds, _, _, h, r => by
    cases h with
    | tup n hs ha =>
      cases r
      obtain ⟨its, rv, ⟨o, ho, hc, n, hd⟩, _⟩ := I.tuple (SqT.of hs)
      obtain ⟨as, hr, hk⟩ := RpAll.reads I ds _ its ha rv
      exact ⟨_, Reads.tuple ho hc hd hr, hk⟩
  | .dict kds, _, _, h, r => by
    cases h with
    | @dct a k v d n hs ha =>
      cases r
      obtain ⟨_, _, vs, kv, o, es, ep, ho, hx, hd, hks, hp, _⟩ := (show ObjOk X.prog X.w H s.heap a (.dK [(.inr k, v)]) from I.hok a _ hs)
      cases vs with
      | nil => cases kv
      | cons q0 qt =>
        cases kv with
        | cons r1 rt =>
        cases rt
        obtain ⟨k2, u2⟩ := q0
        obtain ⟨e1, r2⟩ := r1
        simp only at e1 r2
        subst e1
        obtain ⟨as, hr, hk⟩ := Rp.reads I d v u2 ha r2
        generalize hl : es.toList = el at hp
        cases el with
        | nil => cases hp
        | cons e0 et =>
          cases hp with
          | cons i1 i2 i3 =>
          cases i3
          obtain ⟨t, ek⟩ := Value.isStrOf_shape (x := k) (v := e0.key) i1
          refine ⟨a :: ([] ++ []) ++ (as ++ []), Reads.dict ho hx.1 hd ?_ ?_, fun b hb => ?_⟩
          · rw [hl]
            show ReadsAll s.heap [e0.key] [.str k] ([] ++ [])
            rw [ek]
            exact .cons (.str k t) .nil
          · rw [hl]
            show ReadsAll s.heap [e0.val] [d] (as ++ [])
            rw [show e0.val = u2 from i2]
            exact .cons hr .nil
          · simp only [List.append_nil, List.cons_append, List.nil_append, List.mem_cons] at hb
            rcases hb with e | e
            · rw [e]
              exact ⟨_, hs⟩
            · exact hk b e
theorem RpAll.reads (I : Inv X pins σ H s) : ∀ (ds : List PyData) (vs : List V) (us : List Value), RpAll av H vs ds → Vals vs us → ∃ as, ReadsAll s.heap us ds as ∧ ∀ b ∈ as, ∃ o, H b = some o
  | [], _, _, h, r => by
    cases h
    cases r
    exact ⟨_, ReadsAll.nil, fun b hb => absurd hb (by simp)⟩
  | d :: ds, _, _, h, r => by
    cases h with
    | cons h1 h2 =>
      cases r with
      | cons r1 r2 =>
        obtain ⟨as, q1, k1⟩ := Rp.reads I d _ _ h1 r1
        obtain ⟨bs, q2, k2⟩ := RpAll.reads I ds _ _ h2 r2
        refine ⟨_, ReadsAll.cons q1 q2, fun b hb => ?_⟩
        rcases List.mem_append.mp hb with e | e
        · exact k1 b e
        · exact k2 b e
end
end
end Rw
namespace Rw
open PySem PySem.Spec PyProof.Rows L2 PySem.SeqAt

/-! ### enumerate(a tuple) -/
abbrev tupIt (t : Addr) : Obj :=
  { cls := .type "tuple_iterator", data := .fields #[.ref t, .int 0 0] }
abbrev enumOb (i : Addr) : Obj :=
  { cls := .type "enumerate", data := .fields #[.none, .bool false, .ref i, rawInt 0, .none, .none] }
theorem enum_made (t : Addr) (items : Array Value) : Meets (Builtin.«enumerate.__new__» ⟨[.type "enumerate", .ref t], []⟩)
    (fun _ R s => s.heap.IsTuple t items ∧
      R (.ok (.ret (.ref (s.heap.push (tupIt t)).objs.size)))
        { s with heap := (s.heap.push (tupIt t)).push (enumOb s.heap.objs.size) }) := by
  refine .of_wp fun prog w A R s h => ?_
  cases s with
  | mk hp g d tk os =>
  have ht := h.1
  have hR := h.2
  have sub := sub_enumerate
  have begin_ : ∀ {A' : Around} {E : Value → Shared → Prop} {Q : Value → Shared → Prop}, Q (.ref hp.objs.size) ⟨hp.push (tupIt t), g, d, tk, os⟩ →
      wpAny (model prog w) A' (pyIter (.ref t)) Q E ⟨hp, g, d, tk, os⟩ := fun q => wpAny_pyIter_tuple ht q
  wp_walk using begin_
  refine wpAny_stack_any fun st => wpAny_pure ?_
  split
  · rename_i c _ _ _ _ _
    cases (c == Value.type "enumerate") <;> (wp_walk using begin_; exact ⟨_, rfl, hR⟩)
  · wp_walk using begin_
    exact ⟨_, rfl, hR⟩
section
variable {prog : Program} {w : World} {A : Around} {E : Value → Shared → Prop} {s : Shared}
theorem call_enum_tup {t : Addr} {items : Array Value} {Q : Value → Shared → Prop} (ht : s.heap.IsTuple t items)
    (h : ∀ h', IsEnum h' (s.heap.objs.size + 1) s.heap.objs.size 0 .none → h'.IsTupleIter s.heap.objs.size t 0 →
      (∀ b o, s.heap.get? b = some o → h'.get? b = some o) → Q (.ref (s.heap.objs.size + 1)) { s with heap := h' }) :
    wpAny (model prog w) A (call (.type "enumerate") [.ref t]) Q E s := by
  refine callType_new F.called_enumerate (by decide) (F.typeCall_enumerate_1 _) (F.newCall_enumerate_1 _)
    (fun obj => F.args_object_init_2 obj _) F.entry_enumerate_new (enum_made t items) ⟨ht, ?_⟩
  have size1 : (s.heap.push (tupIt t)).objs.size = s.heap.objs.size + 1 := Heap.size_push ..
  show _ ∧ _
  rw [size1]
  have at1 : IsEnum ((s.heap.push (tupIt t)).push (enumOb s.heap.objs.size)) (s.heap.objs.size + 1) s.heap.objs.size 0 .none := by
    rw [← size1]
    exact Heap.get?_push_size (s.heap.push (tupIt t)) (o := enumOb s.heap.objs.size) rfl
  have at0 : ((s.heap.push (tupIt t)).push (enumOb s.heap.objs.size)).IsTupleIter s.heap.objs.size t 0 :=
    ⟨_, Heap.get?_push_of_some _ (Heap.get?_push_size _ rfl), rfl, rfl⟩
  exact ⟨⟨_, at1, rfl⟩, h _ at1 at0 fun b o x => Heap.get?_push_of_some _ (Heap.get?_push_of_some _ x)⟩
end
/-- the tuple at a, each item in a new pair behind its place -/
def Itet (K : PySem.W.Frag) (a : Addr) : It where
  go i H := ∃ (xs : List V) (x : V), SqT K H a xs ∧ xs[i]? = some x
  yld i H v H' := ∃ T x, v = .ref T ∧ H T = none ∧ H' = upd H T (.tup [.int (i : Nat), x]) ∧ ∀ xs, SqT K H a xs → xs[i]? = some x
  stop i H := ∃ xs : List V, SqT K H a xs ∧ xs.length ≤ i
abbrev enSt (a e it : Addr) (i : Nat) (h : Heap) : Prop := (∃ old, IsEnum h e it ((i : Nat) : Int) old) ∧ h.IsTupleIter it a i ∧ e ≠ it ∧ e ≠ a ∧ it ≠ a
theorem turn_enumT {P : Program} {w : World} {K : PySem.W.Frag} {elts : List Expr} {kk : Nat} {tpos : Pos} (a e it : Addr) :
    Turn P w K (.Tuple elts kk tpos) (Itet K a) [e, it] e (enSt a e it) where
  mem := List.mem_cons_self ..
  obj := fun i h st b hb => by
    obtain ⟨⟨old, he⟩, ⟨o, ho, _, hd⟩, _⟩ := st
    simp only [List.mem_cons, List.not_mem_nil, or_false] at hb
    cases hb with
    | inl z => rw [z]; exact ⟨_, he, fun v q => nomatch q⟩
    | inr z => rw [z]; exact ⟨o, ho, fun v q => by rw [hd] at q; cases q⟩
  keep := fun i h h' st k => by
    obtain ⟨⟨old, he⟩, hi, rest⟩ := st
    exact ⟨⟨old, k e (by simp) _ he⟩, hi.at fun o q => k it (by simp) o q, rest⟩
  item := by
    intro X hP hw hK hc i pins s σ H E I hf st hg
    subst hP hw hK
    obtain ⟨⟨old, he⟩, hit, hne, hea, hia⟩ := st
    obtain ⟨xs, x, hq, hx⟩ := hg
    obtain ⟨its, rv, p, _⟩ := I.tuple hq
    obtain ⟨u, hu, ru⟩ := rv.get hx
    have p' : s.heap.IsTuple a its.toArray := p
    have el : e < s.heap.objs.size := Heap.lt_size he
    have il : it < s.heap.objs.size := by
      obtain ⟨_, q, _⟩ := hit
      exact Heap.lt_size q
    have lt : i < its.toArray.size := by
      have q := (List.getElem?_eq_some_iff.mp hu).1
      simpa using q
    have D := Draws.tuple (prog := X.prog) (w := X.w) (A := X.A.in1) (show X.A.in1.handled = none from I.ok.hd hc) it a (Ne.symm hia) its.toArray
    refine wpAny_pyNext_enum_itemD D he ⟨hit, p'⟩ lt hne (by simp [hne, hea]) fun y h' tk hy ho hst hT hsz hk => ?_
    have ey : y = u := by
      have q : its.toArray[i]? = some u := by simpa using hu
      exact Option.some.inj (hy.symm.trans q)
    subst ey
    refine ⟨_, rfl, wpAny_letOwnedTupleGo_enum (s := { s with heap := h', toks := tk + 1 }) ho fun h2 he2 sb => ?_⟩
    have hT2 : h2.get? s.heap.objs.size = some { cls := .type "tuple", data := .seq #[.int i tk, y] } := (sb.2 _ (Nat.ne_of_gt el)).trans hT
    have new : ObjOk X.prog X.w (upd H s.heap.objs.size (.tup [.int (i : Nat), x])) h2 s.heap.objs.size (.tup [.int (i : Nat), x]) := by
      refine ⟨by show 2 ≤ sizeLine; decide, [.int i tk, y], .cons ⟨_, rfl⟩ (.cons ru .nil), ?_⟩
      exact ⟨_, hT2, rfl, _, rfl⟩
    have turned : ∀ b ob, b ∉ [e, it] → s.heap.get? b = some ob → h2.get? b = some ob := fun b ob hb q => by
      have n1 : b ≠ e := fun z => hb (by simp [z])
      have n2 : b ≠ it := fun z => hb (by simp [z])
      exact (sb.2 b n1).trans (hk b ob n1 n2 q)
    have I1 : Inv X pins σ (upd H s.heap.objs.size (.tup [.int (i : Nat), x])) { s with heap := h2, toks := tk + 1 } := I.turnedNew (ch := [e, it]) turned hf (Nat.le_refl _) new
    refine ⟨.ref s.heap.objs.size, _, I1, rfl, ⟨_, x, rfl, I.hok.fresh (Nat.le_refl _), rfl, fun ys hy => ?_⟩, ⟨⟨y, ?_⟩, ?_, hne, hea, hia⟩, fun b hb => ?_⟩
    · rw [I.tuple_inj hy hq]
      exact hx
    · have e1 : ((i + 1 : Nat) : Int) = (i : Int) + 1 := by omega
      rw [e1]
      exact he2
    · exact hst.1.at fun o q => (sb.2 it (Ne.symm hne)).trans q
    · have lo : b < s.heap.objs.size := by
        simp only [List.mem_cons, List.not_mem_nil, or_false] at hb
        cases hb with
        | inl z => rw [z]; exact el
        | inr z => rw [z]; exact il
      rw [upd_ne (Nat.ne_of_lt lo)]
      exact (hf b hb).1
  done := by
    intro X hP hw hK hc i pins s σ H E I hf st hg
    subst hP hw hK
    obtain ⟨⟨old, he⟩, hit, hne, hea, hia⟩ := st
    obtain ⟨xs, hq, hx⟩ := hg
    obtain ⟨its, rv, p, _⟩ := I.tuple hq
    have p' : s.heap.IsTuple a its.toArray := p
    obtain ⟨f0, f1, f2, f3, f4, f5⟩ := hf it (by simp)
    have hl := rv.length
    unfold pyNext
    refine wpAny_bind (wpAny_attempt (wpAny_callSpecial?_slot (name := Str.ofString "__next__") ⟨_, he, rfl⟩ F.slot_enumerate_next ?_))
    refine wpAny_call_entry F.slot_enumerate_next ⟨_, he, rfl⟩ F.entry_enumerate_next ?_ (F.args_enumerate_next_1 _)
    show wpAny _ _ (field (.ref e) 2 >>= _) _ _ _
    refine wpAny_bind (wpAny_field he rfl (x := .ref it) rfl ?_)
    refine wpAny_bind (wpAny_nextOf_tuple_end (I.ok.hd hc) hit p' (by simp; omega) fun h' e2 he' hx' => ?_)
    obtain ⟨o2, ho2, hc2⟩ := hx'
    refine wpAny_bind (wpAny_isInstance (T := "StopIteration") (b := true) ⟨o2, ho2, hc2⟩ isSubtype_stop ?_)
    exact wpAny_pure ⟨rfl, I.turned (t' := s.toks) (fun b o hb q => he' b o hb q) f0 f1 f3 f4 f5⟩
  self := fun A i s Q E st h => by
    obtain ⟨⟨_, he⟩, _⟩ := st
    exact wpAny_pyIter_enum he h
def iEnumT (K : PySem.W.Frag) (ta : TA) : TI := fun σ H R => ta σ H fun vs H1 => ∃ a xs, vs = [.ref a] ∧ SqT K H1 a xs ∧ R (Itet K a) H1
theorem pi_enumT {X : Cx} {e : Expr} {ta : TA} {p pos tpos : Pos} {elts : List Expr} {kk : Nat} (hg : Gl X "enumerate") (hm : X.mg "enumerate" = none) (ha : PA X [e] ta)
    (hs : starEach [e] X.env = [(false, eval e X.env)] := by rfl) : PI X (.Tuple elts kk tpos) (.Call (.Name "enumerate" p) [e] [] pos) (iEnumT X.K ta) := by
  refine ⟨fun pins s σ H R I h => ?_⟩
  refine Call_ (ld_blt I hg hm boot_enumerate (PyProof.Rows.callWith_type1 ?_ hs rfl))
  refine thn (ha.run pos pins s σ H _ I h) fun us s1 ⟨vs, H1, I1, r1, a, xs, ex, hq, q⟩ => ?_
  subst ex
  obtain ⟨u, rfl, r⟩ := vals1 r1
  cases r
  obtain ⟨its, rv, p', hz⟩ := I1.tuple hq
  have p2 : s1.heap.IsTuple a its.toArray := p'
  have al : a < s1.heap.objs.size := by
    obtain ⟨_, q, _⟩ := p2
    exact Heap.lt_size q
  refine call_enum_tup p2 fun h' he hit hk => wpAny_pyIter_enum he ?_
  have I2 : Inv X pins σ H1 { s1 with heap := h' } := I1.kept (t' := s1.toks) hk
  have n1 : s1.heap.objs.size + 1 ≠ a := Nat.ne_of_gt (Nat.lt_succ_of_lt al)
  have n2 : s1.heap.objs.size ≠ a := Nat.ne_of_gt al
  refine ⟨s1.heap.objs.size + 1, [s1.heap.objs.size + 1, s1.heap.objs.size], _, _, H1, rfl, I2, turn_enumT a (s1.heap.objs.size + 1) s1.heap.objs.size, ⟨⟨.none, he⟩, hit, Nat.succ_ne_self _, n1, n2⟩, fun b hb => ?_, q⟩
  have hle : s1.heap.objs.size ≤ b := by
    simp only [List.mem_cons, List.not_mem_nil, or_false] at hb
    cases hb with
    | inl z => rw [z]; exact Nat.le_add_right _ _
    | inr z => rw [z]; exact Nat.le_refl _
  exact I1.fpOk hle (I1.hok.fresh hle)
theorem walk_enumT {K : PySem.W.Frag} {a : Addr} {xs : List V} : Walk (Itet K a) xs.length (fun H => SqT K H a xs) (YPair (fun i => some (.int (i : Nat))) (fun i => xs[i]?)) where
  goes := fun i _ hi q => ⟨xs, xs[i], q, by simp [hi]⟩
  stops := fun _ q => ⟨xs, q, Nat.le_refl _⟩
  yields := fun i H v H' _ q y => by
    obtain ⟨T, x, h1, h2, h3, h4⟩ := y
    exact ⟨T, .int (i : Nat), x, h1, h2, h3, rfl, h4 xs q⟩

/-! ### a def called by names alone -/
section
variable {X : Cx} {CX : CXT} {k : Nat} {f : Addr} {fd : FuncData} {ps ks : List Str} {sp : Sp} {E : XK} {x : Str} {p pos : Pos} {kws : List Keyword} {tk : TA} {g : List Value → List Value → List Value} {gV : List V → List V → List V}
end
end Rw
namespace Rw
open PySem PySem.Spec PyProof.Rows L2 PySem.SeqAt

/-! ### a value of any kind among texts -/
def eqS (d : PyData) (z : Str) : Bool := match d with
  | .str x => z == x
  | _ => false
theorem str_eqAt {A : Around} {s : Shared} {u : Value} {d : PyData} {as : List Addr} (hu : A.units < cLine) (rd : Reads s.heap u d as) (z : Str) (t : Tok) : EqAt A s (.str z t) u (eqS d z) := by
  cases rd with
  | none => exact EqAt.str_none z t
  | bool b => exact EqAt.str_bool z t b
  | int i k => exact EqAt.str_int z t i k
  | str x k => exact EqAt.str_str z t x k
  | list h1 h2 h3 h4 => exact EqAt.str_list z t ⟨_, h1, h2, _, h3⟩ hu
  | tuple h1 h2 h3 h4 => exact EqAt.str_tuple z t ⟨_, h1, h2, _, h3⟩ hu
  | dict h1 h2 h3 h4 h5 => exact eq_str_dict z t h1 h2 h3 hu
section
variable {X : Cx}
end

/-! ### isinstance of data -/
def clsOf : PyData → String
  | .none => "NoneType"
  | .bool _ => "bool"
  | .int _ => "int"
  | .str _ => "str"
  | .list _ => "list"
  | .tuple _ => "tuple"
  | .dict _ => "dict"
theorem Rp.ty {K : PySem.W.Frag} {av : Addr → Prop} {H : Hp} {v : V} {d : PyData} (h : Rp av H v d) : TyX K H v (.type (clsOf d)) := by
  cases h with
  | non => exact .base .non
  | bl b => exact .base (.bl b)
  | int i => exact .base (.int i)
  | str x => exact .base (.str x)
  | lst _ h _ => exact .base (.lst h)
  | tup _ h _ => exact .base (.tup h)
  | dct _ h _ => exact .base (.dK h)
def isC (n c : String) : Bool := c == n || (c == "bool" && n == "int")
def isT (n : String) (d : PyData) : Bool := isC n (clsOf d)
def clsAll : List String := ["NoneType", "bool", "int", "str", "list", "tuple", "dict"]
theorem kit_all : ∀ c ∈ clsAll, ∀ n ∈ ["tuple", "int", "bool", "str", "list"], kitB c n = some (isC n c) := by decide +kernel
section
variable {X : Cx}
end
end Rw
/-! values without addresses: what an expression, a statement, a def makes of them, as a function -/
namespace Dn
open PySem PySem.Spec PyProof.Rows L2 PySem.SeqAt

/-- a value: tuples by their items, a list of the outside by its items, an object that may change by its number -/
inductive PV where
  | non | bl (b : Bool) | int (i : Int) | str (x : Str) | tup (xs : List PV) | kt (xs : List PV) | fz (xs : List PV) | ref (n : Nat)
/-- an object that may change -/
inductive MO where
  | lst (xs : List PV) | dK (kvs : List (Key × PV)) | dT (kvs : List (List Key × PV))
abbrev Sl := List (Option PV)
abbrev PH := List MO
/-- an exception: its class, its field -/
structure PErr where
  cls : Str
  fld : Option (Str × PV)
inductive Out (α : Type) where
  | ok (a : α) (h : PH) | err (e : PErr) (h : PH) | no
inductive OutS where
  | nx (s : Sl) (h : PH) | rt (v : PV) (h : PH) | bk (s : Sl) (h : PH) | ct (s : Sl) (h : PH) | err (e : PErr) (s : Sl) (h : PH) | no
abbrev DE := Sl → PH → Out PV
abbrev DT := Sl → PH → Out Bool
abbrev DA := Sl → PH → Out (List PV)
abbrev DS := Sl → PH → OutS
def Out.bind {α β : Type} (o : Out α) (k : α → PH → Out β) : Out β := match o with
  | .ok a h => k a h
  | .err e h => .err e h
  | .no => .no
@[simp] theorem Out.bind_ok {α β : Type} (a : α) (h : PH) (k : α → PH → Out β) : (Out.ok a h).bind k = k a h := rfl
@[simp] theorem Out.bind_err {α β : Type} (e : PErr) (h : PH) (k : α → PH → Out β) : (Out.err e h : Out α).bind k = .err e h := rfl
@[simp] theorem Out.bind_no {α β : Type} (k : α → PH → Out β) : (Out.no : Out α).bind k = .no := rfl

/-! ### how a value without addresses lies in the heap -/
section
variable (K : PySem.W.Frag) (H : Hp) (μ : List Addr)
/-- a list that nobody changes -/
def SqF (a : Addr) (xs : List V) : Prop := (∃ o, H a = some (.frz o (.lst xs))) ∨
  ∃ (o : Obj) (its : Array Value) (n : Nat), K.lookup a = some o ∧ o.cls = .type "list" ∧ o.dict = none ∧ o.data = .seq its n ∧ its.size ≤ sizeLine ∧ Vals xs its.toList
/-- a tuple of the module -/
def SqK (a : Addr) (xs : List V) : Prop := ∃ (o : Obj) (its : Array Value) (n : Nat), K.lookup a = some o ∧ o.cls = .type "tuple" ∧ o.data = .seq its n ∧ its.size ≤ sizeLine ∧ Vals xs its.toList
mutual
inductive Rl : PV → V → Prop
  | non : Rl .non .non
  | bl (b : Bool) : Rl (.bl b) (.bl b)
  | int (i : Int) : Rl (.int i) (.int i)
  | str (x : Str) : Rl (.str x) (.str x)
  | tup {a : Addr} {vs : List V} {xs : List PV} : H a = some (.tup vs) → Rls xs vs → Rl (.tup xs) (.ref a)
  | kt {a : Addr} {vs : List V} {xs : List PV} : SqK K a vs → Rls xs vs → Rl (.kt xs) (.ref a)
  | fz {a : Addr} {vs : List V} {xs : List PV} : SqF K H a vs → Rls xs vs → Rl (.fz xs) (.ref a)
  | ref {n : Nat} {a : Addr} : μ[n]? = some a → Rl (.ref n) (.ref a)
inductive Rls : List PV → List V → Prop
  | nil : Rls [] []
  | cons {x : PV} {v : V} {xs : List PV} {vs : List V} : Rl x v → Rls xs vs → Rls (x :: xs) (v :: vs)
end
end
/-- what stays: tuples, lists of the outside; the numbers of objects -/
structure Ex (μ : List Addr) (H : Hp) (μ' : List Addr) (H' : Hp) : Prop where
  pre : ∀ (n : Nat) a, μ[n]? = some a → μ'[n]? = some a
  tup : ∀ a xs, H a = some (.tup xs) → H' a = some (.tup xs)
  frz : ∀ a o u, H a = some (.frz o u) → H' a = some (.frz o u)
section
variable {K : PySem.W.Frag} {H H' H2 : Hp} {μ μ' μ2 : List Addr}
theorem Ex.refl : Ex μ H μ H := ⟨fun _ _ h => h, fun _ _ h => h, fun _ _ _ h => h⟩
theorem Ex.trans (a : Ex μ H μ' H') (b : Ex μ' H' μ2 H2) : Ex μ H μ2 H2 := ⟨fun n x h => b.pre n x (a.pre n x h), fun n x h => b.tup n x (a.tup n x h), fun n o x h => b.frz n o x (a.frz n o x h)⟩
theorem Ex.rd (e : Ex μ H μ' H') {a : Addr} {xs : List V} (h : SqT K H a xs) : SqT K H' a xs := by
  rcases h with (h | ⟨o, h⟩) | h
  · exact .inl (.inl (e.tup _ _ h))
  · exact .inl (.inr ⟨o, e.frz _ _ _ h⟩)
  · exact .inr h
theorem Ex.sqf (e : Ex μ H μ' H') {a : Addr} {xs : List V} (h : SqF K H a xs) : SqF K H' a xs := by
  rcases h with ⟨o, h⟩ | h
  · exact .inl ⟨o, e.frz _ _ _ h⟩
  · exact .inr h
mutual
theorem Rl.mono (e : Ex μ H μ' H') : ∀ {x : PV} {v : V}, Rl K H μ x v → Rl K H' μ' x v
  | _, _, .non => .non
  | _, _, .bl b => .bl b
  | _, _, .int i => .int i
  | _, _, .str x => .str x
  | _, _, .tup h r => .tup (e.tup _ _ h) (Rls.mono e r)
  | _, _, .kt h r => .kt h (Rls.mono e r)
  | _, _, .fz h r => .fz (e.sqf h) (Rls.mono e r)
  | _, _, .ref h => .ref (e.pre _ _ h)
theorem Rls.mono (e : Ex μ H μ' H') : ∀ {x : List PV} {v : List V}, Rls K H μ x v → Rls K H' μ' x v
  | _, _, .nil => .nil
  | _, _, .cons a b => .cons (Rl.mono e a) (Rls.mono e b)
end
theorem Rls.len : ∀ {xs : List PV} {vs : List V}, Rls K H μ xs vs → xs.length = vs.length
  | _, _, .nil => rfl
  | _, _, .cons _ b => by rw [List.length_cons, List.length_cons, Rls.len b]
theorem Rls.at : ∀ {xs : List PV} {vs : List V} {i : Nat} {x : PV}, Rls K H μ xs vs → xs[i]? = some x → ∃ v, vs[i]? = some v ∧ Rl K H μ x v
  | _, _, _, _, .nil, h => by simp at h
  | _, _, 0, _, .cons a _, h => ⟨_, rfl, by have e := Option.some.inj h; subst e; exact a⟩
  | _, _, i + 1, _, .cons _ b, h => by
    obtain ⟨v, h1, h2⟩ := Rls.at (i := i) b (by simpa using h)
    exact ⟨v, by simpa using h1, h2⟩
theorem Rls.app : ∀ {xs ys : List PV} {vs ws : List V}, Rls K H μ xs vs → Rls K H μ ys ws → Rls K H μ (xs ++ ys) (vs ++ ws)
  | _, _, _, _, .nil, q => q
  | _, _, _, _, .cons a b, q => .cons a (Rls.app b q)
theorem Rls.take : ∀ {xs : List PV} {vs : List V} (n : Nat), Rls K H μ xs vs → Rls K H μ (xs.take n) (vs.take n)
  | _, _, 0, _ => .nil
  | _, _, _ + 1, .nil => .nil
  | _, _, n + 1, .cons a b => .cons a (Rls.take n b)
theorem Rls.drop : ∀ {xs : List PV} {vs : List V} (n : Nat), Rls K H μ xs vs → Rls K H μ (xs.drop n) (vs.drop n)
  | _, _, 0, q => q
  | _, _, _ + 1, .nil => .nil
  | _, _, n + 1, .cons _ b => Rls.drop n b
theorem Rls.set {x : PV} {v : V} (r : Rl K H μ x v) : ∀ {xs : List PV} {vs : List V} (n : Nat), Rls K H μ xs vs → Rls K H μ (xs.set n x) (vs.set n v)
  | _, _, _, .nil => .nil
  | _, _, 0, .cons _ b => .cons r b
  | _, _, n + 1, .cons a b => .cons a (Rls.set r n b)
theorem Rls.rev : ∀ {xs : List PV} {vs : List V}, Rls K H μ xs vs → Rls K H μ xs.reverse vs.reverse
  | _, _, .nil => .nil
  | _, _, .cons a b => by
    rw [List.reverse_cons, List.reverse_cons]
    exact (Rls.rev b).app (.cons a .nil)
theorem Rls.ints : ∀ ns : List Int, Rls K H μ (ns.map PV.int) (ns.map V.int)
  | [] => .nil
  | n :: r => .cons (.int n) (Rls.ints r)
theorem Rls.snoc {xs : List PV} {vs : List V} {x : PV} {v : V} (a : Rls K H μ xs vs) (b : Rl K H μ x v) : Rls K H μ (xs ++ [x]) (vs ++ [v]) := a.app (.cons b .nil)
end

/-! ### the whole state -/
/-- the pairs of a dict -/
inductive KRl (K : PySem.W.Frag) (H : Hp) (μ : List Addr) {κ : Type} : List (κ × PV) → List (κ × V) → Prop
  | nil : KRl K H μ [] []
  | cons {k : κ} {x : PV} {v : V} {r : List (κ × PV)} {s : List (κ × V)} : Rl K H μ x v → KRl K H μ r s → KRl K H μ ((k, x) :: r) ((k, v) :: s)
theorem KRl.mono {K : PySem.W.Frag} {H H' : Hp} {μ μ' : List Addr} {κ : Type} (e : Ex μ H μ' H') : ∀ {r : List (κ × PV)} {s : List (κ × V)}, KRl K H μ r s → KRl K H' μ' r s
  | _, _, .nil => .nil
  | _, _, .cons a b => .cons (a.mono e) (KRl.mono e b)
/-- an object that may change, at its place -/
def OR (K : PySem.W.Frag) (H : Hp) (μ : List Addr) (a : Addr) : MO → Prop
  | .lst xs => ∃ vs, H a = some (.lst vs) ∧ Rls K H μ xs vs
  | .dK kvs => ∃ r, H a = some (.dK r) ∧ KRl K H μ kvs r
  | .dT kvs => ∃ r, H a = some (.dT r) ∧ KRl K H μ kvs r
/-- the objects that may change, and the tables of code objects -/
structure Wd (K : PySem.W.Frag) (tbs : List Addr) (μ : List Addr) (ph : PH) (H : Hp) : Prop where
  len : μ.length = ph.length
  nd : ∀ (i j : Nat) a, μ[i]? = some a → μ[j]? = some a → i = j
  ob : ∀ (n : Nat) a o, μ[n]? = some a → ph[n]? = some o → OR K H μ a o
  tb : ∀ P ∈ tbs, GxR.TabG H P
structure Sr (K : PySem.W.Frag) (H : Hp) (μ : List Addr) (ps : Sl) (σ : L2.St) : Prop where
  len : ps.length = σ.length
  at_ : ∀ (i : Nat) x, ps[i]? = some (some x) → ∃ v, σ[i]? = some (some v) ∧ Rl K H μ x v
theorem Sr.mono {K : PySem.W.Frag} {H H' : Hp} {μ μ' : List Addr} {ps : Sl} {σ : L2.St} (e : Ex μ H μ' H') (h : Sr K H μ ps σ) : Sr K H' μ' ps σ := ⟨h.len, fun i x q => by
  obtain ⟨v, h1, h2⟩ := h.at_ i x q
  exact ⟨v, h1, h2.mono e⟩⟩
theorem Sr.set {K : PySem.W.Frag} {H : Hp} {μ : List Addr} {ps : Sl} {σ : L2.St} {x : PV} {v : V} (h : Sr K H μ ps σ) (i : Nat) (r : Rl K H μ x v) : Sr K H μ (ps.set i (some x)) (σ.set i (some v)) := by
  refine ⟨by rw [List.length_set, List.length_set]; exact h.len, fun j y q => ?_⟩
  by_cases e : i = j
  · subst e
    have lt : i < ps.length := by
      have := (List.getElem?_eq_some_iff.mp q).1
      simpa using this
    rw [List.getElem?_set_self lt] at q
    have lt2 : i < σ.length := by rw [← h.len]; exact lt
    rw [List.getElem?_set_self lt2]
    cases q
    exact ⟨v, rfl, r⟩
  · rw [List.getElem?_set_ne e] at q
    rw [List.getElem?_set_ne e]
    exact h.at_ j y q
/-- the exception's class and its own dict -/
def ER (K : PySem.W.Frag) (mg : Str → Option Value) (H : Hp) (μ : List Addr) (e : PErr) (cls : Value) (d : Option Addr) : Prop :=
  mg e.cls = some cls ∧ (match e.fld with
    | none => d = none
    | some (f, x) => ∃ da v, d = some da ∧ H da = some (.xd [(f, v)]) ∧ Rl K H μ x v)
/-! ### judgements -/
/-- what stays the same for a law: the tables -/
structure Bs where
  K : PySem.W.Frag
  mg : Str → Option Value
  tbs : List Addr
section
variable (B : Bs) (W : WX)
/-- what is wanted of an outcome that came from μ, H at the slots σ -/
def OutOk {α β : Type} (rel : Hp → List Addr → α → β → Prop) (μ : List Addr) (H : Hp) (σ : L2.St) (o : Out α) (Q : β → Hp → Prop) : Prop := match o with
  | .ok x h => ∀ μ' H' v, Ex μ H μ' H' → Wd B.K B.tbs μ' h H' → rel H' μ' x v → Q v H'
  | .err e h => ∀ μ' H' cls d, Ex μ H μ' H' → Wd B.K B.tbs μ' h H' → ER B.K B.mg H' μ' e cls d → W cls d σ H'
  | .no => False
def OutSOk (μ : List Addr) (H : Hp) (o : OutS) (D : Ends) : Prop := match o with
  | .nx s h => ∀ μ' H' σ', Ex μ H μ' H' → Wd B.K B.tbs μ' h H' → Sr B.K H' μ' s σ' → D.nx σ' H'
  | .rt x h => ∀ μ' H' v, Ex μ H μ' H' → Wd B.K B.tbs μ' h H' → Rl B.K H' μ' x v → D.rt v H'
  | .bk s h => ∀ μ' H' σ', Ex μ H μ' H' → Wd B.K B.tbs μ' h H' → Sr B.K H' μ' s σ' → D.bk σ' H'
  | .ct s h => ∀ μ' H' σ', Ex μ H μ' H' → Wd B.K B.tbs μ' h H' → Sr B.K H' μ' s σ' → D.ct σ' H'
  | .err e s h => ∀ μ' H' σ' cls d, Ex μ H μ' H' → Wd B.K B.tbs μ' h H' → Sr B.K H' μ' s σ' → ER B.K B.mg H' μ' e cls d → W cls d σ' H'
  | .no => False
def tD (f : DE) : TE := fun σ H Q => ∃ μ ps ph, Sr B.K H μ ps σ ∧ Wd B.K B.tbs μ ph H ∧ OutOk B W (fun H' μ' => Rl B.K H' μ') μ H σ (f ps ph) Q
def tDT (f : DT) : TT := fun σ H Q => ∃ μ ps ph, Sr B.K H μ ps σ ∧ Wd B.K B.tbs μ ph H ∧ OutOk B W (fun _ _ (b c : Bool) => b = c) μ H σ (f ps ph) Q
def tDA (f : DA) : TA := fun σ H Q => ∃ μ ps ph, Sr B.K H μ ps σ ∧ Wd B.K B.tbs μ ph H ∧ OutOk B W (fun H' μ' => Rls B.K H' μ') μ H σ (f ps ph) Q
def tDS (f : DS) : TS := fun D σ H => ∃ μ ps ph, Sr B.K H μ ps σ ∧ Wd B.K B.tbs μ ph H ∧ OutSOk B W μ H (f ps ph) D
variable (X : Cx)
def JE (e : Expr) (f : DE) : Prop := PE X e (tD B W f)
def JT (e : Expr) (f : DT) : Prop := PT X e (tDT B W f)
def JW (e : Expr) (f : DT) : Prop := PW X e (tDT B W f)
def JA (es : List Expr) (f : DA) : Prop := PA X es (tDA B W f)
def JS (st : Stmt) (f : DS) : Prop := PS X st (tDS B W f)
def JSs (st : List Stmt) (f : DS) : Prop := PSs X st (tDS B W f)
end
section
variable {B : Bs} {W : WX} {α β : Type} {rel : Hp → List Addr → α → β → Prop} {μ μ' : List Addr} {H H' : Hp} {σ : L2.St}
theorem OutOk.ext {o : Out α} {Q : β → Hp → Prop} (h : OutOk B W rel μ H σ o Q) (e : Ex μ H μ' H') : OutOk B W rel μ' H' σ o Q := by
  cases o with
  | ok x ph => exact fun μ2 H2 v e2 => h μ2 H2 v (e.trans e2)
  | err x ph => exact fun μ2 H2 c d e2 => h μ2 H2 c d (e.trans e2)
  | no => exact h
theorem OutSOk.ext {o : OutS} {D : Ends} (h : OutSOk B W μ H o D) (e : Ex μ H μ' H') : OutSOk B W μ' H' o D := by
  cases o with
  | nx s ph => exact fun μ2 H2 v e2 => h μ2 H2 v (e.trans e2)
  | rt s ph => exact fun μ2 H2 v e2 => h μ2 H2 v (e.trans e2)
  | bk s ph => exact fun μ2 H2 v e2 => h μ2 H2 v (e.trans e2)
  | ct s ph => exact fun μ2 H2 v e2 => h μ2 H2 v (e.trans e2)
  | err x s ph => exact fun μ2 H2 v c d e2 => h μ2 H2 v c d (e.trans e2)
  | no => exact h
theorem OutOk.mono {o : Out α} {Q Q' : β → Hp → Prop} (h : OutOk B W rel μ H σ o Q) (k : ∀ v H, Q v H → Q' v H) : OutOk B W rel μ H σ o Q' := by
  cases o with
  | ok x ph => exact fun μ2 H2 v e2 w r => k _ _ (h μ2 H2 v e2 w r)
  | err x ph => exact h
  | no => exact h
end
/-- one after another: the second begins where the first ended -/
theorem OutOk.bind {B : Bs} {W : WX} {α β α' β' : Type} {rel : Hp → List Addr → α → β → Prop} {rel' : Hp → List Addr → α' → β' → Prop} {μ : List Addr} {H : Hp} {σ : L2.St} {o : Out α} {k : α → PH → Out α'} {Q' : β' → Hp → Prop} {Q : β → Hp → Prop}
    (h : OutOk B W rel' μ H σ (o.bind k) Q') (q : ∀ x ph μ' H' v, Ex μ H μ' H' → Wd B.K B.tbs μ' ph H' → rel H' μ' x v → OutOk B W rel' μ' H' σ (k x ph) Q' → Q v H') : OutOk B W rel μ H σ o Q := by
  cases o with
  | ok x ph => exact fun μ' H' v e w r => q x ph μ' H' v e w r (OutOk.ext h e)
  | err x ph => exact h
  | no => exact h
theorem PE_imp {X : Cx} {e : Expr} {t t' : TE} (h : PE X e t) (k : ∀ σ H Q, t' σ H Q → t σ H Q) : PE X e t' := ⟨fun pins s σ H Q I q => h.run pins s σ H Q I (k σ H Q q)⟩
theorem PT_imp {X : Cx} {e : Expr} {t t' : TT} (h : PT X e t) (k : ∀ σ H Q, t' σ H Q → t σ H Q) : PT X e t' := ⟨fun pins s σ H Q I q => h.run pins s σ H Q I (k σ H Q q)⟩
theorem PW_imp {X : Cx} {e : Expr} {t t' : TT} (h : PW X e t) (k : ∀ σ H Q, t' σ H Q → t σ H Q) : PW X e t' := ⟨fun wh pins s σ H Q I q => h.run wh pins s σ H Q I (k σ H Q q)⟩
theorem PA_imp {X : Cx} {e : List Expr} {t t' : TA} (h : PA X e t) (k : ∀ σ H Q, t' σ H Q → t σ H Q) : PA X e t' := ⟨fun p pins s σ H Q I q => h.run p pins s σ H Q I (k σ H Q q)⟩
theorem PS_imp {X : Cx} {e : Stmt} {t t' : TS} (h : PS X e t) (k : ∀ D σ H, t' D σ H → t D σ H) : PS X e t' := ⟨fun pins s σ H D I q => h.run pins s σ H D I (k D σ H q)⟩
theorem PSs_imp {X : Cx} {e : List Stmt} {t t' : TS} (h : PSs X e t) (k : ∀ D σ H, t' D σ H → t D σ H) : PSs X e t' := ⟨fun pins s σ H D I q => h.run pins s σ H D I (k D σ H q)⟩
end Dn
namespace Dn
open PySem PySem.Spec PyProof.Rows L2 PySem.SeqAt
abbrev bs (X : Cx) (tbs : List Addr) : Bs := ⟨X.K, X.mg, tbs⟩
abbrev F2 := PV → PV → PH → Option (PV × PH)
abbrev F1 := PV → PH → Option (PV × PH)
abbrev FN := List PV → PH → Option (PV × PH)
def Out.of {α : Type} : Option (α × PH) → Out α
  | some (x, h) => .ok x h
  | none => .no
@[simp] theorem Out.of_some {α : Type} (x : α) (h : PH) : Out.of (some (x, h)) = .ok x h := rfl
@[simp] theorem Out.of_none {α : Type} : Out.of (none : Option (α × PH)) = .no := rfl
/-- what is wanted of a value that an operator makes -/
def OutN (B : Bs) (μ : List Addr) (H : Hp) (o : Option (PV × PH)) (Q : VK) : Prop := match o with
  | some (x, h) => ∀ μ' H' v, Ex μ H μ' H' → Wd B.K B.tbs μ' h H' → Rl B.K H' μ' x v → Q v H'
  | none => False
theorem OutOk.op {B : Bs} {W : WX} {μ : List Addr} {H : Hp} {σ : L2.St} {o : Option (PV × PH)} {Q : VK} (h : OutOk B W (fun H' μ' => Rl B.K H' μ') μ H σ (Out.of o) Q) : OutN B μ H o Q := by
  cases o with
  | some p => exact h
  | none => exact h
/-- the value itself, the heap as it was -/
theorem OutN.val {B : Bs} {μ : List Addr} {ph : PH} {H : Hp} {x : PV} {v : V} {Q : VK} (q : OutN B μ H (some (x, ph)) Q) (wd : Wd B.K B.tbs μ ph H) (r : Rl B.K H μ x v) : Q v H := q μ H v Ex.refl wd r
section
variable {K : PySem.W.Frag} {tbs : List Addr} {μ : List Addr} {ph : PH} {H : Hp}
theorem Ex.new {p : Addr} (hp : H p = none) (o : HO) : Ex μ H μ (upd H p o) := ⟨fun _ _ h => h, fun a xs h => by rw [upd_ne (ne_of_none h hp)]; exact h, fun a ob u h => by rw [upd_ne (ne_of_none h hp)]; exact h⟩
theorem Ex.grow {p : Addr} (hp : H p = none) (o : HO) : Ex μ H (μ ++ [p]) (upd H p o) := ⟨fun n a h => by
    have lt := (List.getElem?_eq_some_iff.mp h).1
    rw [List.getElem?_append_left lt]
    exact h, (Ex.new (μ := μ) hp o).tup, (Ex.new (μ := μ) hp o).frz⟩
theorem Ex.put {p : Addr} {o u : HO} (hp : H p = some o) (ht : ∀ xs, o ≠ .tup xs) (hf : ∀ b w, o ≠ .frz b w) : Ex μ H μ (upd H p u) := ⟨fun _ _ h => h, fun a xs h => by
    rw [upd_ne fun e => ht xs (by rw [e, hp] at h; exact Option.some.inj h)]
    exact h, fun a ob w h => by
    rw [upd_ne fun e => hf ob w (by rw [e, hp] at h; exact Option.some.inj h)]
    exact h⟩
theorem OR.frame {H' : Hp} {μ' : List Addr} {a : Addr} {o : MO} (e : Ex μ H μ' H') (ha : H' a = H a) (h : OR K H μ a o) : OR K H' μ' a o := by
  cases o with
  | lst xs =>
    obtain ⟨vs, h1, h2⟩ := h
    exact ⟨vs, ha.trans h1, h2.mono e⟩
  | dK kvs =>
    obtain ⟨r, h1, h2⟩ := h
    exact ⟨r, ha.trans h1, h2.mono e⟩
  | dT kvs =>
    obtain ⟨r, h1, h2⟩ := h
    exact ⟨r, ha.trans h1, h2.mono e⟩
theorem OR.there {a : Addr} {o : MO} (h : OR K H μ a o) : ∃ u, H a = some u ∧ (∀ xs, u ≠ .tup xs) ∧ (∀ b w, u ≠ .frz b w) ∧ ∀ ps, u ≠ .tbl ps := by
  cases o with
  | lst xs =>
    obtain ⟨vs, h1, _⟩ := h
    exact ⟨_, h1, (by intro _ z; cases z), (by intro _ _ z; cases z), (by intro _ z; cases z)⟩
  | dK kvs =>
    obtain ⟨r, h1, _⟩ := h
    exact ⟨_, h1, (by intro _ z; cases z), (by intro _ _ z; cases z), (by intro _ z; cases z)⟩
  | dT kvs =>
    obtain ⟨r, h1, _⟩ := h
    exact ⟨_, h1, (by intro _ z; cases z), (by intro _ _ z; cases z), (by intro _ z; cases z)⟩
theorem Wd.obj (w : Wd K tbs μ ph H) {n : Nat} {o : MO} (h : ph[n]? = some o) : ∃ a, μ[n]? = some a ∧ OR K H μ a o := by
  have lt : n < μ.length := by
    rw [w.len]
    exact (List.getElem?_eq_some_iff.mp h).1
  exact ⟨μ[n], List.getElem?_eq_getElem lt, w.ob n _ o (List.getElem?_eq_getElem lt) h⟩
theorem Wd.there (w : Wd K tbs μ ph H) {n : Nat} {a : Addr} (h : μ[n]? = some a) : ∃ o, ph[n]? = some o ∧ OR K H μ a o := by
  have lt : n < ph.length := by
    rw [← w.len]
    exact (List.getElem?_eq_some_iff.mp h).1
  exact ⟨ph[n], List.getElem?_eq_getElem lt, w.ob n a _ h (List.getElem?_eq_getElem lt)⟩
theorem Wd.apart (w : Wd K tbs μ ph H) {n : Nat} {a p : Addr} (h : μ[n]? = some a) (hp : H p = none) : a ≠ p := by
  obtain ⟨o, _, r⟩ := w.there h
  obtain ⟨u, hu, _⟩ := r.there
  exact ne_of_none hu hp
/-- a new object that cannot change -/
theorem Wd.new (w : Wd K tbs μ ph H) {p : Addr} (hp : H p = none) (o : HO) : Wd K tbs μ ph (upd H p o) where
  len := w.len
  nd := w.nd
  ob := fun n a u h1 h2 => (w.ob n a u h1 h2).frame (Ex.new hp o) (upd_ne (w.apart h1 hp))
  tb := fun P hP => by
    obtain ⟨ps, h1, h2⟩ := w.tb P hP
    exact ⟨ps, by rw [upd_ne (ne_of_none h1 hp)]; exact h1, h2⟩
/-- a new object that may change -/
theorem Wd.grow (w : Wd K tbs μ ph H) {p : Addr} (hp : H p = none) {o : HO} {m : MO} (r : OR K (upd H p o) (μ ++ [p]) p m) : Wd K tbs (μ ++ [p]) (ph ++ [m]) (upd H p o) where
  len := by rw [List.length_append, List.length_append, w.len]; rfl
  nd := fun i j a h1 h2 => by
    have key : ∀ (k : Nat) b, (μ ++ [p])[k]? = some b → (k < μ.length ∧ μ[k]? = some b) ∨ (k = μ.length ∧ b = p) := fun k b h => by
      by_cases lt : k < μ.length
      · rw [List.getElem?_append_left lt] at h
        exact .inl ⟨lt, h⟩
      · rw [List.getElem?_append_right (by omega)] at h
        have z := (List.getElem?_eq_some_iff.mp h).1
        have e : k = μ.length := by simp at z; omega
        subst e
        simp at h
        exact .inr ⟨rfl, h.symm⟩
    rcases key i a h1 with ⟨l1, q1⟩ | ⟨e1, z1⟩ <;> rcases key j a h2 with ⟨l2, q2⟩ | ⟨e2, z2⟩
    · exact w.nd i j a q1 q2
    · exact absurd z2 (w.apart q1 hp)
    · exact absurd z1 (w.apart q2 hp)
    · omega
  ob := fun n a u h1 h2 => by
    by_cases lt : n < μ.length
    · rw [List.getElem?_append_left lt] at h1
      rw [List.getElem?_append_left (by rw [← w.len]; exact lt)] at h2
      exact (w.ob n a u h1 h2).frame (Ex.grow hp o) (upd_ne (w.apart h1 hp))
    · rw [List.getElem?_append_right (by omega)] at h1
      rw [List.getElem?_append_right (by rw [← w.len]; omega)] at h2
      have z := (List.getElem?_eq_some_iff.mp h1).1
      have e : n - μ.length = 0 := by simp at z; omega
      have e2 : n - ph.length = 0 := by rw [← w.len]; exact e
      rw [e] at h1
      rw [e2] at h2
      cases h1
      cases h2
      exact r
  tb := (w.new hp o).tb
/-- an object changes -/
theorem Wd.put (w : Wd K tbs μ ph H) {n : Nat} {a : Addr} (h : μ[n]? = some a) {o : HO} {m : MO} (r : OR K (upd H a o) μ a m) : Wd K tbs μ (ph.set n m) (upd H a o) ∧ Ex μ H μ (upd H a o) := by
  obtain ⟨m0, h0, r0⟩ := w.there h
  obtain ⟨u, hu, nt, nf, nb⟩ := r0.there
  have e : Ex μ H μ (upd H a o) := Ex.put hu nt nf
  refine ⟨⟨by rw [List.length_set]; exact w.len, w.nd, fun k b v h1 h2 => ?_, fun P hP => ?_⟩, e⟩
  · by_cases z : n = k
    · subst z
      rw [h] at h1
      cases h1
      rw [List.getElem?_set_self (List.getElem?_eq_some_iff.mp h0).1] at h2
      cases h2
      exact r
    · rw [List.getElem?_set_ne z] at h2
      refine (w.ob k b v h1 h2).frame e (upd_ne fun q => z ?_)
      subst q
      exact w.nd n k b h h1
  · obtain ⟨ps, h1, h2⟩ := w.tb P hP
    refine ⟨ps, ?_, h2⟩
    rw [upd_ne fun q => nb ps (by rw [q, hu] at h1; exact Option.some.inj h1)]
    exact h1
end

/-! ### names and constants -/
def eC (x : PV) : DE := fun _ h => .ok x h
def eVar (i : Nat) : DE := fun s h => match s[i]? with
  | some (some v) => .ok v h
  | _ => .no
section
variable {tbs : List Addr} {W : WX} {X : Cx} {pos : Pos}
theorem j_c {e : Expr} {x : PV} {v : V} (h : PE X e (tC v)) (r : ∀ H μ, Rl X.K H μ x v) : JE (bs X tbs) W X e (eC x) := PE_imp h fun σ H Q ⟨μ, ps, ph, sr, wd, ok⟩ => ok μ H v Ex.refl wd (r _ _)
theorem j_int {i : Int} {j} : JE (bs X tbs) W X (.Constant (.int i) j pos) (eC (.int i)) := j_c pe_int fun _ _ => .int i
theorem j_bl {i : Bool} {j} : JE (bs X tbs) W X (.Constant (.bool i) j pos) (eC (.bl i)) := j_c pe_bl fun _ _ => .bl i
theorem j_non {j} : JE (bs X tbs) W X (.Constant .none j pos) (eC .non) := j_c pe_non fun _ _ => .non
theorem j_str {x : Str} {j} : JE (bs X tbs) W X (.Constant (.str x) j pos) (eC (.str x)) := j_c pe_str fun _ _ => .str x
theorem j_var (i : Nat) {x : Str} (hN : X.N[i]? = some x := by rfl) (hv : Vis X.env.scope x := by first | exact Or.inl rfl | exact Or.inr (Or.inl rfl) | exact Or.inr (Or.inr rfl)) (hd : (x == ("__debug__" : Str)) = false := by decide)
    (hcd : (x == ("__classdict__" : Str)) = false := by decide) : JE (bs X tbs) W X (.Name x pos) (eVar i) := PE_imp (pv i hN hv hd hcd) fun σ H Q ⟨μ, ps, ph, sr, wd, ok⟩ => by
  unfold eVar at ok
  split at ok
  · rename_i v e
    obtain ⟨u, h1, h2⟩ := sr.at_ i v e
    exact ⟨u, h1, ok μ H u Ex.refl wd h2⟩
  · exact ok.elim
/-- a constant of the module -/
theorem j_glob {x : Str} {px : PV} {v : V} {u : Value} (hg : Gl X x) (hm : X.mg x = some u) (rv : RelV v u) (r : ∀ H μ, Rl X.K H μ px v) (hd : (x == ("__debug__" : Str)) = false := by decide) : JE (bs X tbs) W X (.Name x pos) (eC px) := j_c (pe_glob hg hm rv hd) r

/-! ### operators -/
def rP (B : Bs) (f : F2) : R2 := fun x y H Q => ∃ μ ph px py, Wd B.K B.tbs μ ph H ∧ Rl B.K H μ px x ∧ Rl B.K H μ py y ∧ OutN B μ H (f px py ph) Q
def rP1 (B : Bs) (f : F1) : V → Hp → VK → Prop := fun x H Q => ∃ μ ph px, Wd B.K B.tbs μ ph H ∧ Rl B.K H μ px x ∧ OutN B μ H (f px ph) Q
def rPN (B : Bs) (f : FN) : List V → Hp → VK → Prop := fun xs H Q => ∃ μ ph ps, Wd B.K B.tbs μ ph H ∧ Rls B.K H μ ps xs ∧ OutN B μ H (f ps ph) Q
def eOp (f : F2) (a b : DE) : DE := fun s h => (a s h).bind fun x h => (b s h).bind fun y h => Out.of (f x y h)
def eUn (f : F1) (a : DE) : DE := fun s h => (a s h).bind fun x h => Out.of (f x h)
def eCall (f : FN) (a : DA) : DE := fun s h => (a s h).bind fun xs h => Out.of (f xs h)
theorem j_op2 {fa fb : DE} {f : F2} {r : R2} {σ : L2.St} {H : Hp} {Q : VK} (hr : ∀ x y H Q, rP (bs X tbs) f x y H Q → r x y H Q) (h : tD (bs X tbs) W (eOp f fa fb) σ H Q) :
    tOp r (tD (bs X tbs) W fa) (tD (bs X tbs) W fb) σ H Q := by
  obtain ⟨μ, ps, ph, sr, wd, ok⟩ := h
  refine ⟨μ, ps, ph, sr, wd, OutOk.bind ok fun x ph1 μ1 H1 v e1 w1 r1 ok1 => ⟨μ1, ps, ph1, sr.mono e1, w1, OutOk.bind ok1 fun y ph2 μ2 H2 u e2 w2 r2 ok2 => hr _ _ _ _ ⟨μ2, ph2, x, y, w2, r1.mono e2, r2, ok2.op⟩⟩⟩
theorem j_op {op : Operator} {a b : Expr} {fa fb : DE} {f : F2} (ho : OpR X (binaryOp op) (rP (bs X tbs) f)) (ha : JE (bs X tbs) W X a fa) (hb : JE (bs X tbs) W X b fb) : JE (bs X tbs) W X (.BinOp a op b pos) (eOp f fa fb) :=
  PE_imp (pe_op ho ha hb) fun σ H Q h => j_op2 (fun _ _ _ _ q => q) h
theorem j_cmp {op : CmpOp} {a b : Expr} {fa fb : DE} {f : F2} (ho : OpR X (compareOp op) (rP (bs X tbs) f)) (ha : JE (bs X tbs) W X a fa) (hb : JE (bs X tbs) W X b fb) (hm : behindInMarks op b = false := by first | exact nomark _ | rfl) : JE (bs X tbs) W X (.Compare a [op] [b] pos) (eOp f fa fb) :=
  PE_imp (pe_cmpR ho ha hb hm) fun σ H Q h => j_op2 (fun _ _ _ _ q => q) h
theorem j_un {op : UnaryOp} {a : Expr} {fa : DE} {f : F1} (ho : UnR X (unaryOp op) (rP1 (bs X tbs) f)) (ha : JE (bs X tbs) W X a fa) : JE (bs X tbs) W X (.UnaryOp op a pos) (eUn f fa) :=
  PE_imp (pe_un ho ha) fun σ H Q ⟨μ, ps, ph, sr, wd, ok⟩ => ⟨μ, ps, ph, sr, wd, OutOk.bind ok fun x ph1 μ1 H1 v e1 w1 r1 ok1 => ⟨μ1, ph1, x, w1, r1, ok1.op⟩⟩
theorem j_ix {a b : Expr} {fa fb : DE} {f : F2} (ho : IxR X (rP (bs X tbs) f)) (ha : JE (bs X tbs) W X a fa) (hb : JE (bs X tbs) W X b fb) (hs : PlainIx b := by exact fun _ _ => rfl) : JE (bs X tbs) W X (.Subscript a b pos) (eOp f fa fb) :=
  PE_imp (pe_ix ho ha hb hs) fun σ H Q h => j_op2 (fun _ _ _ _ q => q) h

/-! ### argument lists, displays -/
def eNil : DA := fun _ h => .ok [] h
def eCons (a : DE) (r : DA) : DA := fun s h => (a s h).bind fun x h => (r s h).bind fun xs h => .ok (x :: xs) h
theorem j_nil : JA (bs X tbs) W X [] eNil := PA_imp pa_nil fun σ H Q ⟨μ, ps, ph, sr, wd, ok⟩ => ok μ H [] Ex.refl wd .nil
theorem j_cons {e : Expr} {es : List Expr} {f : DE} {g : DA} (he : JE (bs X tbs) W X e f) (hr : JA (bs X tbs) W X es g) (hs : starEach (e :: es) X.env = (false, eval e X.env) :: starEach es X.env := by rfl) : JA (bs X tbs) W X (e :: es) (eCons f g) :=
  PA_imp (pa_cons he hr hs) fun σ H Q ⟨μ, ps, ph, sr, wd, ok⟩ => ⟨μ, ps, ph, sr, wd, OutOk.bind ok fun x ph1 μ1 H1 v e1 w1 r1 ok1 => ⟨μ1, ps, ph1, sr.mono e1, w1,
    OutOk.bind ok1 fun xs ph2 μ2 H2 vs e2 w2 r2 ok2 => ok2 μ2 H2 _ Ex.refl w2 (.cons (r1.mono e2) r2)⟩⟩
def eTup (a : DA) : DE := fun s h => (a s h).bind fun xs h => if xs.length ≤ sizeLine then .ok (.tup xs) h else .no
def eLst (a : DA) : DE := fun s h => (a s h).bind fun xs h => if xs.length ≤ sizeLine then .ok (.ref h.length) (h ++ [.lst xs]) else .no
theorem Wd.newTup {K : PySem.W.Frag} {μ : List Addr} {ph : PH} {H : Hp} {p : Addr} {xs : List PV} {vs : List V} (w : Wd K tbs μ ph H) (r : Rls K H μ xs vs) (hp : H p = none) :
    Ex μ H μ (upd H p (.tup vs)) ∧ Wd K tbs μ ph (upd H p (.tup vs)) ∧ Rl K (upd H p (.tup vs)) μ (.tup xs) (.ref p) :=
  ⟨Ex.new hp _, w.new hp _, .tup upd_same (r.mono (Ex.new hp _))⟩
theorem Wd.newLst {K : PySem.W.Frag} {μ : List Addr} {ph : PH} {H : Hp} {p : Addr} {xs : List PV} {vs : List V} (w : Wd K tbs μ ph H) (r : Rls K H μ xs vs) (hp : H p = none) :
    Ex μ H (μ ++ [p]) (upd H p (.lst vs)) ∧ Wd K tbs (μ ++ [p]) (ph ++ [.lst xs]) (upd H p (.lst vs)) ∧ Rl K (upd H p (.lst vs)) (μ ++ [p]) (.ref ph.length) (.ref p) :=
  ⟨Ex.grow hp _, w.grow hp ⟨vs, upd_same, r.mono (Ex.grow hp _)⟩, .ref (by rw [← w.len]; simp)⟩
theorem j_tup {es : List Expr} {f : DA} {k} (h : JA (bs X tbs) W X es f) : JE (bs X tbs) W X (.Tuple es k pos) (eTup f) := PE_imp (pe_tup h) fun σ H Q ⟨μ, ps, ph, sr, wd, ok⟩ => ⟨μ, ps, ph, sr, wd, OutOk.bind ok fun xs ph1 μ1 H1 vs e1 w1 r1 ok1 => by
  have l := r1.len
  split at ok1
  · rename_i hz
    refine ⟨by rw [← l]; exact hz, fun p hp => ?_⟩
    obtain ⟨a, b, c⟩ := w1.newTup r1 hp
    exact ok1 _ _ _ a b c
  · exact ok1.elim⟩
theorem j_lst {es : List Expr} {f : DA} (h : JA (bs X tbs) W X es f) : JE (bs X tbs) W X (.List es pos) (eLst f) := PE_imp (pe_lst h) fun σ H Q ⟨μ, ps, ph, sr, wd, ok⟩ => ⟨μ, ps, ph, sr, wd, OutOk.bind ok fun xs ph1 μ1 H1 vs e1 w1 r1 ok1 => by
  have l := r1.len
  split at ok1
  · rename_i hz
    refine ⟨by rw [← l]; exact hz, fun p hp => ?_⟩
    obtain ⟨a, b, c⟩ := w1.newLst r1 hp
    exact ok1 _ _ _ a b c
  · exact ok1.elim⟩

/-! ### tests -/
def tV (a : DE) : DT := fun s h => (a s h).bind fun x h => match x with
  | .bl b => .ok b h
  | _ => .no
def tAndD (a b : DT) : DT := fun s h => (a s h).bind fun c h => if c = true then b s h else .ok false h
def tOrD (a b : DT) : DT := fun s h => (a s h).bind fun c h => if c = true then .ok true h else b s h
def tNotD (a : DT) : DT := fun s h => (a s h).bind fun c h => .ok (!c) h
def eIf (c : DT) (a b : DE) : DE := fun s h => (c s h).bind fun c h => if c = true then a s h else b s h
/-- the same, a comparison -/
theorem j_tcmp {op : CmpOp} {a b : Expr} {fa fb : DE} {f : F2} (ho : OpR X (compareOp op) (rP (bs X tbs) f)) (ha : JE (bs X tbs) W X a fa) (hb : JE (bs X tbs) W X b fb) (hm : behindInMarks op b = false := by first | exact nomark _ | rfl) : JT (bs X tbs) W X (.Compare a [op] [b] pos) (tV (eOp f fa fb)) :=
  PT_imp (pt_cmpR (r := rP (bs X tbs) f) ho ha hb hm) fun σ H Q ⟨μ, ps, ph, sr, wd, ok⟩ => by
    show tOp _ _ _ _ _ _
    refine j_op2 (fun _ _ _ _ q => q) ⟨μ, ps, ph, sr, wd, ?_⟩
    refine OutOk.bind (k := fun x h => match x with | .bl b => .ok b h | _ => .no) ok fun x ph1 μ1 H1 v e1 w1 r1 ok1 => ?_
    cases r1 with
    | bl b => exact ⟨b, rfl, ok1 μ1 H1 b Ex.refl w1 rfl⟩
    | _ => exact ok1.elim
theorem j_wt {e : Expr} {f : DT} (h : JW (bs X tbs) W X e f) : JT (bs X tbs) W X e f := PW.pt h
theorem j_or1 {e : Expr} {f : DT} (h : JT (bs X tbs) W X e f) : JW (bs X tbs) W X (.BoolOp .Or [e] pos) f := pw_or1 h
theorem j_or {a b : Expr} {rest : List Expr} {f g : DT} (ha : JT (bs X tbs) W X a f) (hb : JW (bs X tbs) W X (.BoolOp .Or (b :: rest) pos) g) : JW (bs X tbs) W X (.BoolOp .Or (a :: b :: rest) pos) (tOrD f g) :=
  PW_imp (pw_or ha hb) fun σ H Q ⟨μ, ps, ph, sr, wd, ok⟩ => ⟨μ, ps, ph, sr, wd, OutOk.bind ok fun x ph1 μ1 H1 v e1 w1 r1 ok1 => by
    subst r1
    cases x with
    | true => exact ok1 μ1 H1 true Ex.refl w1 rfl
    | false => exact ⟨μ1, ps, ph1, sr.mono e1, w1, ok1⟩⟩
theorem j_not {a : Expr} {f : DT} (ha : JT (bs X tbs) W X a f) : JT (bs X tbs) W X (.UnaryOp .Not a pos) (tNotD f) :=
  PT_imp (pt_not ha) fun σ H Q ⟨μ, ps, ph, sr, wd, ok⟩ => ⟨μ, ps, ph, sr, wd, OutOk.bind ok fun x ph1 μ1 H1 v e1 w1 r1 ok1 => by
    subst r1
    exact ok1 μ1 H1 _ Ex.refl w1 rfl⟩
theorem j_if {c a b : Expr} {f : DT} {g h : DE} (hc : JT (bs X tbs) W X c f) (ha : JE (bs X tbs) W X a g) (hb : JE (bs X tbs) W X b h) : JE (bs X tbs) W X (.IfExp c a b pos) (eIf f g h) :=
  PE_imp (pe_ifExp hc ha hb) fun σ H Q ⟨μ, ps, ph, sr, wd, ok⟩ => ⟨μ, ps, ph, sr, wd, OutOk.bind ok fun x ph1 μ1 H1 v e1 w1 r1 ok1 => by
    subst r1
    cases x with
    | true => exact ⟨μ1, ps, ph1, sr.mono e1, w1, ok1⟩
    | false => exact ⟨μ1, ps, ph1, sr.mono e1, w1, ok1⟩⟩
/-- a and b, a or b, not a as values, all of them True or False -/
def eAnd (a b : DE) : DE := fun s h => (a s h).bind fun x h => match x with
  | .bl true => b s h
  | .bl false => .ok (.bl false) h
  | _ => .no
def eOr (a b : DE) : DE := fun s h => (a s h).bind fun x h => match x with
  | .bl true => .ok (.bl true) h
  | .bl false => b s h
  | _ => .no
def eNot (a : DE) : DE := fun s h => (a s h).bind fun x h => match x with
  | .bl c => .ok (.bl (!c)) h
  | _ => .no
theorem j_one {op} {a : Expr} {f : DE} (h : JE (bs X tbs) W X a f) : JE (bs X tbs) W X (.BoolOp op [a] pos) f := pe_one h
theorem j_andV {a b : Expr} {rest : List Expr} {f g : DE} (ha : JE (bs X tbs) W X a f) (hb : JE (bs X tbs) W X (.BoolOp .And (b :: rest) pos) g) : JE (bs X tbs) W X (.BoolOp .And (a :: b :: rest) pos) (eAnd f g) :=
  PE_imp (pe_and ha hb) fun σ H Q ⟨μ, ps, ph, sr, wd, ok⟩ => ⟨μ, ps, ph, sr, wd, OutOk.bind ok fun x ph1 μ1 H1 v e1 w1 r1 ok1 => by
    cases r1 with
    | bl b =>
      cases b with
      | true => exact ⟨true, rfl, iteT ⟨μ1, ps, ph1, sr.mono e1, w1, ok1⟩⟩
      | false => exact ⟨false, rfl, iteF (ok1 μ1 H1 _ Ex.refl w1 (.bl false))⟩
    | _ => exact ok1.elim⟩
theorem j_notV {a : Expr} {f : DE} (ha : JE (bs X tbs) W X a f) : JE (bs X tbs) W X (.UnaryOp .Not a pos) (eNot f) :=
  PE_imp (pe_not ha) fun σ H Q ⟨μ, ps, ph, sr, wd, ok⟩ => ⟨μ, ps, ph, sr, wd, OutOk.bind ok fun x ph1 μ1 H1 v e1 w1 r1 ok1 => by
    cases r1 with
    | bl b => exact ⟨b, rfl, ok1 μ1 H1 _ Ex.refl w1 (.bl _)⟩
    | _ => exact ok1.elim⟩

/-! ### calls of built-ins by name -/
theorem j_callB {f : FN} {id : String} {x : Str} {e : Expr} {es : List Expr} {g : DA} {p : Pos} (hc : CallR X (.builtin id) (rPN (bs X tbs) f)) (hg : Gl X x) (hm : X.mg x = none) (hv : bootBuiltins x = some (.builtin id)) (ha : JA (bs X tbs) W X (e :: es) g)
    (hn : x ≠ "__name__" := by decide) (hdb : (x == ("__debug__" : Str)) = false := by decide)
    (he : starEach (e :: es) X.env = (false, eval e X.env) :: starEach es X.env := by rfl) (hpl : (backTo pos (starEach es X.env)).any (·.1) = false := by rfl) : JE (bs X tbs) W X (.Call (.Name x p) (e :: es) [] pos) (eCall f g) :=
  PE_imp (pe_callB hc hg hm hv ha hn hdb he hpl) fun σ H Q ⟨μ, ps, ph, sr, wd, ok⟩ => ⟨μ, ps, ph, sr, wd, OutOk.bind ok fun x ph1 μ1 H1 v e1 w1 r1 ok1 => ⟨μ1, ph1, x, w1, r1, ok1.op⟩⟩
theorem j_callTy {f : FN} {T : String} {x : Str} {e : Expr} {es : List Expr} {g : DA} {p : Pos} (hc : CallR X (.type T) (rPN (bs X tbs) f)) (hg : Gl X x) (hm : X.mg x = none) (hv : bootBuiltins x = some (.type T)) (ha : JA (bs X tbs) W X (e :: es) g)
    (hn : x ≠ "__name__" := by decide) (hdb : (x == ("__debug__" : Str)) = false := by decide)
    (he : starEach (e :: es) X.env = (false, eval e X.env) :: starEach es X.env := by rfl) (hpl : (backTo pos (starEach es X.env)).any (·.1) = false := by rfl) : JE (bs X tbs) W X (.Call (.Name x p) (e :: es) [] pos) (eCall f g) :=
  PE_imp (pe_callTy hc hg hm hv ha hn hdb he hpl) fun σ H Q ⟨μ, ps, ph, sr, wd, ok⟩ => ⟨μ, ps, ph, sr, wd, OutOk.bind ok fun x ph1 μ1 H1 v e1 w1 r1 ok1 => ⟨μ1, ph1, x, w1, r1, ok1.op⟩⟩
end
end Dn
namespace Dn
open PySem PySem.Spec PyProof.Rows L2 PySem.SeqAt

/-! ### a value as data -/
def allD (f : PV → Option PyData) : List PV → Option (List PyData)
  | [] => some []
  | x :: r => match f x, allD f r with
    | some d, some ds => some (d :: ds)
    | _, _ => none
def toD (ph : PH) : Nat → PV → Option PyData
  | 0, _ => none
  | n + 1, x => match x with
    | .non => some .none
    | .bl b => some (.bool b)
    | .int i => some (.int i)
    | .str z => some (.str z)
    | .tup xs => (allD (toD ph n) xs).map .tuple
    | .kt xs => (allD (toD ph n) xs).map .tuple
    | .fz _ => none
    | .ref k => match ph[k]? with
      | some (.lst xs) => (allD (toD ph n) xs).map .list
      | some (.dK [(.inr z, y)]) => (toD ph n y).map fun d => .dict [(.str z, d)]
      | _ => none
theorem allD_cons {f : PV → Option PyData} {x : PV} {r : List PV} {ds : List PyData} (h : allD f (x :: r) = some ds) : ∃ d es, ds = d :: es ∧ f x = some d ∧ allD f r = some es := by
  unfold allD at h
  split at h
  · rename_i d es h1 h2
    exact ⟨d, es, (Option.some.inj h).symm, h1, h2⟩
  · cases h
section
variable {X : Cx} {pins : List (Addr × Obj)} {σ : L2.St} {H : Hp} {s : Shared} {tbs : List Addr} {μ : List Addr} {ph : PH}
def ReadsOf (s : Shared) (H : Hp) (u : Value) (d : PyData) : Prop := ∃ as, Reads s.heap u d as ∧ ∀ b ∈ as, ∃ o, H b = some o
def ReadsOfs (s : Shared) (H : Hp) (us : List Value) (ds : List PyData) : Prop := ∃ as, ReadsAll s.heap us ds as ∧ ∀ b ∈ as, ∃ o, H b = some o
theorem Rls.reads {K : PySem.W.Frag} {f : PV → Option PyData} (hf : ∀ x d v u, f x = some d → Rl K H μ x v → RelV v u → ReadsOf s H u d) : ∀ {xs : List PV} {vs : List V} {us : List Value} {ds : List PyData}, allD f xs = some ds → Rls K H μ xs vs → Vals vs us → ReadsOfs s H us ds
  | [], _, _, _, h, r, rv => by
    cases r
    cases rv
    cases h
    exact ⟨_, ReadsAll.nil, fun b hb => absurd hb (by simp)⟩
  | x :: xs, _, _, _, h, r, rv => by
    obtain ⟨d, es, rfl, h1, h2⟩ := allD_cons h
    cases r with
    | cons r1 r2 =>
      cases rv with
      | cons v1 v2 =>
        obtain ⟨as, q1, k1⟩ := hf x d _ _ h1 r1 v1
        obtain ⟨bs, q2, k2⟩ := Rls.reads hf h2 r2 v2
        refine ⟨_, ReadsAll.cons q1 q2, fun b hb => ?_⟩
        rcases List.mem_append.mp hb with e | e
        · exact k1 b e
        · exact k2 b e
theorem Rl.reads (I : Inv X pins σ H s) (wd : Wd X.K tbs μ ph H) : ∀ (n : Nat) (x : PV) (d : PyData) (v : V) (u : Value), toD ph n x = some d → Rl X.K H μ x v → RelV v u → ReadsOf s H u d := by
  intro n
  induction n with
  | zero =>
    intro x d v u h
    cases h
  | succ n ih =>
    intro x d v u h r rv
    unfold toD at h
    cases r with
    | non =>
      cases h
      cases rv
      exact ⟨_, Reads.none, fun b hb => absurd hb (by simp)⟩
    | bl b =>
      cases h
      cases rv
      exact ⟨_, Reads.bool b, fun b hb => absurd hb (by simp)⟩
    | int i =>
      cases h
      obtain ⟨t, rfl⟩ := rv
      exact ⟨_, Reads.int i t, fun b hb => absurd hb (by simp)⟩
    | str z =>
      cases h
      obtain ⟨t, rfl⟩ := rv
      exact ⟨_, Reads.str z t, fun b hb => absurd hb (by simp)⟩
    | fz _ _ => cases h
    | @tup a vs xs ht ra =>
      cases e : allD (toD ph n) xs with
      | none =>
        simp only [e] at h
        cases h
      | some ds =>
        simp only [e] at h
        cases h
        cases rv
        obtain ⟨its, rv2, ⟨o, ho, hc, k, hd⟩, _⟩ := I.tuple (SqT.of ht)
        obtain ⟨as, q, kk⟩ := Rls.reads ih e ra rv2
        exact ⟨_, Reads.tuple ho hc hd q, kk⟩
    | @kt a vs xs ht ra =>
      cases e : allD (toD ph n) xs with
      | none =>
        simp only [e] at h
        cases h
      | some ds =>
        simp only [e] at h
        cases h
        cases rv
        obtain ⟨its, rv2, ⟨o, ho, hc, k, hd⟩, _⟩ := I.tuple (.inr ht)
        obtain ⟨as, q, kk⟩ := Rls.reads ih e ra rv2
        exact ⟨_, Reads.tuple ho hc hd q, kk⟩
    | @ref k a hk =>
      cases rv
      obtain ⟨o, ho, hor⟩ := wd.there hk
      simp only [ho] at h
      cases o with
      | lst xs =>
        obtain ⟨vs, hs, ra⟩ := hor
        cases e : allD (toD ph n) xs with
        | none =>
          simp only [e] at h
          cases h
        | some ds =>
          simp only [e] at h
          cases h
          obtain ⟨its, rv2, ⟨ob, m, ho2, hc, _, hd⟩, _⟩ := I.list (SqL.of hs)
          obtain ⟨as, q, kk⟩ := Rls.reads ih e ra rv2
          refine ⟨_, Reads.list ho2 hc hd q, fun b hb => ?_⟩
          rcases List.mem_cons.mp hb with z | z
          · rw [z]
            exact ⟨_, hs⟩
          · exact kk b z
      | dT kvs => cases h
      | dK kvs =>
        split at h
        · rename_i xs e
          cases e
        · rename_i z y e
          cases e
          cases e2 : toD ph n y with
          | none =>
            rw [e2] at h
            cases h
          | some d2 =>
            rw [e2] at h
            cases h
            obtain ⟨r, hs, hr⟩ := hor
            cases hr with
            | @cons _ x1 v1 r1 s1 hv hrest =>
              cases hrest
              obtain ⟨_, _, vs, kv, o, es, ep, ho2, hx, hd, hks, hp, _⟩ := (show ObjOk X.prog X.w H s.heap a (.dK [(.inr z, v1)]) from I.hok a _ hs)
              cases vs with
              | nil => cases kv
              | cons q0 qt =>
                cases kv with
                | cons r1 rt =>
                  cases rt
                  obtain ⟨k2, u2⟩ := q0
                  obtain ⟨e1, r2⟩ := r1
                  simp only at e1 r2
                  subst e1
                  obtain ⟨as, hr, hk⟩ := ih y d2 v1 u2 e2 hv r2
                  generalize hl : es.toList = el at hp
                  cases el with
                  | nil => cases hp
                  | cons e0 et =>
                    cases hp with
                    | cons i1 i2 i3 =>
                      cases i3
                      obtain ⟨t, ek⟩ := Value.isStrOf_shape (x := z) (v := e0.key) i1
                      refine ⟨a :: ([] ++ []) ++ (as ++ []), Reads.dict ho2 hx.1 hd ?_ ?_, fun b hb => ?_⟩
                      · rw [hl]
                        show ReadsAll s.heap [e0.key] [.str z] ([] ++ [])
                        rw [ek]
                        exact .cons (.str z t) .nil
                      · rw [hl]
                        show ReadsAll s.heap [e0.val] [d2] (as ++ [])
                        rw [show e0.val = u2 from i2]
                        exact .cons hr .nil
                      · simp only [List.append_nil, List.cons_append, List.nil_append, List.mem_cons] at hb
                        rcases hb with e | e
                        · rw [e]
                          exact ⟨_, hs⟩
                        · exact hk b e
        · cases h
end
end Dn
namespace Dn
open PySem PySem.Spec PyProof.Rows L2 PySem.SeqAt

/-! ### the operators, on values without addresses -/
def sizeOk (n : Nat) : Bool := decide (n ≤ 16777216)
theorem sizeOk_le {n : Nat} (h : sizeOk n = true) : n ≤ sizeLine := by
  rw [sizeLine_eq]
  exact of_decide_eq_true h
def opAdd : F2 := fun x y h => match x, y with
  | .int i, .int j => some (.int (i + j), h)
  | .str a, .str b => if sizeOk (a.length + b.length) then some (.str (a ++ b), h) else none
  | .tup xs, .tup ys => if sizeOk (xs.length + ys.length) then some (.tup (xs ++ ys), h) else none
  | .ref m, .ref n => match h[m]?, h[n]? with
    | some (.lst xs), some (.lst ys) => if sizeOk (xs.length + ys.length) then some (.ref h.length, h ++ [.lst (xs ++ ys)]) else none
    | _, _ => none
  | _, _ => none
def opSub : F2 := fun x y h => match x, y with
  | .int i, .int j => some (.int (i - j), h)
  | _, _ => none
def smallB (i : Int) : Bool := decide (-18446744073709551616 < i ∧ i < 18446744073709551616)
def opMul : F2 := fun x y h => match x, y with
  | .int i, .int j => if smallB i || smallB j then some (.int (i * j), h) else none
  | .tup xs, .int k => if decide (k = 1) then some (.tup xs, h) else if !xs.isEmpty && decide (2 ≤ k ∧ k ≤ 5000) && decide (xs.length ≤ 1000) then some (.tup (List.replicate k.toNat xs).flatten, h) else if !xs.isEmpty && decide (k = 0) then some (.tup [], h) else none
  | .ref m, .int k => match h[m]? with
    | some (.lst xs) => if decide (-5000 ≤ k ∧ k ≤ 5000) && decide (xs.length ≤ 1000) then some (.ref h.length, h ++ [.lst (List.replicate k.toNat xs).flatten]) else none
    | _ => none
  | _, _ => none
def opFdiv : F2 := fun x y h => match x, y with
  | .int i, .int j => if decide (j ≠ 0 ∧ j.natAbs < 1073741824) then some (.int (i.fdiv j), h) else none
  | _, _ => none
def opMod : F2 := fun x y h => match x, y with
  | .int i, .int j => if decide (j ≠ 0) then some (.int (i.fmod j), h) else none
  | _, _ => none
def powOk (i j : Int) : Bool := decide (0 ≤ j ∧ j ≤ 1000000 ∧ i.natAbs < 18446744073709551616)
def opPow : F2 := fun x y h => match x, y with
  | .int i, .int j => if powOk i j then some (.int (i ^ j.toNat), h) else none
  | _, _ => none
def opAnd : F2 := fun x y h => match x, y with
  | .int i, .int j => some (.int (Builtin.bitAnd i j), h)
  | _, _ => none
def opNeg : F1 := fun x h => match x with
  | .int i => some (.int (-i), h)
  | _ => none
def cmpI (p : Int → Int → Bool) : F2 := fun x y h => match x, y with
  | .int i, .int j => some (.bl (p i j), h)
  | _, _ => none
def opLt : F2 := cmpI fun i j => decide (i < j)
def opLe : F2 := cmpI fun i j => decide (i ≤ j)
def opGt : F2 := cmpI fun i j => decide (j < i)
def opGe : F2 := cmpI fun i j => decide (j ≤ i)
/-- equal, of two values -/
def eqV (h : PH) (x y : PV) : Option Bool := match x, y with
  | .str a, .str b => some (decide (a = b))
  | .int a, .int b => some (decide (a = b))
  | .bl a, .bl b => some (decide (a = b))
  | _, _ => match toD h 50 x, toD h 50 y with
    | some d, some e => if shaped d && shaped e then some (PyData.eqv d e) else none
    | _, _ => none
/-- what the lengths alone say -/
def lenB (h : PH) (x y : PV) : Option Bool := match x, y with
  | .ref m, .ref n => match h[m]?, h[n]? with
    | some (.lst xs), some (.lst ys) => if xs.length = ys.length then none else some false
    | _, _ => none
  | .tup xs, .tup [] => some (decide (xs = []))
  | _, _ => none
def strB (h : PH) (x y : PV) : Option Bool := match y, toD h 50 x with
  | .str b, some d => some (Rw.eqS d b)
  | _, _ => none
def eqB (h : PH) (x y : PV) : Option Bool := match lenB h x y with
  | some b => some b
  | none => match strB h x y with
    | some b => some b
    | none => eqV h x y
def opEq : F2 := fun x y h => (eqB h x y).map fun b => (.bl b, h)
def neB (h : PH) (x y : PV) : Option Bool := match y, toD h 50 x with
  | .str b, some d => some (!Rw.eqS d b)
  | _, _ => (eqB h x y).map fun b => !b
def opNe : F2 := fun x y h => (neB h x y).map fun b => (.bl b, h)
def anyO {α : Type} (f : α → Option Bool) : List α → Option Bool
  | [] => some false
  | y :: r => match f y, anyO f r with
    | some a, some b => some (a || b)
    | _, _ => none
def inStr (i j : Str) : Bool := !(Builtin.Str.occurrences j i 0 j.length 1).isEmpty
/-- the value of a key -/
def keyOf : PV → Option Key
  | .int i => some (.inl i)
  | .str x => some (.inr x)
  | _ => none
def keysOf : List PV → Option (List Key)
  | [] => some []
  | x :: r => match keyOf x, keysOf r with
    | some k, some ks => some (k :: ks)
    | _, _ => none
end Dn
namespace Dn
open PySem PySem.Spec PyProof.Rows L2 PySem.SeqAt
/-- a tuple once is the tuple itself -/
theorem tuple_mul1 (l : Addr) (items : Array Value) (n : Nat) (dd : Option Addr) (sl : Array (Option Value)) (u : Tok) :
    Meets (Builtin.«tuple.__mul__» ⟨[.ref l, .int 1 u], []⟩) (fun _ R s => s.heap.get? l = some { cls := .type "tuple", dict := dd, data := .seq items n, slots := sl } ∧ R (.ok (.ret (Value.ref l))) s) :=
  .of_wp fun prog w A R s h => by
    obtain ⟨hp, g, d, tk, os⟩ := s
    obtain ⟨hl, h⟩ := h
    have f1 := AutoSeq1.idx_int
    have c0 : (decide ((1 : Int) < -(2 ^ 63)) || decide ((1 : Int) ≥ 2 ^ 63)) = false := by decide
    have c1 : (items.isEmpty || (1 : Int) == 1) = true := by simp
    wp_walk using wpAny_loadPart' hl
    repeat (first
      | (refine wpAny_ite_false (decide_eq_false (by rw [c0]; exact Bool.false_ne_true)) ?_; wp_walk using wpAny_loadPart' hl)
      | (refine wpAny_ite_true (decide_eq_true (by rw [c1])) ?_; wp_walk using wpAny_loadPart' hl))
    exact ⟨_, rfl, h⟩
theorem op_rep1 {X : Cx} : OpR X (binaryOp .Mult) (fun x y H Q => ∃ l xs, x = .ref l ∧ y = .int 1 ∧ SqT X.K H l xs ∧ Q (.ref l) H) := by
  intro pins s σ H x y v u Q I rx ry h
  obtain ⟨l, xs, rfl, rfl, hT, q⟩ := h
  cases rx
  obtain ⟨t, rfl⟩ := ry
  obtain ⟨its, r, ⟨⟨cls, dd, data, sl⟩, ho, hc, n, hd⟩, hs⟩ := I.tuple hT
  simp only at hc hd
  subst hc hd
  refine wpAny_binaryOp_repeat_ref (T := "tuple") (U := "int") (by decide) ⟨_, ho, rfl⟩ (fun s' => typeIs_int s' 1 t) noFill_tuple_mul F.fills_int_mul F.slot_int_rmul repeat_tuple F.slot_int_index.lookup
    (call_meets F.slot_int_rmul (typeIs_int s 1 t) F.entry_int_rmul (F.args_int_rmul_2 _ _) (int_rmul_tuple 1 t l its.toArray n dd sl)
      ⟨ho, rfl, ⟨_, ho, rfl⟩, call_meets F.slot_tuple_mul ⟨_, ho, rfl⟩ F.entry_tuple_mul (F.args_tuple_mul_2 _ _) (tuple_mul1 l its.toArray n dd sl t) ⟨ho, ?_⟩⟩)
  exact ⟨.ref l, H, I, rfl, q⟩
/-- a tuple no times is an empty one -/
theorem tuple_mul0 (l : Addr) (items : Array Value) (n : Nat) (dd : Option Addr) (sl : Array (Option Value)) (u : Tok) (ne : items.isEmpty = false) :
    Meets (Builtin.«tuple.__mul__» ⟨[.ref l, .int 0 u], []⟩) (fun _ R s => s.heap.get? l = some { cls := .type "tuple", dict := dd, data := .seq items n, slots := sl } ∧
      R (.ok (.ret (Value.ref s.heap.objs.size))) { s with heap := s.heap.push { cls := Value.type "tuple", data := Data.seq #[] }, toks := s.toks }) :=
  .of_wp fun prog w A R s h => by
    obtain ⟨hp, g, d, tk, os⟩ := s
    obtain ⟨hl, h⟩ := h
    have f1 := AutoSeq1.idx_int
    have c0 : (decide ((0 : Int) < -(2 ^ 63)) || decide ((0 : Int) ≥ 2 ^ 63)) = false := by decide
    have c1 : (items.isEmpty || (0 : Int) == 1) = false := by rw [ne]; rfl
    have c2 : (decide ((0 : Int) ≤ 0) || items.isEmpty) = true := by rw [ne]; rfl
    wp_walk using wpAny_loadPart' hl
    repeat (first
      | (refine wpAny_ite_false (decide_eq_false (by rw [c0]; exact Bool.false_ne_true)) ?_; wp_walk using wpAny_loadPart' hl)
      | (refine wpAny_ite_false (decide_eq_false (by rw [c1]; exact Bool.false_ne_true)) ?_; wp_walk using wpAny_loadPart' hl)
      | (refine wpAny_ite_true (decide_eq_true (by rw [c2])) ?_; wp_walk using wpAny_loadPart' hl))
    exact ⟨_, rfl, h⟩
theorem op_rep0 {X : Cx} : OpR X (binaryOp .Mult) (fun x y H Q => ∃ l xs, x = .ref l ∧ y = .int 0 ∧ SqT X.K H l xs ∧ xs ≠ [] ∧ ∀ p, H p = none → Q (.ref p) (upd H p (.tup []))) := by
  intro pins s σ H x y v u Q I rx ry h
  obtain ⟨l, xs, rfl, rfl, hT, hne, q⟩ := h
  cases rx
  obtain ⟨t, rfl⟩ := ry
  obtain ⟨its, r, ⟨⟨cls, dd, data, sl⟩, ho, hc, n, hd⟩, hs⟩ := I.tuple hT
  simp only at hc hd
  subst hc hd
  have hle : its.length = xs.length := r.length.symm
  have hi : its.toArray.isEmpty = false := by
    cases its with
    | nil => exact absurd (List.eq_nil_of_length_eq_zero hle.symm) hne
    | cons a b => rfl
  refine wpAny_binaryOp_repeat_ref (T := "tuple") (U := "int") (by decide) ⟨_, ho, rfl⟩ (fun s' => typeIs_int s' 0 t) noFill_tuple_mul F.fills_int_mul F.slot_int_rmul repeat_tuple F.slot_int_index.lookup
    (call_meets F.slot_int_rmul (typeIs_int s 0 t) F.entry_int_rmul (F.args_int_rmul_2 _ _) (int_rmul_tuple 0 t l its.toArray n dd sl)
      ⟨ho, rfl, ⟨_, ho, rfl⟩, call_meets F.slot_tuple_mul ⟨_, ho, rfl⟩ F.entry_tuple_mul (F.args_tuple_mul_2 _ _) (tuple_mul0 l its.toArray n dd sl t hi) ⟨ho, ?_⟩⟩)
  refine ⟨.ref s.heap.objs.size, _, I.laid (t' := s.toks) (o := .tup []) (fun b ob q => Heap.get?_push_of_some _ q) (Nat.le_refl _) ?_, rfl, q _ (I.hok.fresh (Nat.le_refl _))⟩
  exact ⟨Nat.zero_le _, _, .nil, IsTup.new _ _⟩
/-- a tuple many times -/
theorem op_repM {X : Cx} : OpR X (binaryOp .Mult) (fun x y H Q => ∃ (l : Addr) (m : Nat) (xs : List V), x = .ref l ∧ y = .int m ∧ SqT X.K H l xs ∧ xs ≠ [] ∧ 2 ≤ m ∧ m * xs.length ≤ 5000000 ∧ ∀ p, H p = none → Q (.ref p) (upd H p (.tup (List.replicate m xs).flatten))) := by
  intro pins s σ H x y v u Q I rx ry h
  obtain ⟨l, m, xs, rfl, rfl, hT, hne, m2, big, q⟩ := h
  cases rx
  obtain ⟨t, rfl⟩ := ry
  obtain ⟨its, r, ⟨⟨cls, dd, data, sl⟩, ho, hc, n, hd⟩, hs⟩ := I.tuple hT
  simp only at hc hd
  subst hc hd
  have hle : its.length = xs.length := r.length.symm
  have hi : its.toArray.isEmpty = false := by
    cases its with
    | nil => exact absurd (List.eq_nil_of_length_eq_zero hle.symm) hne
    | cons a b => rfl
  have whole : (List.replicate m its).flatten.length ≤ sizeLine := by
    rw [PyProof.Rows.lm_len_rep_flat, hle, sizeLine_eq]
    omega
  have prod : ((its.toArray.size : Nat) : Int) * (m : Int) ≤ 5000000 := by
    rw [List.size_toArray, hle, ← Int.natCast_mul, Nat.mul_comm]
    omega
  have z0 : (decide ((m : Int) < -(2 ^ 63)) || decide ((m : Int) ≥ 2 ^ 63)) = false := by
    have : m ≤ 5000000 := Nat.le_trans (Nat.le_mul_of_pos_right m (by cases xs with | nil => exact absurd rfl hne | cons a b => simp)) big
    rw [decide_eq_false (by omega), decide_eq_false (by omega)]
    rfl
  have z1 : (its.toArray.isEmpty || (m : Int) == 1) = false := by rw [hi, Bool.false_or]; exact beq_eq_false_iff_ne.mpr (by omega)
  have z2 : (decide ((m : Int) ≤ 0) || its.toArray.isEmpty) = false := by rw [hi, decide_eq_false (by omega)]; rfl
  have z4 : Builtin.Tuple.tupleTooMany (((its.toArray.size : Nat) : Int) * (m : Int)) = false := by
    unfold Builtin.Tuple.tupleTooMany
    rw [sizeLine_eq]
    exact decide_eq_false (by omega)
  have mul := tuple_mulW l its.toArray n dd sl (m : Int) t z0 z1 z2 (by omega) z4 (by rw [size_rep, List.size_toArray, Int.toNat_natCast]; exact whole)
  rw [size_rep, Int.toNat_natCast] at mul
  refine wpAny_binaryOp_repeat_ref (T := "tuple") (U := "int") (by decide) ⟨_, ho, rfl⟩ (fun s' => typeIs_int s' (m : Int) t) noFill_tuple_mul F.fills_int_mul F.slot_int_rmul repeat_tuple F.slot_int_index.lookup
    (call_meets F.slot_int_rmul (typeIs_int s (m : Int) t) F.entry_int_rmul (F.args_int_rmul_2 _ _) (int_rmul_tuple (m : Int) t l its.toArray n dd sl)
      ⟨ho, rfl, ⟨_, ho, rfl⟩, call_meets F.slot_tuple_mul ⟨_, ho, rfl⟩ F.entry_tuple_mul (F.args_tuple_mul_2 _ _) mul ⟨ho, ?_⟩⟩)
  refine ⟨.ref s.heap.objs.size, _, I.laid (t' := s.toks) (o := .tup (List.replicate m xs).flatten) (fun b ob q => Heap.get?_push_of_some _ q) (Nat.le_refl _) ?_, rfl, q _ (I.hok.fresh (Nat.le_refl _))⟩
  exact ⟨by rw [PyProof.Rows.lm_len_rep_flat, sizeLine_eq]; omega, _, r.rep m, IsTup.new _ _⟩
section
variable {X : Cx} {tbs : List Addr}
theorem or_add : OpR X (binaryOp .Add) (rP (bs X tbs) opAdd) := by
  intro pins s σ H x y v u Q I rx ry ⟨μ, ph, px, py, wd, r1, r2, q⟩
  unfold opAdd at q
  split at q
  · rename_i i j
    cases r1
    cases r2
    exact op_add pins s σ H _ _ v u Q I rx ry ⟨_, _, rfl, rfl, q.val wd (.int _)⟩
  · rename_i a b
    split at q
    · rename_i hz
      cases r1
      cases r2
      exact op_add_str pins s σ H _ _ v u Q I rx ry ⟨_, _, rfl, rfl, sizeOk_le hz, q.val wd (.str _)⟩
    · exact q.elim
  · rename_i xs ys
    split at q
    · rename_i hz
      cases r1 with
      | @tup a vs _ ha ra =>
      cases r2 with
      | @tup b ws _ hb rb =>
      have l1 := ra.len
      have l2 := rb.len
      refine op_catA pins s σ H _ _ v u Q I rx ry ⟨a, b, vs, ws, rfl, rfl, SqT.of ha, SqT.of hb, by rw [← l1, ← l2]; exact sizeOk_le hz, fun e => ?_, fun n e => ?_, fun n1 n2 p hp => ?_⟩
      · refine q.val wd ?_
        subst e
        cases ra
        exact .tup hb rb
      · refine q.val wd ?_
        subst e
        cases rb
        rw [List.append_nil]
        exact .tup ha ra
      · obtain ⟨e1, e2, e3⟩ := wd.newTup (ra.app rb) hp
        exact q _ _ _ e1 e2 e3
    · exact q.elim
  · rename_i m n
    split at q
    · rename_i xs ys h1 h2
      split at q
      · rename_i hz
        cases r1 with
        | @ref _ a ha =>
        cases r2 with
        | @ref _ b hb =>
        obtain ⟨vs, e1, ra⟩ := wd.ob _ _ _ ha h1
        obtain ⟨ws, e2, rb⟩ := wd.ob _ _ _ hb h2
        have l1 := ra.len
        have l2 := rb.len
        refine op_cat pins s σ H _ _ v u Q I rx ry ⟨a, b, vs, ws, rfl, rfl, e1, e2, by rw [← l1, ← l2]; exact sizeOk_le hz, fun p hp => ?_⟩
        obtain ⟨e1, e2, e3⟩ := wd.newLst (ra.app rb) hp
        exact q _ _ _ e1 e2 e3
      · exact q.elim
    · exact q.elim
  · exact q.elim
theorem or_sub : OpR X (binaryOp .Sub) (rP (bs X tbs) opSub) := by
  intro pins s σ H x y v u Q I rx ry ⟨μ, ph, px, py, wd, r1, r2, q⟩
  unfold opSub at q
  split at q
  · cases r1
    cases r2
    exact op_sub pins s σ H _ _ v u Q I rx ry ⟨_, _, rfl, rfl, q.val wd (.int _)⟩
  · exact q.elim
theorem smallB_ok {i : Int} (h : smallB i = true) : -(2 ^ 64) < i ∧ i < 2 ^ 64 := of_decide_eq_true h
theorem or_mul : OpR X (binaryOp .Mult) (rP (bs X tbs) opMul) := by
  intro pins s σ H x y v u Q I rx ry ⟨μ, ph, px, py, wd, r1, r2, q⟩
  unfold opMul at q
  split at q
  · split at q
    · rename_i hz
      cases r1
      cases r2
      refine op_mul pins s σ H _ _ v u Q I rx ry ⟨_, _, rfl, rfl, ?_, q.val wd (.int _)⟩
      rcases Bool.or_eq_true_iff.mp hz with h | h
      · exact .inl (smallB_ok h)
      · exact .inr (smallB_ok h)
    · exact q.elim
  · rename_i xs k
    split at q
    · rename_i hz
      have hz := of_decide_eq_true hz
      subst hz
      cases r1 with
      | @tup a vs _ ha ra =>
      cases r2
      exact op_rep1 pins s σ H _ _ v u Q I rx ry ⟨a, vs, rfl, rfl, SqT.of ha, q.val wd (.tup ha ra)⟩
    split at q
    · rename_i hz
      cases r1 with
      | @tup a vs _ ha ra =>
      cases r2
      have l1 := ra.len
      simp only [Bool.and_eq_true, decide_eq_true_eq, Bool.not_eq_true'] at hz
      obtain ⟨⟨h0, h1, h2⟩, h3⟩ := hz
      have rep : ∀ m : Nat, Rls X.K H μ (List.replicate m xs).flatten (List.replicate m vs).flatten := fun m => by
        induction m with
        | zero => exact .nil
        | succ m ih =>
          rw [List.replicate_succ, List.replicate_succ, List.flatten_cons, List.flatten_cons]
          exact ra.app ih
      obtain ⟨m, rfl⟩ := Int.eq_ofNat_of_zero_le (show 0 ≤ k by omega)
      refine op_repM pins s σ H _ _ v u Q I rx ry ⟨a, m, vs, rfl, rfl, SqT.of ha, fun e => ?_, by omega, ?_, fun p hp => ?_⟩
      · subst e
        cases ra
        cases h0
      · rw [← l1]
        have : m * xs.length ≤ 5000 * 1000 := Nat.mul_le_mul (by omega) h3
        omega
      · obtain ⟨e1, e2, e3⟩ := wd.newTup (rep m) hp
        exact q _ _ _ e1 e2 e3
    split at q
    · rename_i hz
      cases r1 with
      | @tup a vs _ ha ra =>
      cases r2
      have l1 := ra.len
      simp only [Bool.and_eq_true, decide_eq_true_eq, Bool.not_eq_true'] at hz
      obtain ⟨h0, h1⟩ := hz
      subst h1
      refine op_rep0 pins s σ H _ _ v u Q I rx ry ⟨a, vs, rfl, rfl, SqT.of ha, fun e => ?_, fun p hp => ?_⟩
      · subst e
        cases ra
        cases h0
      · obtain ⟨e1, e2, e3⟩ := wd.newTup .nil hp
        exact q _ _ _ e1 e2 e3
    · exact q.elim
  · rename_i m k
    split at q
    · rename_i xs h1
      split at q
      · rename_i hz
        cases r1 with
        | @ref _ a ha =>
        cases r2
        obtain ⟨vs, e1, ra⟩ := wd.ob _ _ _ ha h1
        have l1 := ra.len
        simp only [Bool.and_eq_true, decide_eq_true_eq] at hz
        obtain ⟨⟨h2, h3⟩, h4⟩ := hz
        have rep : ∀ m : Nat, Rls X.K H μ (List.replicate m xs).flatten (List.replicate m vs).flatten := fun m => by
          induction m with
          | zero => exact .nil
          | succ m ih =>
            rw [List.replicate_succ, List.replicate_succ, List.flatten_cons, List.flatten_cons]
            exact ra.app ih
        refine op_rep pins s σ H _ _ v u Q I rx ry ⟨a, k, vs, rfl, rfl, e1, by omega, by omega, ?_, fun p hp => ?_⟩
        · rw [sizeLine_eq, ← l1]
          have a1 : xs.length * k.toNat ≤ 1000 * 5000 := Nat.mul_le_mul h4 (by omega)
          omega
        · obtain ⟨e1, e2, e3⟩ := wd.newLst (rep k.toNat) hp
          exact q _ _ _ e1 e2 e3
      · exact q.elim
    · exact q.elim
  · exact q.elim
theorem or_fdiv : OpR X (binaryOp .FloorDiv) (rP (bs X tbs) opFdiv) := by
  intro pins s σ H x y v u Q I rx ry ⟨μ, ph, px, py, wd, r1, r2, q⟩
  unfold opFdiv at q
  split at q
  · split at q
    · rename_i hz
      cases r1
      cases r2
      exact op_fdivN pins s σ H _ _ v u Q I rx ry ⟨_, _, rfl, rfl, (by have z := of_decide_eq_true hz; exact z), q.val wd (.int _)⟩
    · exact q.elim
  · exact q.elim
theorem or_mod : OpR X (binaryOp .Mod) (rP (bs X tbs) opMod) := by
  intro pins s σ H x y v u Q I rx ry ⟨μ, ph, px, py, wd, r1, r2, q⟩
  unfold opMod at q
  split at q
  · split at q
    · rename_i hz
      cases r1
      cases r2
      exact op_modN pins s σ H _ _ v u Q I rx ry ⟨_, _, rfl, rfl, (by have z := of_decide_eq_true hz; exact z), q.val wd (.int _)⟩
    · exact q.elim
  · exact q.elim
theorem or_pow : OpR X (binaryOp .Pow) (rP (bs X tbs) opPow) := by
  intro pins s σ H x y v u Q I rx ry ⟨μ, ph, px, py, wd, r1, r2, q⟩
  unfold opPow at q
  split at q
  · split at q
    · rename_i hz
      cases r1
      cases r2
      exact op_pow pins s σ H _ _ v u Q I rx ry ⟨_, _, rfl, rfl, (by have z := of_decide_eq_true hz; exact z), q.val wd (.int _)⟩
    · exact q.elim
  · exact q.elim
theorem or_and : OpR X (binaryOp .BitAnd) (rP (bs X tbs) opAnd) := by
  intro pins s σ H x y v u Q I rx ry ⟨μ, ph, px, py, wd, r1, r2, q⟩
  unfold opAnd at q
  split at q
  · cases r1
    cases r2
    exact op_and pins s σ H _ _ v u Q I rx ry ⟨_, _, rfl, rfl, q.val wd (.int _)⟩
  · exact q.elim
theorem ur_neg : UnR X (unaryOp .USub) (rP1 (bs X tbs) opNeg) := by
  intro pins s σ H x v Q I rx ⟨μ, ph, px, wd, r1, q⟩
  unfold opNeg at q
  split at q
  · cases r1
    exact un_neg pins s σ H _ v Q I rx ⟨_, rfl, q.val wd (.int _)⟩
  · exact q.elim
theorem or_cmpI {op : CmpOp} {p : Int → Int → Bool} (h : OpR X (compareOp op) (rI0 fun i j => .bl (p i j))) : OpR X (compareOp op) (rP (bs X tbs) (cmpI p)) := by
  intro pins s σ H x y v u Q I rx ry ⟨μ, ph, px, py, wd, r1, r2, q⟩
  unfold cmpI at q
  split at q
  · cases r1
    cases r2
    exact h pins s σ H _ _ v u Q I rx ry ⟨_, _, rfl, rfl, q.val wd (.bl _)⟩
  · exact q.elim
theorem or_lt : OpR X (compareOp .Lt) (rP (bs X tbs) opLt) := or_cmpI op_lt
theorem or_le : OpR X (compareOp .LtE) (rP (bs X tbs) opLe) := or_cmpI op_le
theorem or_gt : OpR X (compareOp .Gt) (rP (bs X tbs) opGt) := or_cmpI op_gt
theorem or_ge : OpR X (compareOp .GtE) (rP (bs X tbs) opGe) := or_cmpI op_ge
theorem eqV_ok (hu : X.A.units + 64 < cLine) {pins : List (Addr × Obj)} {s : Shared} {σ : L2.St} {H : Hp} {x y : V} {v u : Value} {Q : VK} {μ : List Addr} {ph : PH} {px py : PV} {b : Bool} (I : Inv X pins σ H s) (rx : RelV x v) (ry : RelV y u) (wd : Wd X.K tbs μ ph H) (r1 : Rl X.K H μ px x) (r2 : Rl X.K H μ py y)
    (e : eqV ph px py = some b) (q : Q (.bl b) H) : wpAny (model X.prog X.w) X.A (compareOp .Eq v u) (EP X pins σ Q) X.xe s := by
  unfold eqV at e
  split at e
  · cases e
    cases r1
    cases r2
    refine op_eq pins s σ H _ _ v u Q I rx ry ⟨rfl, ?_⟩
    simpa using q
  · cases e
    cases r1
    cases r2
    refine op_eq pins s σ H _ _ v u Q I rx ry ⟨rfl, ?_⟩
    simpa using q
  · cases e
    cases r1
    cases r2
    refine op_eq pins s σ H _ _ v u Q I rx ry ⟨rfl, ?_⟩
    simpa using q
  · split at e
    · rename_i d d2 e1 e2
      split at e
      · rename_i hz
        cases e
        obtain ⟨s1, s2⟩ := Bool.and_eq_true_iff.mp hz
        obtain ⟨as, q1, _⟩ := Rl.reads I wd 50 px d x v e1 r1 rx
        obtain ⟨bs', q2, _⟩ := Rl.reads I wd 50 py d2 y u e2 r2 ry
        exact SeqAt.compareEq_shaped q1 q2 s1 s2 hu ⟨.bl _, H, I, rfl, q⟩
      · cases e
    · cases e
theorem neV_ok (hu : X.A.units + 64 < cLine) {pins : List (Addr × Obj)} {s : Shared} {σ : L2.St} {H : Hp} {x y : V} {v u : Value} {Q : VK} {μ : List Addr} {ph : PH} {px py : PV} {b : Bool} (I : Inv X pins σ H s) (rx : RelV x v) (ry : RelV y u) (wd : Wd X.K tbs μ ph H) (r1 : Rl X.K H μ px x) (r2 : Rl X.K H μ py y)
    (e : eqV ph px py = some b) (q : Q (.bl (!b)) H) : wpAny (model X.prog X.w) X.A (compareOp .NotEq v u) (EP X pins σ Q) X.xe s := by
  unfold eqV at e
  split at e
  · cases e
    cases r1
    cases r2
    refine op_ne pins s σ H _ _ v u Q I rx ry ⟨rfl, ?_⟩
    simpa using q
  · cases e
    cases r1
    cases r2
    refine op_ne pins s σ H _ _ v u Q I rx ry ⟨rfl, ?_⟩
    simpa using q
  · cases e
    cases r1
    cases r2
    refine op_ne pins s σ H _ _ v u Q I rx ry ⟨rfl, ?_⟩
    simpa using q
  · split at e
    · rename_i d d2 e1 e2
      split at e
      · rename_i hz
        cases e
        obtain ⟨s1, s2⟩ := Bool.and_eq_true_iff.mp hz
        obtain ⟨as, q1, _⟩ := Rl.reads I wd 50 px d x v e1 r1 rx
        obtain ⟨bs', q2, _⟩ := Rl.reads I wd 50 py d2 y u e2 r2 ry
        exact SeqAt.compareNe_shaped q1 q2 s1 s2 hu ⟨.bl _, H, I, rfl, q⟩
      · cases e
    · cases e
/-- a text beside a value: from S17 -/
theorem dict_ne_str_no (l : Addr) (es : Array DictEntry) (n : Nat) (dd : Option Addr) (sl : Array (Option Value)) (z : Str) (u : Tok) :
    Meets (Builtin.«dict.__ne__» ⟨[.ref l, .str z u], []⟩) (fun _ R s => s.heap.get? l = some { cls := .type "dict", dict := dd, data := .dict es n, slots := sl } ∧ R (.ok (.ret .notImplemented)) s) :=
  .of_wp fun prog w A R s q => by
    obtain ⟨hp, gens, dr, toks, os⟩ := s
    obtain ⟨look, q⟩ := q
    have other : isSubtype (.type "str") (.type "dict") = pure false := by rw [isSubtype_type]; kernel_rfl
    wp_walk using AutoSeq1.wpAny_loadPart' look, wpAny_load look
    exact ⟨_, rfl, q⟩
theorem str_ne_dict_no (z : Str) (u : Tok) (l : Addr) (c : Value) (es : Array DictEntry) (n : Nat) (dd : Option Addr) (sl : Array (Option Value)) :
    Meets (Builtin.«str.__ne__» ⟨[.str z u, .ref l], []⟩) (fun _ R s => s.heap.get? l = some { cls := c, dict := dd, data := .dict es n, slots := sl } ∧ R (.ok (.ret .notImplemented)) s) :=
  .of_wp fun prog w A R s q => by
    obtain ⟨hp, gens, dr, toks, os⟩ := s
    obtain ⟨look, q⟩ := q
    wp_walk using AutoSeq1.wpAny_loadPart' look, wpAny_load look
    exact ⟨_, rfl, q⟩
theorem sub_str_dict2 : isSubtype (.type "str") (.type "dict") = pure false := by rw [isSubtype_type]; kernel_rfl
theorem ne_dict_str {A : Around} {s : Shared} {l : Addr} {o : Obj} {es : Array DictEntry} {n : Nat} (z : Str) (u : Tok) (look : s.heap.get? l = some o) (hc : o.cls = .type "dict") (hd : o.data = .dict es n) (hu : A.units < cLine) : RcNeAt A s (.ref l) (.str z u) true := fun prog w E Q q => by
  obtain ⟨cls, dd, data, sl⟩ := o
  have hc' : cls = .type "dict" := hc
  have hd' : data = .dict es n := hd
  rw [hc', hd'] at look
  exact rc_ne_decline_or (k := false) ⟨_, look, rfl⟩ (typeIs_str s z u) (by decide) sub_str_dict2 F.slot_dict_ne F.slot_str_ne_refl
    (fun _ r => call_meets F.slot_dict_ne ⟨_, look, rfl⟩ F.entry_dict_ne (F.args_dict_ne_2 _ _) (dict_ne_str_no l es n dd sl z u) ⟨look, r⟩)
    (fun _ r => call_meets F.slot_str_ne_refl (typeIs_str s z u) F.entry_str_ne (F.args_str_ne_2 _ _) (str_ne_dict_no z u l (.type "dict") es n dd sl) ⟨look, r⟩)
    (fun _ r => wpAny_of_eq (rfl : isSame (.ref l) (.str z u) = pure false) r) (.inr hu) q
theorem ne_any_str {A : Around} {s : Shared} {u : Value} {d : PyData} {as : List Addr} (hu : A.units < cLine) (rd : Reads s.heap u d as) (z : Str) (t : Tok) : RcNeAt A s u (.str z t) (!Rw.eqS d z) := by
  cases rd with
  | none => exact RcNeAt.none_str z t
  | bool b => exact RcNeAt.bool_str b z t
  | int i k => exact RcNeAt.int_str i k z t
  | str x k =>
    have e : (z == x) = (x == z) := by
      by_cases h : x = z
      · subst h
        rfl
      · rw [beq_eq_false_iff_ne.mpr h, beq_eq_false_iff_ne.mpr fun y => h y.symm]
    show RcNeAt A s (.str x k) (.str z t) (!(z == x))
    rw [e]
    exact RcNeAt.str_str x k z t
  | list h1 h2 h3 h4 => exact RcNeAt.list_str z t ⟨_, h1, h2, _, h3⟩ hu
  | tuple h1 h2 h3 h4 => exact RcNeAt.tuple_str z t ⟨_, h1, h2, _, h3⟩ hu
  | dict h1 h2 h3 h4 h5 => exact ne_dict_str z t h1 h2 h3 hu
theorem rc_dict_str {A : Around} {s : Shared} {l : Addr} {o : Obj} {es : Array DictEntry} {n : Nat} (b : Str) (u : Tok) (ho : s.heap.get? l = some o) (hc : o.cls = .type "dict") (hd : o.data = .dict es n) (hu : A.units < cLine) : RcAt A s (.ref l) (.str b u) false := fun prog w E Q h => by
  obtain ⟨cls, dd, data, sl⟩ := o
  simp only at hc hd
  subst hc hd
  exact rc_eq_decline_or (k := false) ⟨_, ho, rfl⟩ (typeIs_str s b u) (by decide) sub_str_dict2 F.slot_dict_eq F.slot_str_eq_refl
    (fun _ hq => call_meets F.slot_dict_eq ⟨_, ho, rfl⟩ F.entry_dict_eq (F.args_dict_eq_2 _ _) (Rw.dict_declines_str l es n dd sl b u) ⟨ho, hq⟩)
    (fun _ hq => call_meets F.slot_str_eq_refl (typeIs_str s b u) F.entry_str_eq (F.args_str_eq_2 _ _) (Rw.str_declines_dict b u l (.type "dict") es n dd sl) ⟨ho, hq⟩)
    (fun _ hq => wpAny_of_eq (rfl : isSame (.ref l) (.str b u) = pure false) hq) (.inr hu) h
theorem rc_any_str {A : Around} {s : Shared} {u : Value} {d : PyData} {as : List Addr} (hu : A.units < cLine) (rd : Reads s.heap u d as) (z : Str) (t : Tok) : RcAt A s u (.str z t) (Rw.eqS d z) := by
  cases rd with
  | none => exact RcAt.none_str z t
  | bool b => exact RcAt.bool_str b z t
  | int i k => exact RcAt.int_str i k z t
  | str x k =>
    have e : (z == x) = (x == z) := by
      by_cases h : x = z
      · subst h
        rfl
      · rw [beq_eq_false_iff_ne.mpr h, beq_eq_false_iff_ne.mpr fun y => h y.symm]
    show RcAt A s (.str x k) (.str z t) (z == x)
    rw [e]
    exact RcAt.str_str x k z t
  | list h1 h2 h3 h4 => exact RcAt.list_str z t ⟨_, h1, h2, _, h3⟩ hu
  | tuple h1 h2 h3 h4 => exact RcAt.tuple_str z t ⟨_, h1, h2, _, h3⟩ hu
  | dict h1 h2 h3 h4 h5 => exact rc_dict_str z t h1 h2 h3 hu
theorem strB_ok (hu : X.A.units + 64 < cLine) {pins : List (Addr × Obj)} {s : Shared} {σ : L2.St} {H : Hp} {x y : V} {v u : Value} {Q : VK} {μ : List Addr} {ph : PH} {px py : PV} {b : Bool} (I : Inv X pins σ H s) (rx : RelV x v) (ry : RelV y u) (wd : Wd X.K tbs μ ph H) (r1 : Rl X.K H μ px x) (r2 : Rl X.K H μ py y) (e : strB ph px py = some b) :
    (Q (.bl b) H → wpAny (model X.prog X.w) X.A (compareOp .Eq v u) (EP X pins σ Q) X.xe s) ∧ (Q (.bl (!b)) H → wpAny (model X.prog X.w) X.A (compareOp .NotEq v u) (EP X pins σ Q) X.xe s) := by
  unfold strB at e
  split at e
  · rename_i b d e1
    cases e
    cases r2
    obtain ⟨t, rfl⟩ := ry
    obtain ⟨as, rd, _⟩ := Rl.reads I wd 50 px d x v e1 r1 rx
    exact ⟨fun q => rc_any_str (by omega) rd b t X.prog X.w _ _ ⟨.bl _, H, I, rfl, q⟩, fun q => ne_any_str (by omega) rd b t X.prog X.w _ _ ⟨.bl _, H, I, rfl, q⟩⟩
  · cases e
theorem lenB_ok (hu : X.A.units + 64 < cLine) {pins : List (Addr × Obj)} {s : Shared} {σ : L2.St} {H : Hp} {x y : V} {v u : Value} {Q : VK} {μ : List Addr} {ph : PH} {px py : PV} {b : Bool} (I : Inv X pins σ H s) (rx : RelV x v) (ry : RelV y u) (wd : Wd X.K tbs μ ph H) (r1 : Rl X.K H μ px x) (r2 : Rl X.K H μ py y) (e : lenB ph px py = some b) :
    (Q (.bl b) H → wpAny (model X.prog X.w) X.A (compareOp .Eq v u) (EP X pins σ Q) X.xe s) ∧ (Q (.bl (!b)) H → wpAny (model X.prog X.w) X.A (compareOp .NotEq v u) (EP X pins σ Q) X.xe s) := by
  unfold lenB at e
  split at e
  · rename_i m n
    split at e
    · rename_i xs ys h1 h2
      split at e
      · cases e
      · rename_i hl
        cases e
        cases r1 with
        | @ref _ a ha =>
        cases r2 with
        | @ref _ b hb =>
        obtain ⟨vs, e1, ra⟩ := wd.ob _ _ _ ha h1
        obtain ⟨ws, e2, rb⟩ := wd.ob _ _ _ hb h2
        have l1 := ra.len
        have l2 := rb.len
        cases rx
        cases ry
        obtain ⟨z, its, k, r, hl1, f1⟩ := I.lstM e1
        obtain ⟨z2, its2, k2, r2, hl2, f2⟩ := I.lstM e2
        have hne : (its.toArray.size != its2.toArray.size) = true := by
          rw [List.size_toArray, List.size_toArray]
          have : its.length ≠ its2.length := by omega
          simpa using this
        exact ⟨fun q => RcAt.lists_lengths ⟨_, f1, rfl, _, rfl⟩ ⟨_, f2, rfl, _, rfl⟩ hne (by omega) X.prog X.w _ _ ⟨.bl _, H, I, rfl, q⟩, fun q => RcNeAt.lists_lengths ⟨_, f1, rfl, _, rfl⟩ ⟨_, f2, rfl, _, rfl⟩ hne (by omega) X.prog X.w _ _ ⟨.bl _, H, I, rfl, q⟩⟩
    · cases e
  · rename_i xs
    cases e
    cases r1 with
    | @tup a vs _ ha ra =>
    cases r2 with
    | @tup b ws _ hb rb =>
    cases rb
    have l1 := ra.len
    have ez : decide (xs = []) = decide (vs = []) := by
      cases ra <;> rfl
    cases rx
    cases ry
    obtain ⟨its, rv, h1, _⟩ := I.tuple (SqT.of ha)
    obtain ⟨its2, rv2, h2, _⟩ := I.tuple (SqT.of hb)
    cases rv2
    have ee : ((List.range (min its.toArray.size ([] : List Value).toArray.size)).all (fun _ => false) && its.toArray.size == ([] : List Value).toArray.size) = decide (xs = []) := by
      rw [ez]
      have l := rv.length
      cases vs with
      | nil =>
        cases its with
        | nil => simp
        | cons _ _ => simp at l
      | cons _ _ =>
        cases its with
        | nil => simp at l
        | cons _ _ => simp
    refine ⟨fun q => eq_tupleAt (e := fun _ => false) h1 h2 (by omega) (fun j k1 k2 => absurd k2 (by simp)) ⟨.bl _, H, I, rfl, by rw [ee]; exact q⟩, fun q => RcNeAt.tuples (e := fun _ => false) h1 h2 (by omega) (fun j k1 k2 => absurd k2 (by simp)) X.prog X.w _ _ ⟨.bl _, H, I, rfl, by rw [ee]; exact q⟩⟩
  · cases e
theorem eqB_ok (hu : X.A.units + 64 < cLine) {pins : List (Addr × Obj)} {s : Shared} {σ : L2.St} {H : Hp} {x y : V} {v u : Value} {Q : VK} {μ : List Addr} {ph : PH} {px py : PV} {b : Bool} (I : Inv X pins σ H s) (rx : RelV x v) (ry : RelV y u) (wd : Wd X.K tbs μ ph H) (r1 : Rl X.K H μ px x) (r2 : Rl X.K H μ py y)
    (e : eqB ph px py = some b) (q : Q (.bl b) H) : wpAny (model X.prog X.w) X.A (compareOp .Eq v u) (EP X pins σ Q) X.xe s := by
  unfold eqB at e
  split at e
  · rename_i b2 e2
    cases e
    exact (lenB_ok hu I rx ry wd r1 r2 e2).1 q
  · split at e
    · rename_i b2 e2
      cases e
      exact (strB_ok hu I rx ry wd r1 r2 e2).1 q
    · exact eqV_ok hu I rx ry wd r1 r2 e q
theorem neB_ok (hu : X.A.units + 64 < cLine) {pins : List (Addr × Obj)} {s : Shared} {σ : L2.St} {H : Hp} {x y : V} {v u : Value} {Q : VK} {μ : List Addr} {ph : PH} {px py : PV} {b : Bool} (I : Inv X pins σ H s) (rx : RelV x v) (ry : RelV y u) (wd : Wd X.K tbs μ ph H) (r1 : Rl X.K H μ px x) (r2 : Rl X.K H μ py y)
    (e : eqB ph px py = some b) (q : Q (.bl (!b)) H) : wpAny (model X.prog X.w) X.A (compareOp .NotEq v u) (EP X pins σ Q) X.xe s := by
  unfold eqB at e
  split at e
  · rename_i b2 e2
    cases e
    exact (lenB_ok hu I rx ry wd r1 r2 e2).2 q
  · split at e
    · rename_i b2 e2
      cases e
      exact (strB_ok hu I rx ry wd r1 r2 e2).2 q
    · exact neV_ok hu I rx ry wd r1 r2 e q
theorem or_eq (hu : X.A.units + 64 < cLine) : OpR X (compareOp .Eq) (rP (bs X tbs) opEq) := by
  intro pins s σ H x y v u Q I rx ry ⟨μ, ph, px, py, wd, r1, r2, q⟩
  unfold opEq at q
  cases e : eqB ph px py with
  | none =>
    rw [e] at q
    exact q.elim
  | some b =>
    rw [e] at q
    exact eqB_ok hu I rx ry wd r1 r2 e (q.val wd (.bl b))
theorem neB_ok2 (hu : X.A.units + 64 < cLine) {pins : List (Addr × Obj)} {s : Shared} {σ : L2.St} {H : Hp} {x y : V} {v u : Value} {Q : VK} {μ : List Addr} {ph : PH} {px py : PV} {b : Bool} (I : Inv X pins σ H s) (rx : RelV x v) (ry : RelV y u) (wd : Wd X.K tbs μ ph H) (r1 : Rl X.K H μ px x) (r2 : Rl X.K H μ py y)
    (e : neB ph px py = some b) (q : Q (.bl b) H) : wpAny (model X.prog X.w) X.A (compareOp .NotEq v u) (EP X pins σ Q) X.xe s := by
  have other : ∀ {b : Bool}, ((eqB ph px py).map fun b => !b) = some b → Q (.bl b) H → wpAny (model X.prog X.w) X.A (compareOp .NotEq v u) (EP X pins σ Q) X.xe s := fun {b} e q => by
    cases e2 : eqB ph px py with
    | none =>
      rw [e2] at e
      cases e
    | some b2 =>
      rw [e2] at e
      cases e
      exact neB_ok hu I rx ry wd r1 r2 e2 q
  unfold neB at e
  split at e
  · rename_i b d e1
    cases e
    cases r2
    obtain ⟨t, rfl⟩ := ry
    obtain ⟨as, rd, _⟩ := Rl.reads I wd 50 px d x v e1 r1 rx
    exact ne_any_str (by omega) rd b t X.prog X.w _ _ ⟨.bl _, H, I, rfl, q⟩
  · exact other e q
theorem or_ne (hu : X.A.units + 64 < cLine) : OpR X (compareOp .NotEq) (rP (bs X tbs) opNe) := by
  intro pins s σ H x y v u Q I rx ry ⟨μ, ph, px, py, wd, r1, r2, q⟩
  unfold opNe at q
  cases e : neB ph px py with
  | none =>
    rw [e] at q
    exact q.elim
  | some b =>
    rw [e] at q
    exact neB_ok2 hu I rx ry wd r1 r2 e (q.val wd (.bl b))
end
end Dn
namespace Dn
open PySem PySem.Spec PyProof.Rows L2 PySem.SeqAt

/-! ### equal values -/
mutual
def PV.beq : PV → PV → Bool
  | .non, .non => true
  | .bl a, .bl b => a == b
  | .int a, .int b => a == b
  | .str a, .str b => a == b
  | .ref a, .ref b => a == b
  | .tup a, .tup b => PV.beqs a b
  | .kt a, .kt b => PV.beqs a b
  | .fz a, .fz b => PV.beqs a b
  | _, _ => false
def PV.beqs : List PV → List PV → Bool
  | [], [] => true
  | x :: r, y :: s => PV.beq x y && PV.beqs r s
  | _, _ => false
end
mutual
theorem PV.beq_eq : ∀ {a b : PV}, PV.beq a b = true → a = b
  | .non, b, h => by cases b <;> simp [PV.beq] at h; rfl
  | .bl a, b, h => by cases b <;> simp [PV.beq] at h; rw [h]
  | .int a, b, h => by cases b <;> simp [PV.beq] at h; rw [h]
  | .str a, b, h => by cases b <;> simp [PV.beq] at h; rw [h]
  | .ref a, b, h => by cases b <;> simp [PV.beq] at h; rw [h]
  | .tup a, b, h => by
    cases b <;> simp [PV.beq] at h
    rw [PV.beqs_eq h]
  | .kt a, b, h => by
    cases b <;> simp [PV.beq] at h
    rw [PV.beqs_eq h]
  | .fz a, b, h => by
    cases b <;> simp [PV.beq] at h
    rw [PV.beqs_eq h]
theorem PV.beqs_eq : ∀ {a b : List PV}, PV.beqs a b = true → a = b
  | [], b, h => by cases b <;> simp [PV.beqs] at h; rfl
  | x :: r, b, h => by
    cases b with
    | nil => simp [PV.beqs] at h
    | cons y s =>
      simp [PV.beqs] at h
      rw [PV.beq_eq h.1, PV.beqs_eq h.2]
end
mutual
theorem PV.beq_refl : ∀ a : PV, PV.beq a a = true
  | .non => by simp [PV.beq]
  | .bl a => by simp [PV.beq]
  | .int a => by simp [PV.beq]
  | .str a => by simp [PV.beq]
  | .ref a => by simp [PV.beq]
  | .tup a => by simp [PV.beq, PV.beqs_refl a]
  | .kt a => by simp [PV.beq, PV.beqs_refl a]
  | .fz a => by simp [PV.beq, PV.beqs_refl a]
theorem PV.beqs_refl : ∀ a : List PV, PV.beqs a a = true
  | [] => by simp [PV.beqs]
  | x :: r => by simp [PV.beqs, PV.beq_refl x, PV.beqs_refl r]
end
instance : DecidableEq PV := fun a b => if h : PV.beq a b = true then .isTrue (PV.beq_eq h) else .isFalse fun e => h (by rw [e]; exact PV.beq_refl b)

/-! ### what is left of no use is forgotten -/
mutual
/-- no object that may change is within -/
def PV.still : PV → Bool
  | .ref _ => false
  | .tup xs => PV.stills xs
  | .kt xs => PV.stills xs
  | .fz xs => PV.stills xs
  | _ => true
def PV.stills : List PV → Bool
  | [] => true
  | x :: r => PV.still x && PV.stills r
end
mutual
theorem Rl.still {K : PySem.W.Frag} {H : Hp} {μ ν : List Addr} : ∀ {x : PV} {v : V}, Rl K H μ x v → x.still = true → Rl K H ν x v
  | _, _, .non, _ => .non
  | _, _, .bl b, _ => .bl b
  | _, _, .int b, _ => .int b
  | _, _, .str b, _ => .str b
  | _, _, .tup h r, e => .tup h (Rls.still r (by simpa [PV.still] using e))
  | _, _, .kt h r, e => .kt h (Rls.still r (by simpa [PV.still] using e))
  | _, _, .fz h r, e => .fz h (Rls.still r (by simpa [PV.still] using e))
  | _, _, .ref h, e => by simp [PV.still] at e
theorem Rls.still {K : PySem.W.Frag} {H : Hp} {μ ν : List Addr} : ∀ {x : List PV} {v : List V}, Rls K H μ x v → PV.stills x = true → Rls K H ν x v
  | _, _, .nil, _ => .nil
  | _, _, .cons a b, e => by
    simp [PV.stills] at e
    exact .cons (Rl.still a e.1) (Rls.still b e.2)
end
instance : DecidableEq MO := fun a b => match a, b with
  | .lst x, .lst y => if h : x = y then .isTrue (by rw [h]) else .isFalse fun e => h (by injection e)
  | .dK x, .dK y => if h : x = y then .isTrue (by rw [h]) else .isFalse fun e => h (by injection e)
  | .dT x, .dT y => if h : x = y then .isTrue (by rw [h]) else .isFalse fun e => h (by injection e)
  | .lst _, .dK _ => .isFalse nofun
  | .lst _, .dT _ => .isFalse nofun
  | .dK _, .lst _ => .isFalse nofun
  | .dK _, .dT _ => .isFalse nofun
  | .dT _, .lst _ => .isFalse nofun
  | .dT _, .dK _ => .isFalse nofun
section
variable {K : PySem.W.Frag} {tbs : List Addr} {H H' : Hp} {μ μ' : List Addr}
mutual
/-- what lay at the old numbers lies there -/
theorem Rl.back (e : ∀ (n : Nat) a, μ[n]? = some a → μ'[n]? = some a) : ∀ {x : PV} {v v' : V}, Rl K H μ x v → Rl K H' μ' x v' → Rl K H' μ x v'
  | _, _, _, .non, .non => .non
  | _, _, _, .bl b, .bl _ => .bl b
  | _, _, _, .int b, .int _ => .int b
  | _, _, _, .str b, .str _ => .str b
  | _, _, _, .tup _ r, .tup h r' => .tup h (Rls.back e r r')
  | _, _, _, .kt _ r, .kt h r' => .kt h (Rls.back e r r')
  | _, _, _, .fz _ r, .fz h r' => .fz h (Rls.back e r r')
  | _, _, _, .ref h, .ref h' => .ref (by
      have z := e _ _ h
      rw [z] at h'
      cases h'
      exact h)
theorem Rls.back (e : ∀ (n : Nat) a, μ[n]? = some a → μ'[n]? = some a) : ∀ {x : List PV} {v v' : List V}, Rls K H μ x v → Rls K H' μ' x v' → Rls K H' μ x v'
  | _, _, _, .nil, .nil => .nil
  | _, _, _, .cons a b, .cons a' b' => .cons (Rl.back e a a') (Rls.back e b b')
end
theorem KRl.back {κ : Type} (e : ∀ (n : Nat) a, μ[n]? = some a → μ'[n]? = some a) : ∀ {x : List (κ × PV)} {v v' : List (κ × V)}, KRl K H μ x v → KRl K H' μ' x v' → KRl K H' μ x v'
  | _, _, _, .nil, .nil => .nil
  | _, _, _, .cons a b, .cons a' b' => .cons (a.back e a') (KRl.back e b b')
theorem OR.back (e : ∀ (n : Nat) a, μ[n]? = some a → μ'[n]? = some a) {a : Addr} {o : MO} (h : OR K H μ a o) (h' : OR K H' μ' a o) : OR K H' μ a o := by
  cases o with
  | lst xs =>
    obtain ⟨_, _, r⟩ := h
    obtain ⟨vs, h1, r'⟩ := h'
    exact ⟨vs, h1, r.back e r'⟩
  | dK xs =>
    obtain ⟨_, _, r⟩ := h
    obtain ⟨vs, h1, r'⟩ := h'
    exact ⟨vs, h1, r.back e r'⟩
  | dT xs =>
    obtain ⟨_, _, r⟩ := h
    obtain ⟨vs, h1, r'⟩ := h'
    exact ⟨vs, h1, r.back e r'⟩
/-- behind it only what was there -/
theorem Wd.forget {ph g : PH} (w : Wd K tbs μ ph H) (e : Ex μ H μ' H') (w' : Wd K tbs μ' (ph ++ g) H') : Ex μ H μ H' ∧ Wd K tbs μ ph H' :=
  ⟨⟨fun _ _ h => h, e.tup, e.frz⟩, w.len, w.nd, fun n a o h1 h2 => OR.back e.pre (w.ob n a o h1 h2) (w'.ob n a o (e.pre n a h1) (by rw [List.getElem?_append_left (List.getElem?_eq_some_iff.mp h2).1]; exact h2)), w'.tb⟩
end
/-- the value alone, if no object that may change is within and none has changed -/
def gcO (h : PH) (o : Out PV) : Out PV := match o with
  | .ok v h' => if v.still = true ∧ h'.take h.length = h then .ok v h else .ok v h'
  | o => o
theorem OutOk.gc {B : Bs} {W : WX} {μ : List Addr} {ph : PH} {H : Hp} {σ : L2.St} {o : Out PV} {Q : VK} (w : Wd B.K B.tbs μ ph H) (q : OutOk B W (fun H' μ' => Rl B.K H' μ') μ H σ (gcO ph o) Q) : OutOk B W (fun H' μ' => Rl B.K H' μ') μ H σ o Q := by
  cases o with
  | ok v h' =>
    unfold gcO at q
    dsimp only at q
    by_cases e : v.still = true ∧ h'.take ph.length = ph
    · rw [if_pos e] at q
      intro μ' H' x e1 w1 r1
      have e2 : h' = ph ++ h'.drop ph.length := by
        have z := (List.take_append_drop ph.length h').symm
        rw [e.2] at z
        exact z
      rw [e2] at w1
      obtain ⟨a, b⟩ := w.forget e1 w1
      exact q μ H' x a b (r1.still e.1)
    · rw [if_neg e] at q
      exact q
  | err e h => exact q
  | no => exact q
/-! ### targets: names and tuples of names -/
abbrev GP := PV → Option (List (Nat × PV))
def setP : List (Nat × PV) → Sl → Sl
  | [], s => s
  | (i, x) :: r, s => setP r (s.set i (some x))
def setV : List (Nat × V) → L2.St → L2.St
  | [], s => s
  | (i, x) :: r, s => setV r (s.set i (some x))
inductive RlA (K : PySem.W.Frag) (H : Hp) (μ : List Addr) : List (Nat × PV) → List (Nat × V) → Prop
  | nil : RlA K H μ [] []
  | cons {i : Nat} {x : PV} {v : V} {r : List (Nat × PV)} {s : List (Nat × V)} : Rl K H μ x v → RlA K H μ r s → RlA K H μ ((i, x) :: r) ((i, v) :: s)
theorem RlA.app {K : PySem.W.Frag} {H : Hp} {μ : List Addr} : ∀ {a b : List (Nat × PV)} {c d : List (Nat × V)}, RlA K H μ a c → RlA K H μ b d → RlA K H μ (a ++ b) (c ++ d)
  | _, _, _, _, .nil, q => q
  | _, _, _, _, .cons r s, q => .cons r (RlA.app s q)
theorem Sr.sets {K : PySem.W.Frag} {H : Hp} {μ : List Addr} : ∀ {a : List (Nat × PV)} {c : List (Nat × V)} {ps : Sl} {σ : L2.St}, RlA K H μ a c → Sr K H μ ps σ → Sr K H μ (setP a ps) (setV c σ)
  | _, _, _, _, .nil, h => h
  | _, _, _, _, .cons r s, h => by
    unfold setP setV
    exact Sr.sets s (h.set _ r)
theorem setV_app : ∀ (a b : List (Nat × V)) (σ : L2.St), setV (a ++ b) σ = setV b (setV a σ)
  | [], _, _ => rfl
  | (i, x) :: r, b, σ => setV_app r b (σ.set i (some x))
def gD (K : PySem.W.Frag) (g : GP) : TG := fun v σ H Q => ∃ μ px, Rl K H μ px v ∧ ∃ as, g px = some as ∧ ∀ bs, RlA K H μ as bs → Q (setV bs σ) H
def gDs (K : PySem.W.Frag) (g : List PV → Option (List (Nat × PV))) : TGs := fun vs σ H Q => ∃ μ ps, Rls K H μ ps vs ∧ ∃ as, g ps = some as ∧ ∀ bs, RlA K H μ as bs → Q (setV bs σ) H
def JG (X : Cx) (tg : Expr) (g : GP) : Prop := PG X tg (gD X.K g)
def JGs (X : Cx) (tg : List Expr) (g : List PV → Option (List (Nat × PV))) : Prop := PGs X tg (gDs X.K g)
theorem PG_imp {X : Cx} {tg : Expr} {t t' : TG} (h : PG X tg t) (k : ∀ v σ H Q, t' v σ H Q → t v σ H Q) : PG X tg t' := ⟨fun pins s σ H v u Q I r q => h.run pins s σ H v u Q I r (k v σ H Q q)⟩
theorem PGs_imp {X : Cx} {tg : List Expr} {t t' : TGs} (h : PGs X tg t) (k : ∀ v σ H Q, t' v σ H Q → t v σ H Q) : PGs X tg t' := ⟨fun pins s σ H v u Q I r q => h.run pins s σ H v u Q I r (k v σ H Q q)⟩
def gNm (i : Nat) : GP := fun v => some [(i, v)]
def gsNil : List PV → Option (List (Nat × PV)) := fun vs => match vs with
  | [] => some []
  | _ => none
def gsCons (g : GP) (r : List PV → Option (List (Nat × PV))) : List PV → Option (List (Nat × PV)) := fun vs => match vs with
  | v :: vs => match g v, r vs with
    | some a, some b => some (a ++ b)
    | _, _ => none
  | [] => none
def gTp (n : Nat) (g : List PV → Option (List (Nat × PV))) : GP := fun v => match v with
  | .tup xs => if xs.length = n then g xs else none
  | _ => none
section
variable {X : Cx} {pos : Pos}
theorem g_nm (i : Nat) {x : Str} (hN : X.N.Nodup) (hi : X.N[i]? = some x := by rfl) (hx : Loc X.env.scope x := by first | exact Or.inl rfl | exact Or.inr rfl) (hf : X.fn x = true ∨ X.env.scope.names.lookup x = some .local := by first | exact .inl rfl | exact .inr rfl | assumption) : JG X (.Name x pos) (gNm i) :=
  PG_imp (pg_name hN hi hx hf) fun v σ H Q ⟨μ, px, r, as, e, q⟩ => by
    cases e
    exact q _ (.cons r .nil)
theorem gs_nil : JGs X [] gsNil := PGs_imp pgs_nil fun v σ H Q ⟨μ, ps, r, as, e, q⟩ => by
  cases r with
  | nil =>
    cases e
    exact ⟨rfl, q _ .nil⟩
  | cons _ _ => cases e
theorem gs_cons {e : Expr} {es : List Expr} {g : GP} {r : List PV → Option (List (Nat × PV))} (h1 : JG X e g) (h2 : JGs X es r) (hs : (assignEach (e :: es) X.env).map (·.2) = assign e X.env :: (assignEach es X.env).map (·.2) := by rfl) : JGs X (e :: es) (gsCons g r) :=
  PGs_imp (pgs_cons h1 h2 hs) fun v σ H Q ⟨μ, ps, rr, as, e, q⟩ => by
    cases rr with
    | nil => cases e
    | @cons x v1 xs vs ra rb =>
      unfold gsCons at e
      simp only at e
      split at e
      · rename_i a b e1 e2
        cases e
        exact ⟨v1, vs, rfl, μ, x, ra, a, e1, fun bs1 r1 => ⟨μ, xs, rb, b, e2, fun bs2 r2 => by
          rw [← setV_app]
          exact q _ (r1.app r2)⟩⟩
      · cases e
theorem g_tp {es : List Expr} {k : Nat} {g : List PV → Option (List (Nat × PV))} {n : Nat} (hc : X.calm = true) (h : JGs X es g)
    (hn : (assignEach es X.env).length = n := by rfl) (hst : (assignEach es X.env).findIdx? (·.1) = none := by rfl) : JG X (.Tuple es k pos) (gTp n g) :=
  PG_imp (pg_tup hc h hn hst) fun v σ H Q ⟨μ, px, r, as, e, q⟩ => by
    unfold gTp at e
    split at e
    · split at e
      · rename_i hl
        cases r with
        | @tup a vs xs ht ra =>
        exact ⟨a, vs, rfl, SqT.of ht, by rw [← ra.len]; exact hl, μ, _, ra, as, e, q⟩
      · cases e
    · cases e
end

/-! ### statements -/
def sNx : DS := fun s h => .nx s h
def sSeq (a b : DS) : DS := fun s h => match a s h with
  | .nx s h => b s h
  | o => o
def Out.then {α : Type} (o : Out α) (s : Sl) (k : α → PH → OutS) : OutS := match o with
  | .ok x h => k x h
  | .err e h => .err e s h
  | .no => .no
@[simp] theorem Out.then_ok {α : Type} (a : α) (h : PH) (s : Sl) (k : α → PH → OutS) : (Out.ok a h).then s k = k a h := rfl
@[simp] theorem Out.then_err {α : Type} (e : PErr) (h : PH) (s : Sl) (k : α → PH → OutS) : (Out.err e h : Out α).then s k = .err e s h := rfl
@[simp] theorem Out.then_no {α : Type} (s : Sl) (k : α → PH → OutS) : (Out.no : Out α).then s k = .no := rfl
def sDrop (f : DE) : DS := fun s h => (f s h).then s fun _ h => .nx s h
def sRet (f : DE) : DS := fun s h => (f s h).then s fun v h => .rt v h
def sIf (c : DT) (a b : DS) : DS := fun s h => (c s h).then s fun k h => if k = true then a s h else b s h
def sAsg (g : GP) (f : DE) : DS := fun s h => (f s h).then s fun v h => match g v with
  | some as => .nx (setP as s) h
  | none => .no
def sPar (i j : Nat) (f : DA) : DS := fun s h => (f s h).then s fun vs h => match vs with
  | [v, w] => .nx ((s.set i (some v)).set j (some w)) h
  | _ => .no
/-- one statement behind the other -/
theorem OutOk.then_ {B : Bs} {W : WX} {α β : Type} {rel : Hp → List Addr → α → β → Prop} {μ : List Addr} {H : Hp} {σ : L2.St} {ps : Sl} {o : Out α} {k : α → PH → OutS} {D : Ends} {Q : β → Hp → Prop} (sr : Sr B.K H μ ps σ)
    (h : OutSOk B W μ H (o.then ps k) D) (q : ∀ x ph μ' H' v, Ex μ H μ' H' → Wd B.K B.tbs μ' ph H' → rel H' μ' x v → OutSOk B W μ' H' (k x ph) D → Q v H') : OutOk B W rel μ H σ o Q := by
  cases o with
  | ok x ph => exact fun μ' H' v e w r => q x ph μ' H' v e w r (OutSOk.ext h e)
  | err x ph => exact fun μ' H' cls d e w r => h μ' H' σ cls d e w (sr.mono e) r
  | no => exact h
section
variable {tbs : List Addr} {W : WX} {X : Cx} {pos : Pos}
theorem jss_nil : JSs (bs X tbs) W X [] sNx := PSs_imp pss_nil fun D σ H ⟨μ, ps, ph, sr, wd, ok⟩ => ok μ H σ Ex.refl wd sr
theorem OutSOk.seq {B : Bs} {μ : List Addr} {H : Hp} {f g : DS} {D : Ends} {ps : Sl} {ph : PH} (h : OutSOk B W μ H (sSeq f g ps ph) D) : OutSOk B W μ H (f ps ph) { D with nx := fun σ' H' => tDS B W g D σ' H' } := by
  unfold sSeq at h
  cases e : f ps ph with
  | nx s h2 =>
    rw [e] at h
    exact fun μ' H' σ' x w r => ⟨μ', s, h2, r, w, OutSOk.ext h x⟩
  | rt v h2 => rw [e] at h; exact h
  | bk s h2 => rw [e] at h; exact h
  | ct s h2 => rw [e] at h; exact h
  | err x s h2 => rw [e] at h; exact h
  | no => rw [e] at h; exact h
theorem jss_cons {st : Stmt} {rest : List Stmt} {f g : DS} (h1 : JS (bs X tbs) W X st f) (h2 : JSs (bs X tbs) W X rest g) : JSs (bs X tbs) W X (st :: rest) (sSeq f g) :=
  PSs_imp (pss_cons h1 h2) fun D σ H ⟨μ, ps, ph, sr, wd, ok⟩ => ⟨μ, ps, ph, sr, wd, OutSOk.seq ok⟩
theorem jss_one {st : Stmt} {f : DS} (h1 : JS (bs X tbs) W X st f) : JSs (bs X tbs) W X [st] f := pss_one h1
theorem js_expr {e : Expr} {f : DE} (h : JE (bs X tbs) W X e f) (hs : swapsWith e none pos.line X.env = pure false := by rfl) : JS (bs X tbs) W X (.Expr e pos) (sDrop f) :=
  PS_imp (ps_expr h hs) fun D σ H ⟨μ, ps, ph, sr, wd, ok⟩ => ⟨μ, ps, ph, sr, wd, OutOk.then_ sr ok fun x ph1 μ1 H1 v e1 w1 r1 ok1 => ok1 μ1 H1 σ Ex.refl w1 (sr.mono e1)⟩
theorem js_ret {e : Expr} {f : DE} (h : JE (bs X tbs) W X e f) : JS (bs X tbs) W X (.Return (some e) pos) (sRet f) :=
  PS_imp (ps_ret h) fun D σ H ⟨μ, ps, ph, sr, wd, ok⟩ => ⟨μ, ps, ph, sr, wd, OutOk.then_ sr ok fun x ph1 μ1 H1 v e1 w1 r1 ok1 => ok1 μ1 H1 v Ex.refl w1 r1⟩
theorem js_if {c : Expr} {a b : List Stmt} {tc : DT} {f g : DS} (hc : JT (bs X tbs) W X c tc) (ha : JSs (bs X tbs) W X a f) (hb : JSs (bs X tbs) W X b g) : JS (bs X tbs) W X (.If c a b pos) (sIf tc f g) :=
  PS_imp (ps_if hc ha hb) fun D σ H ⟨μ, ps, ph, sr, wd, ok⟩ => ⟨μ, ps, ph, sr, wd, OutOk.then_ sr ok fun x ph1 μ1 H1 v e1 w1 r1 ok1 => by
    subst r1
    cases x with
    | true => exact ⟨μ1, ps, ph1, sr.mono e1, w1, ok1⟩
    | false => exact ⟨μ1, ps, ph1, sr.mono e1, w1, ok1⟩⟩
theorem asg_ok {g : GP} {f : DE} {D : Ends} {σ : L2.St} {H : Hp} (h : tDS (bs X tbs) W (sAsg g f) D σ H) : tD (bs X tbs) W f σ H fun x H1 => gD X.K g x σ H1 D.nx := by
  obtain ⟨μ, ps, ph, sr, wd, ok⟩ := h
  refine ⟨μ, ps, ph, sr, wd, OutOk.then_ sr ok fun x ph1 μ1 H1 v e1 w1 r1 ok1 => ?_⟩
  cases e : g x with
  | none =>
    rw [e] at ok1
    exact ok1.elim
  | some as =>
    rw [e] at ok1
    exact ⟨μ1, x, r1, as, e, fun bs' r2 => ok1 μ1 H1 _ Ex.refl w1 ((sr.mono e1).sets r2)⟩
theorem js_asg {tg e : Expr} {f : DE} {g : GP} (he : JE (bs X tbs) W X e f) (hg : JG X tg g) (hs : swapsWithSole [tg] e pos.line X.env = pure false := by rfl) (hw : swappedStores [tg] e X.env = pure none := by rfl)
    (h1 : (assignEach [tg] X.env).map (·.2) = [assign tg X.env] := by rfl) : JS (bs X tbs) W X (.Assign [tg] e pos) (sAsg g f) := PS_imp (ps_asg he hg hs hw h1) fun D σ H h => asg_ok h
theorem js_set {i : Nat} {x : Str} {e : Expr} {f : DE} {pos' : Pos} (hN : X.N.Nodup) (he : JE (bs X tbs) W X e f) (hi : X.N[i]? = some x := by rfl) (hx : Loc X.env.scope x := by first | exact Or.inl rfl | exact Or.inr rfl)
    (hs : swapsWith e (some (.Name x pos')) pos.line X.env = pure false := by rfl) (hf : X.fn x = true ∨ X.env.scope.names.lookup x = some .local := by first | exact .inl rfl | exact .inr rfl | assumption) : JS (bs X tbs) W X (.Assign [.Name x pos'] e pos) (sAsg (gNm i) f) :=
  PS_imp (ps_set hN hi hx he hs hf) fun D σ H h => by
    obtain ⟨μ, ps, ph, sr, wd, ok⟩ := h
    exact ⟨μ, ps, ph, sr, wd, OutOk.then_ sr ok fun x ph1 μ1 H1 v e1 w1 r1 ok1 => ok1 μ1 H1 _ Ex.refl w1 ((sr.mono e1).set i r1)⟩
theorem js_par {i j : Nat} {x y : Str} {a b : Expr} {f : DA} {px py pt : Pos} {kt k2 pt2} (hc : X.calm = true) (hN : X.N.Nodup) (ha : JA (bs X tbs) W X [a, b] f) (hi : X.N[i]? = some x := by rfl) (hj : X.N[j]? = some y := by rfl) (hij : i ≠ j := by decide)
    (hx : X.env.scope.names.lookup x = some .local := by rfl) (hy : X.env.scope.names.lookup y = some .local := by rfl)
    (hw : swappedStores [.Tuple [.Name x px, .Name y py] kt pt] (.Tuple [a, b] k2 pt2) X.env = pure (some [x, y]) := by rfl)
    (hs : swapsWithSole [.Tuple [.Name x px, .Name y py] kt pt] (.Tuple [a, b] k2 pt2) pos.line X.env = pure false := by rfl) : JS (bs X tbs) W X (.Assign [.Tuple [.Name x px, .Name y py] kt pt] (.Tuple [a, b] k2 pt2) pos) (sPar i j f) :=
  PS_imp (ps_par hc hN hi hj hij hx hy ha hw hs) fun D σ H ⟨μ, ps, ph, sr, wd, ok⟩ => ⟨μ, ps, ph, sr, wd, OutOk.then_ sr ok fun xs ph1 μ1 H1 vs e1 w1 r1 ok1 => by
    split at ok1
    · cases r1 with
      | cons ra rr =>
        cases rr with
        | cons rb rr =>
          cases rr
          exact ⟨_, _, rfl, ok1 μ1 H1 _ Ex.refl w1 (((sr.mono e1).set _ ra).set _ rb)⟩
    · exact ok1.elim⟩
end
end Dn
namespace Dn
open PySem PySem.Spec PyProof.Rows L2 PySem.SeqAt

/-! ### defs -/
/-- a def's own function: the arguments, the objects -/
abbrev DF := List PV → PH → Out PV
/-- what a def promises: n arguments -/
def spD (B : Bs) (n : Nat) (m : DF) : Sp := fun vs H Q E => vs.length = n ∧ ∃ μ ps ph, Rls B.K H μ ps vs ∧ Wd B.K B.tbs μ ph H ∧ OutOk B (fun cls d _ H' => E cls d H') (fun H' μ' => Rl B.K H' μ') μ H [] (m ps ph) Q
/-- m is for n arguments -/
def LenF (n : Nat) (m : DF) : Prop := ∀ xs h, xs.length ≠ n → m xs h = .no
/-- a def of the text keeps its function m; the caller's guards are known to be none -/
structure Fd (P : Program) (w : World) (base : Heap) (B : Bs) (k : Nat) (x : Str) (n : Nat) (m : DF) : Prop where
  len : LenF n m
  ex : ∃ (f : Addr) (fd : FuncData) (ps : List Str), B.mg x = some (.ref f) ∧ PySem.W.keepIn B.K (.ref f) = true ∧ ps.length = n ∧ Binds B.K fd ps [] ∧
    ∀ (A : Around) (outer : List Env) (s : Shared) (H : Hp) (args : Args) (us : List Value) (vs : List V) (Q : VK) (E : XK), Room k A → A.guards = some [] → Env0 P w B.K B.mg base A outer s H → BindsTo s fd args (ps.zip us) → Vals vs us → spD B n m vs H Q E →
      codeAny (model P w) A (.call (.ref f) args) (CR (CX P w) outer P w H s Q E) s
theorem Fd.up {P : Program} {w : World} {base : Heap} {B : Bs} {j k : Nat} {x : Str} {n : Nat} {m : DF} (F : Fd P w base B j x n m) (h : j ≤ k) : Fd P w base B k x n m := by
  obtain ⟨f, fd, ps, h1, h2, h3, h4, h5⟩ := F.ex
  exact ⟨F.len, f, fd, ps, h1, h2, h3, h4, fun A outer s H args us vs Q E hr => h5 A outer s H args us vs Q E (hr.mono h)⟩
/-- what a rule asks of the place where the code runs -/
structure Pl (X : Cx) (k : Nat) : Prop where
  room : Room k X.A
  gd : X.A.guards = some []
theorem Pl.mono {X : Cx} {j k : Nat} (p : Pl X k) (h : j ≤ k) : Pl X j := ⟨p.room.mono h, p.gd⟩
def eCallF (m : DF) (a : DA) : DE := fun s h => (a s h).bind fun xs h => m xs h
section
variable {tbs : List Addr} {W : WX} {X : Cx} {p pos : Pos} {k n : Nat} {x : Str} {m : DF}
theorem run_fd {f : Addr} {fd : FuncData} {ps : List Str} {pins : List (Addr × Obj)} {σ : L2.St} {H : Hp} {s : Shared} {Q : VK} {us : List Value} {vs : List V} (pl : Pl X k) (tk : Takes X W) (hb : Binds X.K fd ps []) (hn : ps.length = n)
    (run : ∀ (A : Around) (outer : List Env) (s : Shared) (H : Hp) (args : Args) (us : List Value) (vs : List V) (Q : VK) (E : XK), Room k A → A.guards = some [] → Env0 X.prog X.w X.K X.mg X.base A outer s H → BindsTo s fd args (ps.zip us) → Vals vs us → spD (bs X tbs) n m vs H Q E →
      codeAny (model X.prog X.w) A (.call (.ref f) args) (CR (CX X.prog X.w) outer X.prog X.w H s Q E) s)
    (I : Inv X pins σ H s) (r : Vals vs us) (h : spD (bs X tbs) n m vs H Q fun cls d H' => W cls d σ H') : wpAny (model X.prog X.w) X.A (call (.ref f) us) (EP X pins σ Q) X.xe s := by
  have hl : us.length = ps.length := by rw [hn, ← h.1]; exact r.length.symm
  have hb2 := hb s us I.kIn (by rw [List.append_nil]; exact hl)
  rw [List.append_nil] at hb2
  refine wpAny_call (codeAny_mono (run X.A X.stack s H ⟨us, []⟩ us vs Q _ pl.room pl.gd I.env0 hb2 r h) fun r s' hq => ?_)
  cases r with
  | error e => exact tk e s' (XE.of_call I (fun cls d H' h => h) hq)
  | ok fl =>
    cases fl with
    | ret u => exact I.after hq
    | next => exact False.elim hq
    | brk => exact False.elim hq
    | cont => exact False.elim hq
theorem j_fd {e : Expr} {es : List Expr} {g : DA} (F : Fd X.prog X.w X.base (bs X tbs) k x n m) (pl : Pl X k) (tk : Takes X W) (hg : Gl X x) (ha : JA (bs X tbs) W X (e :: es) g) (hlen : (e :: es).length = n := by rfl)
    (hdb : (x == ("__debug__" : Str)) = false := by decide) (he : starEach (e :: es) X.env = (false, eval e X.env) :: starEach es X.env := by rfl) (hpl : (backTo pos (starEach es X.env)).any (·.1) = false := by rfl) :
    JE (bs X tbs) W X (.Call (.Name x p) (e :: es) [] pos) (eCallF m g) := by
  obtain ⟨f, fd, ps, hm, hk, hn, hb, run⟩ := F.ex
  refine ⟨fun pins s σ H Q I ⟨μ, ps, ph, sr, wd, ok⟩ => ?_⟩
  refine wpAny_Call_Name_kw (ld_glob I hg hm ?_ hdb)
  refine PySem.W.callWith_K (h₀ := X.base) I.ok.mod.kin hk (thn (ha.run pos pins s σ H (fun vs H1 => spD (bs X tbs) n m vs H1 Q fun cls d H' => W cls d σ H') I ⟨μ, ps, ph, sr, wd, ?_⟩) fun us s1 ⟨vs, H1, I1, r, q⟩ => ⟨I1.kIn, run_fd pl tk hb hn run I1 r q⟩) he hpl
  unfold eCallF at ok
  cases eg : g ps ph with
  | no => rw [eg] at ok; exact ok
  | err x h => rw [eg] at ok; exact ok
  | ok xs ph1 =>
    rw [eg] at ok
    simp only [Out.bind_ok] at ok
    by_cases hx : xs.length = n
    · refine fun μ1 H1 vs e1 w1 r1 => ⟨by rw [← r1.len]; exact hx, μ1, xs, ph1, r1, w1, ?_⟩
      have ok2 := OutOk.ext ok e1
      cases em : m xs ph1 with
      | ok v h => rw [em] at ok2; exact ok2
      | err v h => rw [em] at ok2; exact ok2
      | no => rw [em] at ok2; exact ok2
    · rw [F.len xs ph1 hx] at ok
      exact ok.elim
end

/-- the slots at the start of a def -/
def args0 (n : Nat) (xs : List PV) : Sl := xs.map some ++ List.replicate (n - xs.length) none
/-- what a def's body comes to -/
def runB (f : DS) (n : Nat) (xs : List PV) (h : PH) : Out PV := match f (args0 n xs) h with
  | .nx _ h => .ok .non h
  | .rt v h => .ok v h
  | .err e _ h => .err e h
  | _ => .no
/-- who begins at h and is content with o' is content with o -/
def Sums (h : PH) (o o' : Out PV) : Prop := ∀ (B : Bs) (W : WX) (μ : List Addr) (H : Hp) (σ : L2.St) (Q : VK), Wd B.K B.tbs μ h H → OutOk B W (fun H' μ' => Rl B.K H' μ') μ H σ o' Q → OutOk B W (fun H' μ' => Rl B.K H' μ') μ H σ o Q
theorem Sums.refl {h : PH} {o : Out PV} : Sums h o o := fun _ _ _ _ _ _ _ q => q
theorem Sums.no {h : PH} {o : Out PV} : Sums h o .no := fun _ _ _ _ _ _ _ q => q.elim
theorem Sums.gc {h : PH} {o : Out PV} : Sums h o (gcO h o) := fun _ _ _ _ _ _ w q => OutOk.gc w q
theorem Sums.trans {h : PH} {a b c : Out PV} (x : Sums h a b) (y : Sums h b c) : Sums h a c := fun B W μ H σ Q w q => x B W μ H σ Q w (y B W μ H σ Q w q)
/-- a value in which no object is, the objects as they were, some more behind -/
theorem Sums.pure {h g : PH} {v : PV} {o : Out PV} (e : o = .ok v (h ++ g)) (hv : v.still = true) : Sums h o (.ok v h) := by
  subst e
  have z := Sums.gc (h := h) (o := .ok v (h ++ g))
  unfold gcO at z
  dsimp only at z
  rw [if_pos ⟨hv, by simp⟩] at z
  exact z
section
variable {P : Program} {w : World} {K : PySem.W.Frag} {mg : Str → Option Value} {base : Heap} {tbs : List Addr}
theorem sr_start {H : Hp} {μ : List Addr} {N : List Str} {xs : List PV} {vs : List V} (r : Rls K H μ xs vs) : Sr K H μ (args0 N.length xs) (L2.start N vs) := by
  have l := r.len
  refine ⟨by unfold args0 L2.start; rw [List.length_append, List.length_append, List.length_map, List.length_map, List.length_replicate, List.length_replicate, l], fun i x h => ?_⟩
  unfold args0 at h
  by_cases lt : i < xs.length
  · rw [List.getElem?_append_left (by simpa using lt), List.getElem?_map] at h
    cases e : xs[i]? with
    | none => rw [e] at h; cases h
    | some y =>
      rw [e] at h
      cases h
      obtain ⟨v, h1, h2⟩ := r.at e
      refine ⟨v, ?_, h2⟩
      unfold L2.start
      rw [List.getElem?_append_left (by rw [List.length_map, ← l]; exact lt), List.getElem?_map, h1]
      rfl
  · rw [List.getElem?_append_right (by simpa using lt), List.getElem?_replicate] at h
    split at h <;> cases h
theorem guards_deeper {A : Around} {env : Env} : (A.deeper env).guards = A.guards := by
  first
    | rfl
    | simp [Around.deeper, pushGuards]
end
end Dn
namespace Dn
open PySem PySem.Spec PyProof.Rows L2 PySem.SeqAt

/-! ### what a loop walks: the lists that must stay as they are, the items -/
abbrev Its' := List (Nat × List PV) × List PV
abbrev DI := Sl → PH → Out Its'
def okG (gs : List (Nat × List PV)) (h : PH) : Bool := gs.all fun p => decide (h[p.1]? = some (.lst p.2))
structure WkP (K : PySem.W.Frag) (tbs : List Addr) (J : It) (gs : List (Nat × List PV)) (items : List PV) (μ0 : List Addr) (H0 : Hp) : Prop where
  goes : ∀ i H μ ph, i < items.length → Ex μ0 H0 μ H → Wd K tbs μ ph H → okG gs ph = true → J.go i H
  stops : ∀ H μ ph, Ex μ0 H0 μ H → Wd K tbs μ ph H → okG gs ph = true → J.stop items.length H
  yields : ∀ i H μ ph v H', i < items.length → Ex μ0 H0 μ H → Wd K tbs μ ph H → okG gs ph = true → J.yld i H v H' → ∃ x, items[i]? = some x ∧ Ex μ H μ H' ∧ Wd K tbs μ ph H' ∧ Rl K H' μ x v
def tDI (B : Bs) (W : WX) (f : DI) : TI := fun σ H R => ∃ μ ps ph, Sr B.K H μ ps σ ∧ Wd B.K B.tbs μ ph H ∧ OutOk B W (fun H' μ' (p : Its') (J : It) => WkP B.K B.tbs J p.1 p.2 μ' H') μ H σ (f ps ph) fun J H' => R J H'
def JI (B : Bs) (W : WX) (X : Cx) (tg e : Expr) (f : DI) : Prop := PI X tg e (tDI B W f)
theorem PI_imp {X : Cx} {tg e : Expr} {t t' : TI} (h : PI X tg e t) (k : ∀ σ H Q, t' σ H Q → t σ H Q) : PI X tg e t' := ⟨fun pins s σ H Q I q => h.run pins s σ H Q I (k σ H Q q)⟩
theorem PI_or {X : Cx} {tg e : Expr} {t t' : TI} (h : PI X tg e t) (h' : PI X tg e t') : PI X tg e (fun σ H R => t σ H R ∨ t' σ H R) := ⟨fun pins s σ H Q I q => q.elim (h.run pins s σ H Q I) (h'.run pins s σ H Q I)⟩
theorem SqF.sql {K : PySem.W.Frag} {H : Hp} {a : Addr} {xs : List V} (h : SqF K H a xs) : SqL K H a xs := by
  rcases h with ⟨o, h⟩ | h
  · exact .inl (.inr ⟨o, h⟩)
  · exact .inr h
theorem Ex.sqt {K : PySem.W.Frag} {μ μ' : List Addr} {H H' : Hp} (e : Ex μ H μ' H') {a : Addr} {xs : List V} (h : SqT K H a xs) : SqT K H' a xs := e.rd h
def chars (z : Str) : List PV := z.cps.toList.map fun c => .str ⟨#[c]⟩
section
variable {K : PySem.W.Frag} {tbs : List Addr} {μ0 : List Addr} {H0 : Hp} {a : Addr} {vs : List V} {xs : List PV}
theorem wk_tup (h : SqT K H0 a vs) (r : Rls K H0 μ0 xs vs) : WkP K tbs (Itt K a) [] xs μ0 H0 where
  goes := fun i H μ ph lt e _ _ => walk_tup.goes i H (by rw [← r.len]; exact lt) (e.sqt h)
  stops := fun H μ ph e _ _ => by
    rw [r.len]
    exact walk_tup.stops H (e.sqt h)
  yields := fun i H μ ph v H' lt e w _ y => by
    obtain ⟨rfl, hv⟩ := walk_tup.yields i H v H' (by rw [← r.len]; exact lt) (e.sqt h) y
    obtain ⟨v', h1, h2⟩ := (r.mono e).at (List.getElem?_eq_getElem lt)
    rw [hv] at h1
    cases h1
    exact ⟨_, List.getElem?_eq_getElem lt, Ex.refl, w, h2⟩
/-- a list that stays -/
theorem wk_lst {J : It} {gs : List (Nat × List PV)} (same : J = Itl K a) (h : ∀ H μ ph, Ex μ0 H0 μ H → Wd K tbs μ ph H → okG gs ph = true → ∃ ws, SqL K H a ws ∧ Rls K H μ xs ws) : WkP K tbs J gs xs μ0 H0 := by
  subst same
  refine ⟨fun i H μ ph lt e w g => ?_, fun H μ ph e w g => ?_, fun i H μ ph v H' lt e w g y => ?_⟩
  · obtain ⟨ws, q, r⟩ := h H μ ph e w g
    exact walk_list.goes i H (by rw [← r.len]; exact lt) q
  · obtain ⟨ws, q, r⟩ := h H μ ph e w g
    rw [r.len]
    exact walk_list.stops H q
  · obtain ⟨ws, q, r⟩ := h H μ ph e w g
    obtain ⟨rfl, hv⟩ := walk_list.yields i H v H' (by rw [← r.len]; exact lt) q y
    obtain ⟨v', h1, h2⟩ := r.at (List.getElem?_eq_getElem lt)
    rw [hv] at h1
    cases h1
    exact ⟨_, List.getElem?_eq_getElem lt, Ex.refl, w, h2⟩
/-- the list with number n -/
theorem ref_stays {n : Nat} (hk : μ0[n]? = some a) : ∀ H μ ph, Ex μ0 H0 μ H → Wd K tbs μ ph H → okG [(n, xs)] ph = true → ∃ ws, SqL K H a ws ∧ Rls K H μ xs ws := fun H μ ph e w g => by
  have g2 : ph[n]? = some (.lst xs) := by simpa [okG] using g
  obtain ⟨ws, h1, h2⟩ := w.ob n a _ (e.pre n a hk) g2
  exact ⟨ws, SqL.of h1, h2⟩
theorem fz_stays (h : SqF K H0 a vs) (r : Rls K H0 μ0 xs vs) : ∀ H μ ph, Ex μ0 H0 μ H → Wd K tbs μ ph H → okG [] ph = true → ∃ ws, SqL K H a ws ∧ Rls K H μ xs ws := fun H μ ph e w g => ⟨vs, (e.sqf h).sql, r.mono e⟩
theorem wk_str {z : Str} : WkP K tbs (Its z) [] (chars z) μ0 H0 where
  goes := fun i H μ ph lt e _ _ => walk_str.goes i H (by unfold chars at lt; simpa using lt) trivial
  stops := fun H μ ph e _ _ => by
    have z2 := (walk_str (z := z)).stops H trivial
    unfold chars
    rw [List.length_map, Array.length_toList]
    exact z2
  yields := fun i H μ ph v H' lt e w _ y => by
    obtain ⟨rfl, c, hc, rfl⟩ := walk_str.yields i H v H' (by unfold chars at lt; simpa using lt) trivial y
    refine ⟨.str ⟨#[c]⟩, ?_, Ex.refl, w, .str _⟩
    unfold chars
    rw [List.getElem?_map, Array.getElem?_toList, hc]
    rfl
def rangeP (lo : Int) (n : Nat) : List PV := (List.range n).map fun i => .int (lo + (i : Nat))
theorem wk_range {lo : Int} {n : Nat} : WkP K tbs (Itr lo n) [] (rangeP lo n) μ0 H0 where
  goes := fun i H μ ph lt e _ _ => walk_range.goes i H (by unfold rangeP at lt; simpa using lt) trivial
  stops := fun H μ ph e _ _ => by
    have z2 := (walk_range (lo := lo) (n := n)).stops H trivial
    unfold rangeP
    rw [List.length_map, List.length_range]
    exact z2
  yields := fun i H μ ph v H' lt e w _ y => by
    have lt2 : i < n := by unfold rangeP at lt; simpa using lt
    obtain ⟨rfl, rfl⟩ := walk_range.yields i H v H' lt2 trivial y
    refine ⟨.int (lo + (i : Nat)), ?_, Ex.refl, w, .int _⟩
    unfold rangeP
    rw [List.getElem?_map, List.getElem?_range lt2]
    rfl
end
/-- a tuple, a list, a text -/
def iSeq (f : DE) : DI := fun s h => (f s h).bind fun v h => match v with
  | .tup xs => .ok ([], xs) h
  | .kt xs => .ok ([], xs) h
  | .fz xs => .ok ([], xs) h
  | .str z => .ok ([], chars z) h
  | .ref n => match h[n]? with
    | some (.lst xs) => .ok ([(n, xs)], xs) h
    | _ => .no
  | _ => .no
def iRange1 (f : DE) : DI := fun s h => (f s h).bind fun v h => match v with
  | .int j => if decide (-4611686018427387904 ≤ j ∧ j < 4611686018427387904) then .ok ([], rangeP 0 j.toNat) h else .no
  | _ => .no
def iRange2 (f g : DE) : DI := fun s h => (f s h).bind fun v h => (g s h).bind fun w h => match v, w with
  | .int i, .int j => if decide (-4611686018427387904 ≤ i ∧ i < 4611686018427387904 ∧ -4611686018427387904 ≤ j ∧ j < 4611686018427387904) then .ok ([], rangeP i (j - i).toNat) h else .no
  | _, _ => .no
section
variable {tbs : List Addr} {W : WX} {X : Cx} {tg e : Expr} {p pos : Pos}
theorem tDI.of_tD {f : DE} {g : DI} {σ : L2.St} {H : Hp} {R : It → Hp → Prop} {k : PV → PH → Out Its'} (eq : g = fun s h => (f s h).bind k) (h : tDI (bs X tbs) W g σ H R) {Q : VK}
    (q : ∀ x ph μ' H' v, Wd X.K tbs μ' ph H' → Rl X.K H' μ' x v → OutOk (bs X tbs) W (fun H' μ' (p : Its') (J : It) => WkP X.K tbs J p.1 p.2 μ' H') μ' H' σ (k x ph) (fun J H' => R J H') → Q v H') : tD (bs X tbs) W f σ H Q := by
  obtain ⟨μ, ps, ph, sr, wd, ok⟩ := h
  subst eq
  exact ⟨μ, ps, ph, sr, wd, OutOk.bind ok fun x ph1 μ1 H1 v e1 w1 r1 ok1 => q x ph1 μ1 H1 v w1 r1 ok1⟩
theorem ji_seq {f : DE} (h : JE (bs X tbs) W X e f) : JI (bs X tbs) W X tg e (iSeq f) :=
  PI_imp (PI_or (pi_tup h) (PI_or (pi_list h) (pi_str h))) fun σ H R ⟨μ, ps, ph, sr, wd, ok⟩ => by
    unfold iSeq at ok
    cases ef : f ps ph with
    | no => rw [ef] at ok; exact ok.elim
    | err z h2 =>
      refine .inl ⟨μ, ps, ph, sr, wd, ?_⟩
      rw [ef] at ok ⊢
      exact ok
    | ok v h2 =>
      rw [ef] at ok
      simp only [Out.bind_ok] at ok
      have fin : ∀ {g : DE} {Q : VK}, g ps ph = .ok v h2 → (∀ μ' H' x, Ex μ H μ' H' → Wd X.K tbs μ' h2 H' → Rl X.K H' μ' v x → Q x H') → tD (bs X tbs) W g σ H Q := fun {g Q} e q => ⟨μ, ps, ph, sr, wd, by rw [e]; exact q⟩
      cases v with
      | tup xs =>
        refine .inl (fin ef fun μ' H' x e1 w1 r1 => ?_)
        cases r1 with
        | @tup a vs _ ht ra => exact ⟨a, rfl, ⟨_, SqT.of ht⟩, ok μ' H' _ e1 w1 (wk_tup (SqT.of ht) ra)⟩
      | kt xs =>
        refine .inl (fin ef fun μ' H' x e1 w1 r1 => ?_)
        cases r1 with
        | @kt a vs _ ht ra => exact ⟨a, rfl, ⟨_, .inr ht⟩, ok μ' H' _ e1 w1 (wk_tup (.inr ht) ra)⟩
      | fz xs =>
        refine .inr (.inl (fin ef fun μ' H' x e1 w1 r1 => ?_))
        cases r1 with
        | @fz a vs _ ht ra => exact ⟨a, rfl, ⟨_, ht.sql⟩, ok μ' H' _ e1 w1 (wk_lst rfl (fz_stays ht ra))⟩
      | str z =>
        refine .inr (.inr (fin ef fun μ' H' x e1 w1 r1 => ?_))
        cases r1
        exact ⟨z, rfl, ok μ' H' _ e1 w1 wk_str⟩
      | ref n =>
        dsimp only at ok
        split at ok
        · rename_i xs hn
          refine .inr (.inl (fin ef fun μ' H' x e1 w1 r1 => ?_))
          cases r1 with
          | @ref _ a hk =>
            obtain ⟨vs, h1, h2'⟩ := w1.ob n a _ hk hn
            exact ⟨a, rfl, ⟨_, SqL.of h1⟩, ok μ' H' _ e1 w1 (wk_lst rfl (ref_stays hk))⟩
        · exact ok.elim
      | non => exact ok.elim
      | bl b => exact ok.elim
      | int i => exact ok.elim
theorem ja_ones {f : DE} {α β : Type} {rel : Hp → List Addr → α → β → Prop} {σ : L2.St} {H : Hp} {μ : List Addr} {ps : Sl} {ph : PH} {k : PV → PH → Out α} {R : β → Hp → Prop} {Q : List V → Hp → Prop} (sr : Sr X.K H μ ps σ) (wd : Wd X.K tbs μ ph H) (ok : OutOk (bs X tbs) W rel μ H σ ((f ps ph).bind k) R)
    (q : ∀ x ph μ' H' v, Ex μ H μ' H' → Wd X.K tbs μ' ph H' → Rl X.K H' μ' x v → OutOk (bs X tbs) W rel μ' H' σ (k x ph) R → Q [v] H') : tDA (bs X tbs) W (eCons f eNil) σ H Q := by
  refine ⟨μ, ps, ph, sr, wd, ?_⟩
  unfold eCons eNil
  cases ef : f ps ph with
  | no => rw [ef] at ok; exact ok.elim
  | err z h2 => rw [ef] at ok; exact ok
  | ok v h2 =>
    rw [ef] at ok
    simp only [Out.bind_ok] at ok ⊢
    intro μ' H' vs e1 w1 r1
    cases r1 with
    | cons ra rb =>
      cases rb
      exact q v h2 μ' H' _ e1 w1 ra (OutOk.ext ok e1)
theorem ji_range {f : DE} (hg : Gl X "range") (hm : X.mg "range" = none) (ha : JE (bs X tbs) W X e f) (hs : starEach [e] X.env = [(false, eval e X.env)] := by rfl) : JI (bs X tbs) W X tg (.Call (.Name "range" p) [e] [] pos) (iRange1 f) :=
  PI_imp (pi_range1 hg hm (j_cons ha j_nil hs) hs) fun σ H R ⟨μ, ps, ph, sr, wd, ok⟩ => ja_ones sr wd ok fun x ph μ' H' v e1 w1 r1 ok1 => by
    split at ok1
    · rename_i j
      cases r1
      split at ok1
      · rename_i hz
        obtain ⟨h1, h2⟩ := of_decide_eq_true hz
        exact ⟨j, rfl, by omega, by omega, ok1 μ' H' _ Ex.refl w1 wk_range⟩
      · exact ok1.elim
    · exact ok1.elim
/-! ### enumerate, zip, reversed -/
def enumP : Nat → List PV → List PV
  | _, [] => []
  | k, x :: r => .tup [.int k, x] :: enumP (k + 1) r
theorem enumP_at : ∀ (xs : List PV) (k i : Nat), (enumP k xs)[i]? = xs[i]?.map fun x => .tup [.int ((k + i : Nat) : Int), x]
  | [], _, _ => by simp [enumP]
  | x :: r, k, 0 => by simp [enumP]
  | x :: r, k, i + 1 => by
    show (enumP (k + 1) r)[i]? = _
    rw [enumP_at r (k + 1) i]
    have e : k + 1 + i = k + (i + 1) := by omega
    rw [e]
    rfl
theorem enumP_len : ∀ (xs : List PV) (k : Nat), (enumP k xs).length = xs.length
  | [], _ => rfl
  | x :: r, k => by
    show (enumP (k + 1) r).length + 1 = _
    rw [enumP_len r (k + 1)]
    rfl
theorem pair_ok {K : PySem.W.Frag} {μ : List Addr} {ph : PH} {H H' : Hp} {v x y : V} {px py : PV} {T : Addr} (w : Wd K tbs μ ph H) (hv : v = .ref T) (hT : H T = none) (hH : H' = upd H T (.tup [x, y])) (r1 : Rl K H μ px x) (r2 : Rl K H μ py y) :
    Ex μ H μ H' ∧ Wd K tbs μ ph H' ∧ Rl K H' μ (.tup [px, py]) v := by
  subst hv hH
  exact w.newTup (.cons r1 (.cons r2 .nil)) hT
theorem wk_enumT {K : PySem.W.Frag} {μ0 : List Addr} {H0 : Hp} {a : Addr} {vs : List V} {xs : List PV} (h : SqT K H0 a vs) (r : Rls K H0 μ0 xs vs) : WkP K tbs (Rw.Itet K a) [] (enumP 0 xs) μ0 H0 where
  goes := fun i H μ ph lt e _ _ => Rw.walk_enumT.goes i H (by rw [enumP_len] at lt; rw [← r.len]; exact lt) (e.sqt h)
  stops := fun H μ ph e _ _ => by
    rw [enumP_len, r.len]
    exact Rw.walk_enumT.stops H (e.sqt h)
  yields := fun i H μ ph v H' lt e w _ y => by
    rw [enumP_len] at lt
    obtain ⟨T, x, y, e1, e2, e3, e4, e5⟩ := Rw.walk_enumT.yields i H v H' (by rw [← r.len]; exact lt) (e.sqt h) y
    obtain ⟨v', h1, h2⟩ := (r.mono e).at (List.getElem?_eq_getElem lt)
    dsimp only at e4 e5
    rw [e5] at h1
    cases h1
    cases e4
    obtain ⟨a1, a2, a3⟩ := pair_ok w e1 e2 e3 (.int ((i : Nat) : Int)) h2
    refine ⟨_, ?_, a1, a2, a3⟩
    rw [enumP_at, List.getElem?_eq_getElem lt, Nat.zero_add]
    rfl
theorem wk_enumL {K : PySem.W.Frag} {μ0 : List Addr} {H0 : Hp} {a : Addr} {gs : List (Nat × List PV)} {xs : List PV} (h : ∀ H μ ph, Ex μ0 H0 μ H → Wd K tbs μ ph H → okG gs ph = true → ∃ ws, SqL K H a ws ∧ Rls K H μ xs ws) : WkP K tbs (Ite K a) gs (enumP 0 xs) μ0 H0 where
  goes := fun i H μ ph lt e w g => by
    obtain ⟨ws, q, r⟩ := h H μ ph e w g
    exact walk_enum.goes i H (by rw [enumP_len] at lt; rw [← r.len]; exact lt) q
  stops := fun H μ ph e w g => by
    obtain ⟨ws, q, r⟩ := h H μ ph e w g
    rw [enumP_len, r.len]
    exact walk_enum.stops H q
  yields := fun i H μ ph v H' lt e w g y => by
    obtain ⟨ws, q, r⟩ := h H μ ph e w g
    rw [enumP_len] at lt
    obtain ⟨T, x, y, e1, e2, e3, e4, e5⟩ := walk_enum.yields i H v H' (by rw [← r.len]; exact lt) q y
    obtain ⟨v', h1, h2⟩ := r.at (List.getElem?_eq_getElem lt)
    dsimp only at e4 e5
    rw [e5] at h1
    cases h1
    cases e4
    obtain ⟨a1, a2, a3⟩ := pair_ok w e1 e2 e3 (.int ((i : Nat) : Int)) h2
    refine ⟨_, ?_, a1, a2, a3⟩
    rw [enumP_at, List.getElem?_eq_getElem lt, Nat.zero_add]
    rfl
def iEnumP (f : DE) : DI := fun s h => (f s h).bind fun v h => match v with
  | .tup xs => .ok ([], enumP 0 xs) h
  | .fz xs => .ok ([], enumP 0 xs) h
  | .ref n => match h[n]? with
    | some (.lst xs) => .ok ([(n, xs)], enumP 0 xs) h
    | _ => .no
  | _ => .no
theorem ja_one {f : DE} {σ : L2.St} {H : Hp} {μ : List Addr} {ps : Sl} {ph : PH} {v : PV} {h2 : PH} {Q : List V → Hp → Prop} (sr : Sr X.K H μ ps σ) (wd : Wd X.K tbs μ ph H) (ef : f ps ph = .ok v h2) (q : ∀ μ' H' x, Ex μ H μ' H' → Wd X.K tbs μ' h2 H' → Rl X.K H' μ' v x → Q [x] H') :
    tDA (bs X tbs) W (eCons f eNil) σ H Q := by
  refine ⟨μ, ps, ph, sr, wd, ?_⟩
  unfold eCons eNil
  rw [ef]
  simp only [Out.bind_ok]
  intro μ' H' vs e1 w1 r1
  cases r1 with
  | cons ra rb =>
    cases rb
    exact q μ' H' _ e1 w1 ra
theorem ja_err {f : DE} {σ : L2.St} {H : Hp} {μ : List Addr} {ps : Sl} {ph : PH} {z : PErr} {h2 : PH} {Q : List V → Hp → Prop} {β : Type} {rel : Hp → List Addr → Its' → β → Prop} {R : β → Hp → Prop} (sr : Sr X.K H μ ps σ) (wd : Wd X.K tbs μ ph H) (ef : f ps ph = .err z h2) (ok : OutOk (bs X tbs) W rel μ H σ (.err z h2 : Out Its') R) :
    tDA (bs X tbs) W (eCons f eNil) σ H Q := by
  refine ⟨μ, ps, ph, sr, wd, ?_⟩
  unfold eCons
  rw [ef]
  exact ok
theorem ji_enum {f : DE} {elts : List Expr} {kk : Nat} {tpos : Pos} (hg : Gl X "enumerate") (hm : X.mg "enumerate" = none) (ha : JE (bs X tbs) W X e f) (hs : starEach [e] X.env = [(false, eval e X.env)] := by rfl) : JI (bs X tbs) W X (.Tuple elts kk tpos) (.Call (.Name "enumerate" p) [e] [] pos) (iEnumP f) :=
  PI_imp (PI_or (Rw.pi_enumT hg hm (j_cons ha j_nil hs) hs) (pi_enum hg hm (j_cons ha j_nil hs) hs)) fun σ H R ⟨μ, ps, ph, sr, wd, ok⟩ => by
    unfold iEnumP at ok
    cases ef : f ps ph with
    | no => rw [ef] at ok; exact ok.elim
    | err z h2 =>
      rw [ef] at ok
      exact .inl (ja_err sr wd ef ok)
    | ok v h2 =>
      rw [ef] at ok
      simp only [Out.bind_ok] at ok
      cases v with
      | tup xs =>
        refine .inl (ja_one sr wd ef fun μ' H' x e1 w1 r1 => ?_)
        cases r1 with
        | @tup a vs _ ht ra => exact ⟨a, _, rfl, SqT.of ht, ok μ' H' _ e1 w1 (wk_enumT (SqT.of ht) ra)⟩
      | kt xs => exact ok.elim
      | fz xs =>
        refine .inr (ja_one sr wd ef fun μ' H' x e1 w1 r1 => ?_)
        cases r1 with
        | @fz a vs _ ht ra => exact ⟨a, _, rfl, ht.sql, ok μ' H' _ e1 w1 (wk_enumL (fz_stays ht ra))⟩
      | ref n =>
        dsimp only at ok
        split at ok
        · rename_i xs hn
          refine .inr (ja_one sr wd ef fun μ' H' x e1 w1 r1 => ?_)
          cases r1 with
          | @ref _ a hk =>
            obtain ⟨vs, h1, h2'⟩ := w1.ob n a _ hk hn
            exact ⟨a, _, rfl, SqL.of h1, ok μ' H' _ e1 w1 (wk_enumL (ref_stays hk))⟩
        · exact ok.elim
      | str z => exact ok.elim
      | non => exact ok.elim
      | bl b => exact ok.elim
      | int i => exact ok.elim
/-- pairs, as long as both go -/
def zipP (xs ys : List PV) : List PV := List.zipWith (fun x y => .tup [x, y]) xs ys
/-- the items of a list, and what must stay -/
def lstOf (h : PH) : PV → Option Its'
  | .fz xs => some ([], xs)
  | .ref n => match h[n]? with
    | some (.lst xs) => some ([(n, xs)], xs)
    | _ => none
  | _ => none
def iZipP (f g : DE) : DI := fun s h => (f s h).bind fun v h => (g s h).bind fun w h => match v, w with
  | .tup xs, .tup ys => .ok ([], zipP xs ys) h
  | _, _ => match lstOf h v, lstOf h w with
    | some a, some b => .ok (a.1 ++ b.1, zipP a.2 b.2) h
    | _, _ => .no
end

/-! ### for -/
def forItems (gs : List (Nat × List PV)) (g : GP) (body : DS) : List PV → Sl → PH → OutS
  | [], s, h => if okG gs h then .nx s h else .no
  | x :: r, s, h => if okG gs h then match g x with
      | some as => match body (setP as s) h with
        | .nx s h => forItems gs g body r s h
        | .ct s h => forItems gs g body r s h
        | .bk s h => .nx s h
        | o => o
      | none => .no
    else .no
def sFor (it : DI) (g : GP) (body : DS) : DS := fun s h => (it s h).then s fun p h => forItems p.1 g body p.2 s h
section
variable {tbs : List Addr} {W : WX} {X : Cx} {tg e : Expr} {pos : Pos}
theorem js_for {body : List Stmt} {it : DI} {g : GP} {f : DS} (hp : PassesOwn (model X.prog X.w) X.A X.env X.xe) (hc : X.calm = true) (hi : JI (bs X tbs) W X tg e it) (hg : JG X tg g) (hb : JSs (bs X tbs) W X body f)
    (hs : ∀ x, foldedSetIterable e X.env x = pure x := by intro _; rfl) : JS (bs X tbs) W X (.For tg e body [] pos) (sFor it g f) :=
  PS_imp (ps_for hp hc hi hg hb hs) fun D σ H ⟨μ, ps, ph, sr, wd, ok⟩ => ⟨μ, ps, ph, sr, wd, OutOk.then_ sr ok fun its ph1 μ1 H1 J e1 w1 wk ok1 => by
    obtain ⟨gs, items⟩ := its
    dsimp only at wk ok1
    refine ⟨fun i m σ H => m = items.length - i ∧ i ≤ items.length ∧ ∃ μ ps ph, Ex μ1 H1 μ H ∧ Sr X.K H μ ps σ ∧ Wd X.K tbs μ ph H ∧ OutSOk (bs X tbs) W μ H (forItems gs g f (items.drop i) ps ph) D, ⟨items.length, by simp, Nat.zero_le _, μ1, ps, ph1, Ex.refl, sr.mono e1, w1, ok1⟩, ?_⟩
    rintro i m σ2 H2 ⟨rfl, hi, μ2, ps2, ph2, e2, sr2, w2, ok2⟩
    have gOk : okG gs ph2 = true := by
      cases hz : okG gs ph2 with
      | true => rfl
      | false =>
        cases hd : items.drop i with
        | nil =>
          rw [hd] at ok2
          unfold forItems at ok2
          rw [hz] at ok2
          exact ok2.elim
        | cons x r =>
          rw [hd] at ok2
          unfold forItems at ok2
          rw [hz] at ok2
          exact ok2.elim
    by_cases lt : i < items.length
    · refine .inr ⟨wk.goes i H2 μ2 ph2 lt e2 w2 gOk, _, fun σ' H' h => ⟨items.length - (i + 1), by omega, rfl, lt, h⟩, fun x H' y => ?_⟩
      obtain ⟨px, hx, e3, w3, r3⟩ := wk.yields i H2 μ2 ph2 x H' lt e2 w2 gOk y
      have hd : items.drop i = px :: items.drop (i + 1) := by
        rw [List.drop_eq_getElem_cons lt]
        rw [List.getElem?_eq_getElem lt] at hx
        cases hx
        rfl
      rw [hd] at ok2
      unfold forItems at ok2
      rw [if_pos gOk] at ok2
      cases eg : g px with
      | none =>
        rw [eg] at ok2
        exact ok2.elim
      | some as =>
        rw [eg] at ok2
        dsimp only at ok2
        refine ⟨μ2, px, r3, as, eg, fun bs' rb => ⟨μ2, setP as ps2, ph2, (sr2.mono e3).sets rb, w3, ?_⟩⟩
        have ok3 := OutSOk.ext ok2 e3
        cases eb : f (setP as ps2) ph2 with
        | nx s h =>
          rw [eb] at ok3
          exact fun μ' H' σ' x1 w' s' => ⟨μ', s, h, (e2.trans e3).trans x1, s', w', OutSOk.ext ok3 x1⟩
        | ct s h =>
          rw [eb] at ok3
          exact fun μ' H' σ' x1 w' s' => ⟨μ', s, h, (e2.trans e3).trans x1, s', w', OutSOk.ext ok3 x1⟩
        | bk s h => rw [eb] at ok3; exact ok3
        | rt v h => rw [eb] at ok3; exact ok3
        | err z s h => rw [eb] at ok3; exact ok3
        | no => rw [eb] at ok3; exact ok3
    · have e3 : i = items.length := by omega
      subst e3
      refine .inl ⟨wk.stops H2 μ2 ph2 e2 w2 gOk, ?_⟩
      rw [List.drop_length] at ok2
      unfold forItems at ok2
      rw [if_pos gOk] at ok2
      exact ok2 μ2 H2 σ2 Ex.refl w2 sr2⟩
end
end Dn
namespace Dn
open PySem PySem.Spec PyProof.Rows L2 PySem.SeqAt

/-! ### comprehensions -/
def wipeP (s : Sl) : List Nat → Sl
  | [] => s
  | v :: vs => (wipeP s vs).set v none
theorem Sr.wipe {K : PySem.W.Frag} {H : Hp} {μ : List Addr} {ps : Sl} {σ : L2.St} (h : Sr K H μ ps σ) : ∀ vs : List Nat, Sr K H μ (wipeP ps vs) (L2.wipe σ vs)
  | [] => h
  | v :: vs => by
    have q := Sr.wipe h vs
    refine ⟨by show ((wipeP ps vs).set v none).length = ((L2.wipe σ vs).set v none).length; rw [List.length_set, q.len, List.length_set], fun i x e => ?_⟩
    have e : ((wipeP ps vs).set v none)[i]? = some (some x) := e
    by_cases z : v = i
    · subst z
      by_cases lt : v < (wipeP ps vs).length
      · rw [List.getElem?_set_self lt] at e; cases e
      · rw [List.getElem?_eq_none (by simpa using lt)] at e; cases e
    · rw [List.getElem?_set_ne z] at e
      obtain ⟨u, h1, h2⟩ := q.at_ i x e
      refine ⟨u, ?_, h2⟩
      unfold L2.wipe
      rw [List.getElem?_set_ne z]
      exact h1
/-- the target's slots are among vs -/
def GOk (vs : List Nat) (g : GP) : Prop := ∀ x as, g x = some as → ∀ p ∈ as, p.1 ∈ vs
theorem gok_nm {vs : List Nat} {i : Nat} (h : i ∈ vs := by decide) : GOk vs (gNm i) := fun x as e p hp => by
  cases e
  rw [List.mem_singleton.mp hp]
  exact h
theorem wipe_set {σ : L2.St} {i : Nat} {x : Option V} : ∀ {vs : List Nat}, i ∈ vs → L2.wipe (σ.set i x) vs = L2.wipe σ vs
  | [], h => by cases h
  | v :: vs, h => by
    show (L2.wipe (σ.set i x) vs).set v none = (L2.wipe σ vs).set v none
    by_cases z : i ∈ vs
    · rw [wipe_set z]
    · have e : i = v := by
        rcases List.mem_cons.mp h with e | e
        · exact e
        · exact absurd e z
      subst e
      have key : ∀ ws : List Nat, i ∉ ws → L2.wipe (σ.set i x) ws = (L2.wipe σ ws).set i x := by
        intro ws
        induction ws with
        | nil => intro _; rfl
        | cons w ws ih =>
          intro hn
          simp only [List.mem_cons, not_or] at hn
          show (L2.wipe (σ.set i x) ws).set w none = ((L2.wipe σ ws).set w none).set i x
          rw [ih hn.2, List.set_comm _ _ (fun q => hn.1 q)]
      rw [key vs z, List.set_set]
theorem wipe_sets : ∀ {bs : List (Nat × V)} {σ : L2.St} {vs : List Nat}, (∀ p ∈ bs, p.1 ∈ vs) → L2.wipe (setV bs σ) vs = L2.wipe σ vs
  | [], _, _, _ => rfl
  | (i, x) :: r, σ, vs, h => by
    show L2.wipe (setV r (σ.set i (some x))) vs = _
    rw [wipe_sets fun p hp => h p (List.mem_cons_of_mem _ hp), wipe_set (h (i, x) List.mem_cons_self)]
theorem RlA.slots {K : PySem.W.Frag} {H : Hp} {μ : List Addr} {vs : List Nat} : ∀ {a : List (Nat × PV)} {c : List (Nat × V)}, RlA K H μ a c → (∀ p ∈ a, p.1 ∈ vs) → ∀ p ∈ c, p.1 ∈ vs
  | _, _, .nil, _, p, hp => by cases hp
  | _, _, @RlA.cons _ _ _ i x v r s h t, q, p, hp => by
    rcases List.mem_cons.mp hp with e | e
    · rw [e]
      exact q (i, x) List.mem_cons_self
    · exact RlA.slots t (fun p hp => q p (List.mem_cons_of_mem _ hp)) p e
theorem wipe_wipe {σ : L2.St} : ∀ vs : List Nat, L2.wipe (L2.wipe σ vs) vs = L2.wipe σ vs := by
  have key : ∀ (ws : List Nat) (σ : L2.St) (vs : List Nat), (∀ i ∈ ws, i ∈ vs) → L2.wipe (L2.wipe σ ws) vs = L2.wipe σ vs := by
    intro ws
    induction ws with
    | nil => intro σ vs _; rfl
    | cons w ws ih =>
      intro σ vs h
      show L2.wipe ((L2.wipe σ ws).set w none) vs = _
      rw [wipe_set (h w List.mem_cons_self), ih σ vs fun i hi => h i (List.mem_cons_of_mem _ hi)]
  exact fun vs => key vs σ vs fun _ h => h
/-- an exception is not let out -/
def Out.ne {α : Type} : Out α → Out α
  | .err _ _ => .no
  | o => o
@[simp] theorem Out.ne_ok {α : Type} (a : α) (h : PH) : (Out.ok a h).ne = .ok a h := rfl
@[simp] theorem Out.ne_err {α : Type} (e : PErr) (h : PH) : (Out.err e h : Out α).ne = .no := rfl
@[simp] theorem Out.ne_no {α : Type} : (Out.no : Out α).ne = .no := rfl
abbrev W0 : WX := fun _ _ _ _ => False
/-- one behind the other, nothing is let out -/
theorem OutOk.bindN {B : Bs} {W : WX} {α β α' β' : Type} {rel : Hp → List Addr → α → β → Prop} {rel' : Hp → List Addr → α' → β' → Prop} {μ : List Addr} {H : Hp} {σ : L2.St} {σ' : L2.St} {W' : WX} {o : Out α} {k : α → PH → Out α'} {Q' : β' → Hp → Prop} {Q : β → Hp → Prop}
    (h : OutOk B W rel' μ H σ (o.ne.bind k) Q') (q : ∀ x ph μ' H' v, Ex μ H μ' H' → Wd B.K B.tbs μ' ph H' → rel H' μ' x v → OutOk B W rel' μ' H' σ (k x ph) Q' → Q v H') : OutOk B W' rel μ H σ' o Q := by
  cases o with
  | ok x ph => exact fun μ' H' v e w r => q x ph μ' H' v e w r (OutOk.ext h e)
  | err x ph => exact h.elim
  | no => exact h.elim
def JTs (B : Bs) (W : WX) (X : Cx) (ifs : List Expr) (f : DT) : Prop := PTs X ifs (tDT B W f)
def tYesD : DT := fun _ h => .ok true h
theorem jts_nil {X : Cx} {tbs : List Addr} {W : WX} : JTs (bs X tbs) W X [] tYesD := ⟨fun pins s σ H Q I ⟨μ, ps, ph, sr, wd, ok⟩ => (pts_nil (X := X)).run pins s σ H Q I (ok μ H true Ex.refl wd rfl)⟩
theorem jts_one {X : Cx} {tbs : List Addr} {W : WX} {c : Expr} {f : DT} (h : JT (bs X tbs) W X c f) : JTs (bs X tbs) W X [c] f := pts_one h
/-- the items one by one, the new list at n -/
def compItems (gs : List (Nat × List PV)) (g : GP) (t : DT) (e : DE) (n : Nat) (s : Sl) : List PV → PH → Out Unit
  | [], h => if okG gs h then .ok () h else .no
  | x :: r, h => if okG gs h then match g x with
      | some as => (t (setP as s) h).ne.bind fun b h => if b = true then (e (setP as s) h).ne.bind fun y h => match h[n]? with
          | some (.lst acc) => if acc.length < 16777216 then compItems gs g t e n s r (h.set n (.lst (acc ++ [y]))) else .no
          | _ => .no
        else compItems gs g t e n s r h
      | none => .no
    else .no
def eLc (it : DI) (g : GP) (t : DT) (e : DE) (vs : List Nat) : DE := fun s h => (it s h).bind fun p h => (compItems p.1 g t e h.length (wipeP s vs) p.2 (h ++ [.lst []])).bind fun _ h2 => .ok (.ref h.length) h2
section
variable {tbs : List Addr} {W : WX} {X : Cx} {tg iter elt : Expr} {pos : Pos}
theorem lc_ok {it : DI} {g : GP} {t : DT} {e : DE} {vs : List Nat} {σ : L2.St} {H : Hp} {Q : VK} (gok : GOk vs g) (h : tD (bs X tbs) W (eLc it g t e vs) σ H Q) :
    tLc (tDI (bs X tbs) W it) (gD X.K g) (tDT (bs X tbs) W0 t) (tD (bs X tbs) W0 e) vs σ H Q := by
  obtain ⟨μ, ps, ph, sr, wd, ok⟩ := h
  refine ⟨μ, ps, ph, sr, wd, OutOk.bind ok fun its ph1 μ1 H1 J e1 w1 wk ok1 => ?_⟩
  obtain ⟨gs, items⟩ := its
  dsimp only at wk ok1
  intro D hD
  obtain ⟨x0, w0, _⟩ := w1.newLst (xs := []) (vs := []) .nil hD
  have lenE : (ph1 ++ [MO.lst []]).length = ph1.length + 1 := by simp
  have atD : (μ1 ++ [D])[ph1.length]? = some D := by rw [← w1.len]; simp
  have ok2 := OutOk.ext ok1 x0
  refine ⟨fun i m H => m = items.length - i ∧ i ≤ items.length ∧ ∃ μ ph, Ex (μ1 ++ [D]) (upd H1 D (.lst [])) μ H ∧ Wd X.K tbs μ ph H ∧ OutOk (bs X tbs) W (fun H' μ' => Rl X.K H' μ') μ H σ ((compItems gs g t e ph1.length (wipeP ps vs) (items.drop i) ph).bind fun _ h2 => .ok (.ref ph1.length) h2) Q,
    ⟨items.length, by simp, Nat.zero_le _, _, _, Ex.refl, w0, ok2⟩, ?_⟩
  rintro i m H2 ⟨rfl, hi, μ2, ph2, e2, w2, ok2⟩
  have gOk : okG gs ph2 = true := by
    cases hz : okG gs ph2 with
    | true => rfl
    | false =>
      cases hd : items.drop i with
      | nil =>
        rw [hd] at ok2
        unfold compItems at ok2
        rw [hz] at ok2
        exact ok2.elim
      | cons x r =>
        rw [hd] at ok2
        unfold compItems at ok2
        rw [hz] at ok2
        exact ok2.elim
  have e12 : Ex μ1 H1 μ2 H2 := x0.trans e2
  by_cases lt : i < items.length
  · refine .inr ⟨wk.goes i H2 μ2 ph2 lt e12 w2 gOk, _, fun H' h => ⟨items.length - (i + 1), by omega, rfl, lt, h⟩, fun x H' y => ?_⟩
    obtain ⟨px, hx, e3, w3, r3⟩ := wk.yields i H2 μ2 ph2 x H' lt e12 w2 gOk y
    have hd : items.drop i = px :: items.drop (i + 1) := by
      rw [List.drop_eq_getElem_cons lt]
      rw [List.getElem?_eq_getElem lt] at hx
      cases hx
      rfl
    rw [hd] at ok2
    unfold compItems at ok2
    rw [if_pos gOk] at ok2
    cases eg : g px with
    | none =>
      rw [eg] at ok2
      exact ok2.elim
    | some as =>
      rw [eg] at ok2
      dsimp only at ok2
      refine ⟨μ2, px, r3, as, eg, fun bs' rb => ⟨?_, μ2, setP as (wipeP ps vs), ph2, ((sr.mono (e1.trans (e12.trans e3))).wipe vs).sets rb, w3, ?_⟩⟩
      · rw [wipe_sets (rb.slots (gok _ _ eg)), wipe_wipe]
      · have ok3 := OutOk.ext ok2 e3
        have srB := ((sr.mono (e1.trans (e12.trans e3))).wipe vs).sets rb
        have ok4 : OutOk (bs X tbs) W (fun H' μ' => Rl X.K H' μ') μ2 H' σ ((t (setP as (wipeP ps vs)) ph2).ne.bind fun b h => ((if b = true then (e (setP as (wipeP ps vs)) h).ne.bind fun y h => match h[ph1.length]? with
            | some (.lst acc) => if acc.length < 16777216 then compItems gs g t e ph1.length (wipeP ps vs) (items.drop (i + 1)) (h.set ph1.length (.lst (acc ++ [y]))) else .no
            | _ => .no
          else compItems gs g t e ph1.length (wipeP ps vs) (items.drop (i + 1)) h)).bind fun _ h2 => .ok (.ref ph1.length) h2) Q := by
          cases et : t (setP as (wipeP ps vs)) ph2 with
          | ok b h => rw [et] at ok3; exact ok3
          | err b h => rw [et] at ok3; exact ok3
          | no => rw [et] at ok3; exact ok3
        refine OutOk.bindN ok4 fun b ph4 μ4 H4 c e4 w4 rb4 ok5 => ?_
        subst rb4
        cases b with
        | false => exact ⟨μ4, ph4, e2.trans (e3.trans e4), w4, ok5⟩
        | true =>
          simp only [if_true] at ok5 ⊢
          have ok6 : OutOk (bs X tbs) W (fun H' μ' => Rl X.K H' μ') μ4 H4 σ ((e (setP as (wipeP ps vs)) ph4).ne.bind fun y h => ((match h[ph1.length]? with
            | some (.lst acc) => if acc.length < 16777216 then compItems gs g t e ph1.length (wipeP ps vs) (items.drop (i + 1)) (h.set ph1.length (.lst (acc ++ [y]))) else .no
            | _ => .no)).bind fun _ h2 => .ok (.ref ph1.length) h2) Q := by
            cases et : e (setP as (wipeP ps vs)) ph4 with
            | ok b h => rw [et] at ok5; exact ok5
            | err b h => rw [et] at ok5; exact ok5
            | no => rw [et] at ok5; exact ok5
          refine ⟨μ4, _, ph4, srB.mono e4, w4, OutOk.bindN ok6 fun py ph5 μ5 H5 yv e5 w5 r5 ok7 => ?_⟩
          split at ok7
          · rename_i acc hacc
            split at ok7
            · rename_i hlt
              have hD5 : μ5[ph1.length]? = some D := (e2.trans (e3.trans (e4.trans e5))).pre _ _ atD
              obtain ⟨ws, q1, q2⟩ := w5.ob _ D _ hD5 hacc
              refine ⟨ws, q1, by rw [← q2.len, sizeLine_eq]; exact hlt, ?_⟩
              have nt : Ex μ5 H5 μ5 (upd H5 D (.lst (ws ++ [yv]))) := Ex.put q1 (by intro _ z; cases z) (by intro _ _ z; cases z)
              obtain ⟨w6, e6⟩ := w5.put (m := .lst (acc ++ [py])) hD5 (o := .lst (ws ++ [yv])) ⟨_, upd_same, (q2.snoc r5).mono nt⟩
              exact ⟨μ5, _, (e2.trans (e3.trans (e4.trans e5))).trans e6, w6, OutOk.ext ok7 e6⟩
            · exact ok7.elim
          · exact ok7.elim
  · have e3 : i = items.length := by omega
    subst e3
    refine .inl ⟨wk.stops H2 μ2 ph2 e12 w2 gOk, ?_⟩
    rw [List.drop_length] at ok2
    unfold compItems at ok2
    rw [if_pos gOk] at ok2
    exact ok2 μ2 H2 _ Ex.refl w2 (.ref (e2.pre _ _ atD))
theorem j_lc {ifs : List Expr} {scope : Scope} {own : List (Str × Nat)} {it : DI} {g : GP} {t : DT} {e : DE} (hc : X.calm = true) (hN : X.N.Nodup) (hi : JI (bs X tbs) W X tg iter it) (ok : BlkOk X.N X.env.scope scope own) (gok : GOk (own.map (·.2)) g)
    (hg : ∀ (s : Shared) (H : Hp) (C : Addr) (cl : List (Str × Addr)) (fp : List Addr), JG (X.blk s H scope (compEnvC scope cl C X.env) fp) tg g) (ht : ∀ (s : Shared) (H : Hp) (C : Addr) (cl : List (Str × Addr)) (fp : List Addr), JTs (bs X tbs) W0 (X.blk s H scope (compEnvC scope cl C X.env) fp) ifs t)
    (he : ∀ (s : Shared) (H : Hp) (C : Addr) (cl : List (Str × Addr)) (fp : List Addr), JE (bs X tbs) W0 (X.blk s H scope (compEnvC scope cl C X.env) fp) elt e) (hs : ∀ x, foldedSetIterable iter X.env x = pure x := by intro _; rfl) :
    JE (bs X tbs) W X (.ListComp elt [⟨tg, iter, ifs, 0⟩] scope pos) (eLc it g t e (own.map (·.2))) :=
  PE_imp (pe_lc (g := gD X.K g) (tt := tDT (bs X tbs) W0 t) (te := tD (bs X tbs) W0 e) hc hN hi ok hg ht he hs) fun σ H Q h => lc_ok gok h
end
end Dn
namespace Dn
open PySem PySem.Spec PyProof.Rows L2 GenW
open Sem (wp)

/-! ### tuple(a generator) -/
/-- a generator that has not begun; nothing is let out -/
def GMk (P : Program) (w : World) (k : Nat) (outer : List Env) (H : Hp) (s : Shared) (ex : List Addr) (Q : List V → Hp → Prop) (u : Value) (s' : Shared) : Prop :=
  ∃ (a : Addr) (g : Nat) (c : Code), u = .ref a ∧ s.heap.objs.size ≤ a ∧ a < s'.heap.objs.size ∧ s'.heap.IsGen a g ∧ s'.gens[g]? = some (.fresh c) ∧ s'.os = s.os ∧ AllBare s'.gens ∧ s'.heap.NoLimit ∧
    ∀ (A : Around) (S : Addr) (s2 : Shared), Room k A → A.guards = some [] → A.frames = some outer → s'.heap.objs.size ≤ S → (∀ b o, s'.heap.get? b = some o → s2.heap.get? b = some o) → (∃ c, s2.heap.get? S = some (lstObj #[] c)) → s2.os = s.os → AllBare s2.gens →
      Seg (model P w) A (REnd P w outer H s ex S a g Q (fun _ _ _ => False)) (YItem s S a g) sizeLine s2 c ((model P w).den c) [] s2
section
variable {P : Program} {w : World} {A : Around} {E : Value → Shared → Prop} {outer : List Env} {H : Hp} {sc s : Shared} {ex : List Addr} {Q : List V → Hp → Prop} {k : Nat} {u : Value}
/-- what stands when it has ended -/
def Drained (P : Program) (w : World) (outer : List Env) (H : Hp) (sc : Shared) (ex : List Addr) (Q : List V → Hp → Prop) (acc : List Value) (s' : Shared) : Prop :=
  ∃ H' ys, Vals ys acc ∧ ys.length ≤ sizeLine ∧ s'.os = sc.os ∧ AllBare s'.gens ∧ Un (frs outer) ex H H' sc.heap s'.heap ∧ HOk P w H' s'.heap ∧ Q ys H'
theorem collect_drain {Q' : List Value → Shared → Prop} (hr : Room (k + 6) A) (hg : A.guards = some []) (hfr : A.frames = some outer) (h : GMk P w k outer H sc ex Q u s) (hQ : ∀ acc s', Drained P w outer H sc ex Q acc s' → Q' acc s') :
    wpAny (model P w) A (collect u) Q' E s := by
  obtain ⟨a, g, c, rfl, ha1, ha2, hgen, hgs, hos, hb, hl, wake⟩ := h
  have hSa : s.heap.objs.size ≠ a := Nat.ne_of_gt ha2
  have hcl : cStatics < s.heap.objs.size := let ⟨_, hn, _⟩ := hl; hn.lt
  have hSc : s.heap.objs.size ≠ cStatics := Nat.ne_of_gt hcl
  unfold collect
  refine wpAny_bind (wpAny_runValue (codeAny_builtin F.entry_proto_collect ?_))
  rw [Around.under_plainId F.plain_proto_collect _]
  show wpAny _ A.in1 (newList [] >>= fun l => again (.builtin "list.__iadd__" ⟨[l, .ref a], []⟩)) _ _ s
  refine wpAny_bind (wpAny_newObj_type ?_)
  refine wpAny_pure ⟨plainId_quiet F.plain_list_iadd _, codeAny_builtin F.entry_list_iadd ?_⟩
  rw [Around.under_plainId F.plain_list_iadd _]
  have gty : ∀ {h : Heap}, (∀ b o, s.heap.get? b = some o → h.get? b = some o) → h.IsGen a g := fun {h} q => hgen.keeps q
  have k1 : ∀ b o, s.heap.get? b = some o → (s.heap.push { cls := .type "list", data := .seq ([] : List Value).toArray }).get? b = some o := fun b o e => Heap.get?_push_of_some _ e
  have up : ∀ (h : Heap) (f : Obj → Obj), (∀ b o, s.heap.get? b = some o → h.get? b = some o) → ∀ b o, s.heap.get? b = some o → (h.update s.heap.objs.size f).get? b = some o := fun h f q b o e =>
    (Heap.get?_update_other _ _ (Ne.symm (Nat.ne_of_lt (Heap.lt_size e)))).trans (q b o e)
  show wpAny _ A.in1 (Builtin.List.listExtendWith (.ref s.heap.objs.size) (.ref a) (.ref s.heap.objs.size)) _ _ _
  unfold Builtin.List.listExtendWith
  refine wpAny_bind (wpAny_typeOf (Heap.IsGen.typeIs (s := { s with heap := _ }) (gty k1)) ?_)
  have h1 : Builtin.List.listSameRef (.ref s.heap.objs.size) (.ref a) = false := by simp [Builtin.List.listSameRef, hSa]
  have h2 : (Value.type "generator" == Value.type "list") = false := by decide
  have h3 : (Value.type "generator" == Value.type "tuple") = false := by decide
  simp only [h1, h2, h3, Bool.or_false, Bool.false_eq_true, if_false]
  refine wpAny_bind (wpAny_pyIter_gen (s := { s with heap := _ }) (gty k1) ?_)
  refine wpAny_bind (wpAny_holding ?_)
  unfold Builtin.List.listLengthHint
  refine wpAny_bind (wpAny_specialOf (Heap.IsGen.typeIs (s := { s with heap := _ }) (gty k1)) F.gen_no_len ?_)
  show wpAny _ A.in1 (specialOf (Value.ref a) (Str.ofString "__length_hint__") >>= _) _ _ _
  refine wpAny_bind (wpAny_specialOf (Heap.IsGen.typeIs (s := { s with heap := _ }) (gty k1)) F.gen_no_hint ?_)
  refine wpAny_pure ?_
  show wpAny _ A.in1 (rule "list.extend.makes-room" >>= fun _ => Builtin.List.listTouch (.ref s.heap.objs.size) >>= fun _ =>
    again (.builtin "list.extend.loop" ⟨[.ref s.heap.objs.size, .ref a, .ref s.heap.objs.size], []⟩)) _ _ _
  refine wpAny_bind (wpAny_rule ?_)
  have hS₁ : (s.heap.push { cls := .type "list", data := .seq ([] : List Value).toArray }).get? s.heap.objs.size = some { cls := .type "list", data := .seq ([] : List Value).toArray } := Heap.get?_push_size _ rfl
  refine wpAny_bind ?_
  show wpAny _ A.in1 (updateSeq s.heap.objs.size (·.push .none) >>= fun _ => updateSeq s.heap.objs.size (·.pop)) _ _ _
  refine wpAny_bind (wpAny_updateSeq hS₁ rfl ?_)
  have hS₂ := Heap.get?_update_self (Obj.mapSeq (·.push Value.none)) hS₁ rfl
  refine wpAny_updateSeq hS₂ rfl ?_
  have hS₃ := Heap.get?_update_self (Obj.mapSeq (·.pop)) hS₂ rfl
  have k4 := up _ (Obj.mapSeq (·.pop)) (up _ (Obj.mapSeq (·.push Value.none)) k1)
  refine wpAny_pure ⟨plainId_quiet F.plain_extend_loop _, ?_⟩
  refine drain (P := P) (w := w) (outer := outer) (H := H) (sc := sc) (ex := ex) (Q := Q) (EX := fun _ _ _ => False) (A := A) (g := g) hr.hd (by have := hr.dp; show A.depth < _; omega) hSa hSc
    (fun s' acc c H' ys q1 q2 q3 q4 q5 q6 q7 q8 q9 => ?_) (fun e s' hc => ?_) sizeLine _ (gty k4) (hl.keeps k4) ⟨_, hgs, rfl, ?_⟩
  · show wpAny _ A (load s.heap.objs.size >>= _) _ _ s'
    exact wpAny_bind (wpAny_load q1 (wpAny_pure (hQ _ s' ⟨H', ys, q2, q3, q4, q5, q6, q7, q9⟩)))
  · obtain ⟨_, _, _, _, _, _, _, _, _, _, _, _, z⟩ := hc
    exact z.elim
  · refine wake _ _ _ ⟨hr.hd, ?_, ?_⟩ hg hfr (Nat.le_refl _) k4 ⟨_, hS₃⟩ hos (allBare_setGen (s := { s with heap := _ }) hb rfl)
    · have := hr.dp
      show A.depth + 3 * k + 5 < _
      omega
    · have := hr.un
      show A.units + 1 + 1 + 16 * k + 200 < _
      omega
theorem tuple_drain {Q' : Value → Shared → Prop} (hr : Room (k + 9) A) (hg : A.guards = some []) (hfr : A.frames = some outer) (h : GMk P w k outer H sc ex Q u s)
    (hQ : ∀ (acc : List Value) s', Drained P w outer H sc ex Q acc s' → Q' (.ref s'.heap.objs.size) { s' with heap := s'.heap.push { cls := .type "tuple", data := .seq acc.toArray } }) :
    wpAny (model P w) A (call (.type "tuple") [u]) Q' E s := by
  have hty : s.TypeIs u "generator" := by
    obtain ⟨a, g, c, rfl, _, _, hgen, _⟩ := h
    exact hgen.typeIs
  have hsub := sub_tuple_self
  have hinit := init_tuple_lookup
  have hmh := madeHere_tuple
  refine callType_codes (Q₁ := fun obj s₁ => s₁.TypeIs obj "tuple" ∧ Q' obj s₁) F.called_tuple (F.typeCall_tuple_1 _) F.entry_object_init ?_ fun obj s₁ h₁ => ?_
  · refine codeAny_of_tree ?_
    show wpAny _ _ (do checkBuiltinCall "tuple.__new__" ⟨[.type "tuple", u], []⟩; again (.builtin "tuple.__new__" ⟨[.type "tuple", u], []⟩)) _ _ s
    refine wpAny_bind (wpAny_of_eq (F.newCall_tuple_1 _) (wpAny_pure ⟨plainId_quiet F.plain_tuple_new _, codeAny_builtin F.entry_tuple_new ?_⟩))
    rw [Around.under_plainId F.plain_tuple_new _]
    have hr2 : Room (k + 6) A.in1.in1 := ((hr.mono (by omega : k + 6 + 1 + 1 ≤ k + 9)).in1).in1
    have col : ∀ {Q2 : List Value → Shared → Prop} {E2 : Value → Shared → Prop}, (∀ acc s', Drained P w outer H sc ex Q acc s' → Q2 acc s') → wpAny (model P w) A.in1.in1 (collect u) Q2 E2 s := fun q => collect_drain hr2 hg hfr h q
    wp_walk using wpAny_typeOf hty, col
    intro acc s' d
    show wpAny _ _ (Builtin.Tuple.tupleExact acc.toArray >>= fun v => ret v) _ _ _
    unfold Builtin.Tuple.tupleExact
    have hz : acc.length ≤ sizeLine := by
      obtain ⟨_, ys, r, z, _⟩ := d
      rw [← r.length]
      exact z
    refine wpAny_bind (wpAny_newObj_type ?_ (by show acc.toArray.size ≤ sizeLine; rw [List.size_toArray]; exact hz))
    exact wpAny_pure ⟨⟨_, Heap.get?_push_size _ rfl, rfl⟩, hQ acc s' d⟩
  · exact ⟨h₁.1, F.args_object_init_2 obj _, object_init_meets F.called_tuple.init.lookup F.called_tuple.made (by decide) P w A.in1 _ s₁ ⟨h₁.1, rfl, h₁.2⟩⟩
end
end Dn
namespace Dn
open PySem PySem.Spec PyProof.Rows L2 GenW GxR
open Sem (wp)

/-! ### a generator expression's own frame -/
structure GenOk (N : List Str) (sc scope : Scope) (own : List (Str × Nat)) : Prop where
  kind : scope.kind = .function
  co : scope.isCoroutine = false
  cell : ∀ y ∈ scope.names, y.2 ≠ .cell
  dot : scope.names.lookup (".0" : Str) = some NameKind.local
  uniq : ∀ y ∈ scope.names, scope.names.lookup y.1 = some y.2
  ix : ∀ p ∈ own, N[p.2]? = some p.1
  free : ∀ y ∈ scope.names, y.2 = .free → sc.names.lookup y.1 = some .cell ∨ sc.names.lookup y.1 = some .free
  own : ∀ y ∈ scope.names, y.2 = .local → y.1 ∈ own.map (·.1) ∨ y.1 ∉ N
def gnkC (N : List Str) (sc scope : Scope) (own : List (Str × Nat)) : Bool :=
  decide (scope.kind = .function) && decide (scope.isCoroutine = false) && (scope.names.all fun y => decide (y.2 ≠ .cell)) && decide (scope.names.lookup (".0" : Str) = some NameKind.local) && (scope.names.all fun y => decide (scope.names.lookup y.1 = some y.2)) &&
    (own.all fun p => decide (N[p.2]? = some p.1)) && (scope.names.all fun y => decide (y.2 = .free → sc.names.lookup y.1 = some .cell ∨ sc.names.lookup y.1 = some .free)) && (scope.names.all fun y => decide (y.2 = .local → y.1 ∈ own.map (·.1) ∨ y.1 ∉ N))
theorem genOk_by {N : List Str} {sc scope : Scope} {own : List (Str × Nat)} (h : gnkC N sc scope own = true) : GenOk N sc scope own := by
  unfold gnkC at h
  simp only [Bool.and_eq_true, List.all_eq_true, decide_eq_true_eq] at h
  obtain ⟨⟨⟨⟨⟨⟨⟨h1, h2⟩, h3⟩, h4⟩, h5⟩, h6⟩, h7⟩, h8⟩ := h
  exact ⟨h1, h2, h3, h4, h5, h6, h7, h8⟩
/-- the context of its code, woken in A; s, H: the state when it was made -/
abbrev gx (X : Cx) (s : Shared) (H : Hp) (A : Around) (genv : Env) (fp : List Addr) (pn : List (Addr × Obj)) : Cx :=
  { X with s_0 := s, H_0 := H, A := A.deeper genv, env := genv, outer := X.stack, stack := genv :: X.stack, ex := fp, fn := fun _ => false, calm := true, pn := pn, xe := fun _ _ => False }
section
variable {X : Cx} {pins : List (Addr × Obj)} {σ : L2.St} {H : Hp} {s s2 : Shared} {scope : Scope} {own : List (Str × Nat)} {fp : List Addr} {pn : List (Addr × Obj)} {A : Around} {code : Value}
theorem gx_start (I : Inv X pins σ H s) (ok : GenOk X.N X.env.scope scope own) (hN : X.N.Nodup) (hfp : ∀ b ∈ fp, FpOk X pins H b ∧ b < s.heap.objs.size) (k : ∀ b o, s.heap.get? b = some o → s2.heap.get? b = some o) (hn : ∃ m, s2.heap.Ns s.heap.objs.size m) (os : s2.os = s.os) (ba : AllBare s2.gens)
    (hA : A.frames = some X.stack) (hd : A.handled = none) (hp : ∀ p ∈ pn, s2.heap.get? p.1 = some p.2 ∧ H p.1 = none ∧ p.1 ≠ s.heap.objs.size ∧ p.1 ∉ frs X.stack ∧ ∀ v, p.2.data ≠ .cell v) :
    Inv (gx X s H A (genEnv scope (cloFrom X.env.cells scope.names []) s.heap.objs.size code builtinsNs X.env) fp pn) [] (L2.wipe σ (own.map (·.2))) H s2 := by
  have hfree : ∀ y ∈ scope.names, y.2 = .free → ∃ c, X.env.cells.lookup y.1 = some c := fun y hy e => by
    rcases ok.free y hy e with k | k
    · exact I.ok.has _ (.inl k)
    · exact I.ok.has _ (.inr k)
  have cm : ∀ {y c}, (y, c) ∈ cloFrom X.env.cells scope.names [] → X.env.cells.lookup y = some c ∧ c < s.heap.objs.size := fun {y c} hm => by
    rcases cloFrom_mem hm with hm | ⟨h1, rfl⟩
    · cases hm
    · obtain ⟨c, hc⟩ := hfree _ h1 rfl
      rw [hc]
      obtain ⟨w, z⟩ := I.cell _ _ hc
      exact ⟨rfl, z.lt⟩
  have cl : ∀ {y c}, (cloFrom X.env.cells scope.names []).lookup y = some c → X.env.cells.lookup y = some c ∧ c < s.heap.objs.size := fun {y c} e => cm (PySem.mem_of_lookup e)
  have look : ∀ {y}, scope.names.lookup y = some .free → ∃ c, (cloFrom X.env.cells scope.names []).lookup y = some c ∧ X.env.cells.lookup y = some c := fun {y} hl => by
    obtain ⟨c', e'⟩ := mem_lookup (cloFrom_has (cells := X.env.cells) (acc := []) (PySem.mem_of_lookup hl))
    exact ⟨c', e', (cl e').1⟩
  refine ⟨⟨I.ok.mod, ok.kind, I.ok.glob, rfl, Nat.le_refl _, fun y z c e1 e2 => I.ok.inj y z c (cl e1).1 (cl e2).1, fun y hy => ?_, fun y c z => absurd z Bool.false_ne_true, fun _ => hd, Around.frames_deeper hA, .inr ⟨rfl, rfl⟩, fun b hb => ⟨?_, fun y c e z => ?_⟩, I.bs, Nat.le_trans I.ok.bsz I.sz, fun b o e hb => ?_, fun b hb z => ?_, I.stack, I.stkFree⟩,
    os, ba, Un.kept k, ?_, fun y c e => ?_, I.hok.fresh (Nat.le_refl _), fun y c e => I.freeC y c (cl e).1, fun p h => ?_, I.hok.kept k, by rw [wipe_length]; exact I.len⟩
  · rcases hy with hy | hy
    · exact absurd rfl (ok.cell _ (PySem.mem_of_lookup (show scope.names.lookup y = some .cell from hy)))
    · obtain ⟨c, h1, _⟩ := look (show scope.names.lookup y = some .free from hy)
      exact ⟨c, h1⟩
  · exact Nat.ne_of_lt (hfp b hb).2
  · exact (hfp b hb).1.2.2.2.2.1 y c (cl e).1 z
  · rcases (hfp b hb).1.2.2.2.1 with z | z
    · exact I.ok.noex b o e z
    · exact absurd (Nat.lt_of_lt_of_le (Heap.lt_size e) (Nat.le_trans I.ok.bsz z)) (Nat.lt_irrefl _)
  · rcases List.mem_cons.mp (I.stkSub b z) with z | z
    · exact (hfp b hb).1.2.1 z
    · exact (hfp b hb).1.2.2.1 z
  · obtain ⟨m, hm⟩ := hn
    refine ⟨m, hm, fun i y av e1 e2 e3 => ?_⟩
    obtain ⟨e2, hne⟩ := wipe_some e2
    have e3 : Vis scope y := e3
    have hfr : scope.names.lookup y = some .free := by
      rcases e3 with e3 | e3 | e3
      · rcases ok.own _ (PySem.mem_of_lookup e3) rfl with e' | e'
        · obtain ⟨p, hp, hpy⟩ := List.mem_map.mp e'
          have e4 := ok.ix p hp
          have : p.1 = y := hpy
          rw [this] at e4
          exact absurd (List.mem_map.mpr ⟨p, hp, nodup_ix hN e4 e1⟩) hne
        · exact absurd (List.mem_of_getElem? e1) e'
      · exact absurd rfl (ok.cell _ (PySem.mem_of_lookup e3))
      · exact e3
    obtain ⟨mo, hno, hl⟩ := I.loc
    have hvis : Vis X.env.scope y := (ok.free _ (PySem.mem_of_lookup hfr) rfl).elim (fun k => .inr (.inl k)) (fun k => .inr (.inr k))
    obtain ⟨w, r, q⟩ := hl i y av e1 e2 hvis
    refine ⟨w, r, .inr ⟨.inr hfr, ?_⟩⟩
    obtain ⟨c, h1, h2⟩ := look hfr
    rcases q with ⟨k', _⟩ | ⟨_, c', e', z⟩
    · have k' : X.env.scope.names.lookup y = some .local := k'
      rcases ok.free _ (PySem.mem_of_lookup hfr) rfl with k2 | k2 <;> rw [show X.env.scope.names.lookup y = _ from k2] at k' <;> cases k'
    · rw [h2] at e'
      cases e'
      exact ⟨c, h1, z.keeps k⟩
  · obtain ⟨w, z⟩ := I.cell y c (cl e).1
    exact ⟨w, z.keeps k⟩
  · have h' : p ∈ pn := by simpa using h
    exact hp p h'
end

theorem over_genL {A : Around} {elt : Expr} {gs : List Comprehension} {sc : Scope} {pos : Pos} {it acc : Value} {env : Env} : A.over (.compLoop (.GeneratorExp elt gs sc pos) 0 it acc env) [] = A.deeper env := by
  first
    | rfl
    | (obtain ⟨hd, d, fr, gs, u⟩ := A; simp [Around.over, Around.deeper, marksOver, frameCount, unitsOf, envsOf, guardsOf, pushEnvs, pushGuards, Code.envs, Code.env?, Code.isFrame, Code.guards, Code.isGuard, Code.weight, Code.frames, Code.isCreation, Code.isCaller, Code.cUnits])
/-- what it hands out, walking J; vs: its own slots; C: what is wanted at the end -/
def GoX (J : It) (g : TG) (tt : TT) (te : TE) (vs : List Nat) (σ : L2.St) (C : List V → Hp → Prop) (W : Nat → Nat → List V → Hp → Prop) : Prop := ∀ i m ys H, W i m ys H →
  (J.stop i H ∧ C ys H) ∨ (J.go i H ∧ ∃ Nx : List V → Hp → Prop, (∀ ys' H', Nx ys' H' → ∃ m', m' < m ∧ W (i + 1) m' ys' H') ∧ ∀ x H', J.yld i H x H' → g x (L2.wipe σ vs) H' fun σ2 H2 => L2.wipe σ2 vs = L2.wipe σ vs ∧ tt σ2 H2 fun b H3 =>
    if b = true then te σ2 H3 fun y H4 => ys.length < sizeLine ∧ Nx (ys ++ [y]) H4 else Nx ys H3)
/-- its end -/
def EndX (X : Cx) (S : Addr) (C : List V → Hp → Prop) : GenEnd := fun n _ r s => r = .ok .next ∧ ∃ (ys : List V) (acc : Array Value) (c : Nat) (σ' : L2.St) (H' : Hp), n + ys.length = sizeLine ∧ Vals ys acc.toList ∧ Inv X [(S, lstObj acc c)] σ' H' s ∧ C ys H'
section
variable {X : Cx} {σ : L2.St} {s0 : Shared} {H0 : Hp} {A : Around} {genv : Env} {fp : List Addr} {pn : List (Addr × Obj)} {elt tg iter : Expr} {ifs : List Expr} {scope : Scope} {pos : Pos} {J : It} {it S : Addr} {tn : Nat → Heap → Prop} {g : TG} {tt : TT} {te : TE} {vs : List Nat} {C : List V → Hp → Prop} {W : Nat → Nat → List V → Hp → Prop}
theorem gx_loop (T : Turn X.prog X.w X.K tg J fp it tn) (hco : genv.scope.isCoroutine = false) (hSfp : ∀ b ∈ fp, b ≠ S) (hpn : ∀ p ∈ pn, p.1 ≠ S) (hpf : ∀ p ∈ pn, p.1 ∉ fp) (hA : Apart (gx X s0 H0 A genv fp pn) S)
    (hg : PG (gx X s0 H0 A genv fp pn) tg g) (ht : PTs (gx X s0 H0 A genv fp pn) ifs tt) (he : PE (gx X s0 H0 A genv fp pn) elt te) (go : GoX J g tt te vs σ C W) :
    ∀ (m n i : Nat) (ys : List V) (s₀ s : Shared) (H : Hp) (acc : Array Value) (c : Nat), n + ys.length = sizeLine → W i m ys H → Vals ys acc.toList → Inv (gx X s0 H0 A genv fp pn) [(S, lstObj acc c)] (L2.wipe σ vs) H s → tn i s.heap → (∀ b ∈ fp, H b = none) →
      Seg (model X.prog X.w) A (EndX (gx X s0 H0 A genv fp pn) S C) (GY (gx X s0 H0 A genv fp pn) S) n s₀ (.compLoop (.GeneratorExp elt [⟨tg, iter, ifs, 0⟩] scope pos) 0 (.ref it) .none genv)
        ((model X.prog X.w).den (.compLoop (.GeneratorExp elt [⟨tg, iter, ifs, 0⟩] scope pos) 0 (.ref it) .none genv)) [] s := by
  have stat : ∀ {pins' : List (Addr × Obj)} {σ' : L2.St} {H' : Hp} {s' : Shared}, Inv (gx X s0 H0 A genv fp pn) pins' σ' H' s' → (∀ p ∈ pins', p.1 ∉ fp) → (∀ b ∈ fp, H' b = none) → ∀ b ∈ fp, FpOk (gx X s0 H0 A genv fp pn) pins' H' b := fun {pins' σ' H' s'} I' hq hn b hb =>
    ⟨hn b hb, (I'.ok.exf b hb).1, I'.ok.exfs b hb, .inl hb, fun x c e => (I'.ok.exf b hb).2 x c e, fun p hp z => by
      rcases List.mem_append.mp hp with h | h
      · exact hpf p h (z ▸ hb)
      · exact hq p h (z ▸ hb)⟩
  have sOut : ∀ acc c, ∀ p ∈ [(S, lstObj acc c)], p.1 ∉ fp := fun acc c p hp hb => by
    rw [List.mem_singleton.mp hp] at hb
    exact hSfp S hb rfl
  intro m
  induction m using Nat.strongRecOn with
  | ind m ih =>
    intro n i ys s₀ s H acc c hn w r I st fr
    refine (show Seg _ A _ _ _ s₀ _ ((compTurn (.GeneratorExp elt [⟨tg, iter, ifs, 0⟩] scope pos) 0 (.ref it) .none genv).onRaise (leaving genv)) [] s from ?_)
    rw [compTurn_gen, Sem.onRaise_eq_wrap]
    refine seg_bind_wrap (wpAny_standAt (seg_bind_wrap ?_))
    rw [over_genL]
    rcases go i m ys H w with ⟨stop, hC⟩ | ⟨goes, Nx, hNx, step⟩
    · refine thn (T.done (gx X s0 H0 A genv fp pn) rfl rfl rfl rfl i _ s _ H _ I (stat I (sOut acc c) fr) st stop) fun r' s1 ⟨hr, I1⟩ => ?_
      subst hr
      exact seg_end (.ok .next) ⟨rfl, ys, acc, c, _, H, hn, r, I1, hC⟩
    · refine thn (T.item (gx X s0 H0 A genv fp pn) rfl rfl rfl rfl i _ s _ H _ I (stat I (sOut acc c) fr) st goes) fun r' s1 ⟨u, hr, h1⟩ => ?_
      subst hr
      refine seg_bind_wrap ?_
      rw [over_genL]
      refine thn h1 fun _ s2 ⟨x, H2, I2, r2, y2, st2, fr2⟩ => ?_
      have I2' := I2.pinned (stat I2 (sOut acc c) fr2) (T.obj _ _ st2)
      refine seg_bind_wrap ?_
      rw [over_genL]
      refine thnF (hg.run _ s2 _ H2 x u _ I2' r2 (step x H2 y2)) fun _ s3 ⟨σ3, H3, I3, hw3, q3⟩ => ?_
      refine seg_bind_wrap ?_
      rw [over_genL]
      refine thnF (ht.run _ s3 σ3 H3 _ I3 q3) fun b s4 ⟨H4, I4, q4⟩ => ?_
      have pin' : ∀ {pins' : List (Addr × Obj)} {σ' : L2.St} {s' : Shared} {H' : Hp}, Inv (gx X s0 H0 A genv fp pn) (pins' ++ pinsAt fp s2.heap) σ' H' s' → ∀ b ∈ fp, ∀ o, s2.heap.get? b = some o → s'.heap.get? b = some o ∧ H' b = none := fun {pins' σ' s' H'} I' b hb o e =>
        let z := I'.pin (b, o) (List.mem_append_right _ (List.mem_append_right _ (mem_pinsAt hb e)))
        ⟨z.1, z.2.1⟩
      have fin : ∀ {n' : Nat} {ys' : List V} {s₀' s' : Shared} {H' : Hp} {acc' : Array Value} {c' : Nat}, n' + ys'.length = sizeLine → Vals ys' acc'.toList → Inv (gx X s0 H0 A genv fp pn) ([(S, lstObj acc' c')] ++ pinsAt fp s2.heap) σ3 H' s' → Nx ys' H' →
          Seg (model X.prog X.w) A (EndX (gx X s0 H0 A genv fp pn) S C) (GY (gx X s0 H0 A genv fp pn) S) n' s₀' (.compLoop (.GeneratorExp elt [⟨tg, iter, ifs, 0⟩] scope pos) 0 (.ref it) .none genv) (.pure (.again (.compLoop (.GeneratorExp elt [⟨tg, iter, ifs, 0⟩] scope pos) 0 (.ref it) .none genv))) [] s' := fun {n' ys' s₀' s' H' acc' c'} hn' r' I' nx => by
        obtain ⟨m', hm, w'⟩ := hNx ys' H' nx
        have hl : (L2.wipe σ vs).length = σ3.length := by rw [← hw3, wipe_length]
        refine seg_again rfl (ih m' hm n' (i + 1) ys' s₀' s' H' acc' c' hn' w' r' ((I'.unpinned (pins := [(S, lstObj acc' c')])).weak hl fun j v e => ?_) (T.keep _ _ _ st2 fun b hb o e => (pin' I' b hb o e).1) fun b hb => ?_)
        · rw [← hw3] at e
          exact (wipe_some e).1
        · obtain ⟨o, e, _⟩ := T.obj _ _ st2 b hb
          exact (pin' I' b hb o e).2
      cases b with
      | false =>
        simp only [Bool.false_eq_true, if_false] at q4 ⊢
        exact fin hn r I4 q4
      | true =>
        simp only [if_true] at q4 ⊢
        have gives : ∀ v, yieldOut genv v = yieldValue v := fun v => by simp only [yieldOut, hco, Bool.false_eq_true, if_false]
        simp only [gives]
        rw [Sem.bind_eq_wrap', Sem.bind_eq_wrap', Sem.wrap_wrap, Sem.wrap_wrap]
        refine seg_wrap ?_
        rw [over_genL]
        refine thnF (he.run _ s4 σ3 H4 _ I4 q4) fun z s5 ⟨yv, H5, I5, r5, lt5, nx⟩ => ?_
        obtain ⟨n, rfl⟩ : ∃ k, n = k + 1 := ⟨n - 1, by omega⟩
        refine seg_at (seg_yield rfl rfl rfl ?_)
        have G5 : GI (gx X s0 H0 A genv fp pn) S (pinsAt fp s2.heap) ys σ3 H5 s5 := ⟨acc, c, r, I5⟩
        refine ⟨ys, yv, pinsAt fp s2.heap, σ3, H5, hn, r5, G5, fun s6 z6 => ?_⟩
        obtain ⟨acc6, c6, r6, I6⟩ := G5.woken hpn (fun p hp e => by
          obtain ⟨hb, _⟩ := of_pinsAt hp
          exact hSfp _ hb e) hA r5 z6
        exact fin (by rw [List.length_append, List.length_singleton]; omega) r6 I6 nx
end
end Dn
namespace Dn
open PySem PySem.Spec PyProof.Rows L2 GenW GxR
open Sem (wp)
def tGx (P : Addr) (wi : TI) (g : TG) (tt : TT) (te : TE) (vs : List Nat) : L2.St → Hp → (List V → Hp → Prop) → Prop := fun σ H C => wi σ H fun J H1 => TabG H1 P ∧ ∀ H2, Tabbed P H1 H2 → ∃ W : Nat → Nat → List V → Hp → Prop, (∃ m, W 0 m [] H2) ∧ GoX J g tt te vs σ C W
section
variable {X : Cx} {pins : List (Addr × Obj)} {σ : L2.St} {H : Hp} {s : Shared} {scope : Scope} {own : List (Str × Nat)} {elt tg iter : Expr} {ifs : List Expr} {pos : Pos} {c P : Addr} {k : Nat} {wi : TI} {g : TG} {tt : TT} {te : TE} {C : List V → Hp → Prop}
theorem gx_made {fp : List Addr} {J : It} {it : Addr} {tn : Nat → Heap → Prop} {W : Nat → Nat → List V → Hp → Prop} {code : Value} {h' : Heap} {tk : Nat} {nm qn : Value} (hN : X.N.Nodup) (S : GenOk X.N X.env.scope scope own) (I : Inv X pins σ H s) (T : Turn X.prog X.w X.K tg J fp it tn) (st : tn 0 s.heap) (hfp : ∀ b ∈ fp, FpOk X pins H b)
    (hg : ∀ (s : Shared) (H : Hp) (A : Around) (C : Addr) (cl : List (Str × Addr)) (code : Value) (fp : List Addr) (pn : List (Addr × Obj)), PG (gx X s H A (genEnv scope cl C code builtinsNs X.env) fp pn) tg g)
    (ht : ∀ (s : Shared) (H : Hp) (A : Around) (C : Addr) (cl : List (Str × Addr)) (code : Value) (fp : List Addr) (pn : List (Addr × Obj)), Pl (gx X s H A (genEnv scope cl C code builtinsNs X.env) fp pn) k → PTs (gx X s H A (genEnv scope cl C code builtinsNs X.env) fp pn) ifs tt)
    (he : ∀ (s : Shared) (H : Hp) (A : Around) (C : Addr) (cl : List (Str × Addr)) (code : Value) (fp : List Addr) (pn : List (Addr × Obj)), Pl (gx X s H A (genEnv scope cl C code builtinsNs X.env) fp pn) k → PE (gx X s H A (genEnv scope cl C code builtinsNs X.env) fp pn) elt te)
    (w0 : ∃ m, W 0 m [] H) (go : GoX J g tt te (own.map (·.2)) σ C W)
    (hn' : ∃ m, h'.Ns s.heap.objs.size m) (same : Heap.SameBut s.heap.objs.size (s.heap.push { cls := .type "frame", data := .dict #[] }) h') :
    GMk X.prog X.w (k + 1) X.stack H s fp C (.ref h'.objs.size) { s with gens := s.gens.push (.fresh (.compStart (.GeneratorExp elt [⟨tg, iter, ifs, 0⟩] scope pos) 0 (.ref it) .none (genEnv scope (cloFrom X.env.cells scope.names []) s.heap.objs.size code builtinsNs X.env))), toks := tk, heap := h'.push { cls := .type "generator", data := .fields #[.int s.gens.size 0, nm, qn] } } := by
  have size5 : h'.objs.size = s.heap.objs.size + 1 := by rw [same.1, Heap.size_push]
  have old5 : ∀ b o, s.heap.get? b = some o → h'.get? b = some o := fun b o e => same.extBut b o (Nat.ne_of_lt (Heap.lt_size e)) (Heap.get?_push_of_some _ e)
  have old6 : ∀ b o, s.heap.get? b = some o → (h'.push { cls := .type "generator", data := .fields #[.int s.gens.size 0, nm, qn] }).get? b = some o := fun b o e => Heap.get?_push_of_some _ (old5 b o e)
  have gAt : (h'.push { cls := .type "generator", data := .fields #[.int s.gens.size 0, nm, qn] }).get? h'.objs.size = some { cls := .type "generator", data := .fields #[.int s.gens.size 0, nm, qn] } := Heap.get?_push_size _ rfl
  refine ⟨h'.objs.size, s.gens.size, _, rfl, by omega, by show _ < (h'.push _).objs.size; rw [Heap.size_push]; exact Nat.lt_succ_self _, ⟨_, _, _, gAt, rfl, rfl, rfl⟩, Array.getElem?_push_size .., rfl, AllBare.push I.bare rfl, I.nolimit.keeps old6, ?_⟩
  intro A Sx s2 hrw hgd hfr hSx hk2 hSo hos hba
  have keep2 : ∀ b o, s.heap.get? b = some o → s2.heap.get? b = some o := fun b o e => hk2 b o (old6 b o e)
  have sz : ∀ b ∈ fp, b < s.heap.objs.size := fun b hb => by
    obtain ⟨o, e, _⟩ := T.obj _ _ st b hb
    exact Heap.lt_size e
  have hSx2 : h'.objs.size < Sx := by
    have z : (h'.push { cls := .type "generator", data := .fields #[.int s.gens.size 0, nm, qn] }).objs.size ≤ Sx := hSx
    rw [Heap.size_push] at z
    exact z
  have hSs : s.heap.objs.size < Sx := Nat.lt_trans (by rw [size5]; exact Nat.lt_succ_self _) hSx2
  obtain ⟨cS, heS⟩ := hSo
  have young : ∀ b, s.heap.objs.size ≤ b → H b = none ∧ b ∉ frs X.stack := fun b hb => by
    refine ⟨I.hok.fresh hb, fun hm => ?_⟩
    rcases List.mem_cons.mp (I.stkSub b hm) with z | z
    · rw [z] at hb
      exact absurd (Nat.lt_of_lt_of_le I.lt hb) (Nat.lt_irrefl _)
    · exact I.nofs hb z
  have gAt2 := hk2 _ _ gAt
  have nsL : ∃ m, s2.heap.Ns s.heap.objs.size m := by
    obtain ⟨m, hm⟩ := hn'
    exact ⟨m, (hm.push _).keeps hk2⟩
  have I2 := gx_start (A := A) (code := code) (pn := [(h'.objs.size, { cls := .type "generator", data := .fields #[.int s.gens.size 0, nm, qn] })]) (s2 := s2) I S hN (fun b hb => ⟨hfp b hb, sz b hb⟩) keep2 nsL hos hba hfr hrw.hd (fun p hp => by
    rw [List.mem_singleton.mp hp]
    obtain ⟨y1, y2⟩ := young h'.objs.size (by omega)
    exact ⟨gAt2, y1, by show h'.objs.size ≠ _; omega, y2, fun v q => by cases q⟩)
  generalize hge : genEnv scope (cloFrom X.env.cells scope.names []) s.heap.objs.size code builtinsNs X.env = genv at I2 ⊢
  generalize hgo : ({ cls := .type "generator", data := .fields #[.int s.gens.size 0, nm, qn] } : Obj) = gob at I2 gAt gAt2 hk2 ⊢
  have hgoc : gob.cls = .type "generator" := by rw [← hgo]
  have hgod : gob.data = .fields #[.int s.gens.size 0, nm, qn] := by rw [← hgo]
  have hgos : gob.slots = #[] := by rw [← hgo]
  have pl : Pl (gx X s H A genv fp [(h'.objs.size, gob)]) k := ⟨hrw.deeper _, guards_deeper.trans hgd⟩
  have pg : PG (gx X s H A genv fp [(h'.objs.size, gob)]) tg g := by rw [← hge]; exact hg ..
  have pt : PTs (gx X s H A genv fp [(h'.objs.size, gob)]) ifs tt := by rw [← hge]; exact ht _ _ _ _ _ _ _ _ (by rw [hge]; exact pl)
  have pe : PE (gx X s H A genv fp [(h'.objs.size, gob)]) elt te := by rw [← hge]; exact he _ _ _ _ _ _ _ _ (by rw [hge]; exact pl)
  have locE : genv.locals = s.heap.objs.size := by rw [← hge]; rfl
  have coE : genv.scope.isCoroutine = false := by rw [← hge]; exact S.co
  have celE : genv.cells = cloFrom X.env.cells scope.names [] := by rw [← hge]; rfl
  have cellLt : ∀ y d, genv.cells.lookup y = some d → d < s.heap.objs.size := fun y d e => by
    rw [celE] at e
    rcases cloFrom_mem (PySem.mem_of_lookup e) with hm | ⟨h1, rfl⟩
    · cases hm
    · have hc : ∃ c, X.env.cells.lookup y = some c := by
        rcases S.free _ h1 rfl with k | k
        · exact I.ok.has _ (.inl k)
        · exact I.ok.has _ (.inr k)
      obtain ⟨d, hc⟩ := hc
      rw [hc]
      obtain ⟨w, z⟩ := I.cell _ _ hc
      exact z.lt
  have apart : Apart (gx X s H A genv fp [(h'.objs.size, gob)]) Sx := ⟨Nat.le_of_lt hSs, by show Sx ≠ genv.locals; rw [locE]; exact Nat.ne_of_gt hSs, fun y d e z => by
    have q := cellLt y d e
    rw [z] at q
    exact Nat.lt_irrefl _ (Nat.lt_trans q hSs)⟩
  have hpn : ∀ p ∈ [(h'.objs.size, gob)], p.1 ≠ Sx := fun p hp => by
    rw [List.mem_singleton.mp hp]
    exact Nat.ne_of_lt hSx2
  have hpf : ∀ p ∈ [(h'.objs.size, gob)], p.1 ∉ fp := fun p hp hb => by
    rw [List.mem_singleton.mp hp] at hb
    have q := sz _ hb
    have q2 : h'.objs.size < s.heap.objs.size := q
    rw [size5] at q2
    exact Nat.lt_irrefl _ (Nat.lt_trans (Nat.lt_succ_self _) q2)
  have I3 : Inv (gx X s H A genv fp [(h'.objs.size, gob)]) [(Sx, lstObj #[] cS)] (L2.wipe σ (own.map (·.2))) H s2 := I2.pins_of fun p hp => by
    rw [List.mem_singleton.mp hp]
    obtain ⟨y1, y2⟩ := young Sx (Nat.le_of_lt hSs)
    exact ⟨heS, y1, by show Sx ≠ genv.locals; rw [locE]; exact Nat.ne_of_gt hSs, y2, fun v q => by cases q⟩
  have st2 : tn 0 s2.heap := T.keep _ _ _ st fun b _ o e => keep2 b o e
  obtain ⟨m0, w0⟩ := w0
  have loop := gx_loop (pos := pos) (iter := iter) (scope := scope) T coE (fun b hb z => by
    have q := sz b hb
    rw [z] at q
    exact Nat.lt_irrefl _ (Nat.lt_trans q hSs)) hpn hpf apart pg pt pe go m0 sizeLine 0 [] s2 s2 H #[] cS (Nat.add_zero _) w0 .nil I3 st2 (fun b hb => (hfp b hb).1)
  have pinned : ∀ {ip : List (Addr × Obj)} {ys : List V} {s' : Shared} {σ' : L2.St} {H' : Hp}, GI (gx X s H A genv fp [(h'.objs.size, gob)]) Sx ip ys σ' H' s' → s'.heap.IsGen h'.objs.size s.gens.size := fun {ip ys s' σ' H'} hI => by
    obtain ⟨acc, cc, _, J⟩ := hI
    exact ⟨gob, nm, qn, (J.pin (h'.objs.size, gob) (List.mem_append_left _ (List.mem_singleton.mpr rfl))).1, hgoc, hgod, hgos⟩
  refine seg_imp (R := EndX (gx X s H A genv fp [(h'.objs.size, gob)]) Sx C) (Y := GY (gx X s H A genv fp [(h'.objs.size, gob)]) Sx) (fun n s₀ r s1' hR => ?_) (fun n s₀ v s1' kap kap' hkk hY => ?_) sizeLine ?_
  · obtain ⟨hr, ys, acc, cc, σ', H', hn, rv, J, hC⟩ := hR
    obtain ⟨z1, z2, _⟩ := J.pin (Sx, lstObj acc cc) (List.mem_append_right _ (List.mem_singleton.mpr rfl))
    exact .inl ⟨.inr hr, H', ys, acc, cc, J.os, J.bare, J.base, J.hok, z2, z1, rv, by omega, hC⟩
  · obtain ⟨ys, xx, ip, σ', H', hn, h2, hI, h3⟩ := hY
    obtain ⟨_, _, _, acc, cc, ra, ea⟩ := hI.at
    have hg := pinned hI
    obtain ⟨_, _, _, J⟩ := hI
    have hsz : acc.size = ys.length := by
      have e1 := ra.length
      have e2 : acc.toList.length = acc.size := by simp
      omega
    exact ⟨J.os, J.bare, J.nolimit, hg, ⟨acc, cc, ea, by rw [hsz]; exact hn⟩, fun s' z => hkk _ _ (h3 s' z)⟩
  · refine (show Seg _ A _ _ _ s2 _ ((compStart (.GeneratorExp elt [⟨tg, iter, ifs, 0⟩] scope pos) 0 (.ref it) .none genv).onRaise (leaving genv)) [] s2 from ?_)
    unfold compStart
    rw [Sem.onRaise_eq_wrap]
    refine (show Seg _ A _ _ _ s2 _ ((ask >>= _).wrap _ _ _ _) [] s2 from seg_bind_wrap (wpAny_askSetting ?_))
    split
    · exact seg_again rfl loop
    · refine seg_bind_wrap (wpAny_rule ?_)
      refine (show Seg _ A _ _ _ s2 _ ((standAt iter.pos >>= _).wrap _ _ _ _) [] s2 from ?_)
      exact seg_bind_wrap (wpAny_standAt (seg_bind_wrap (T.self _ 0 s2 _ _ st2 (seg_again rfl loop))))
end
end Dn
namespace Dn
open PySem PySem.Spec PyProof.Rows L2 GenW GxR
open Sem (wp)
def tTupX (P : Addr) (wi : TI) (g : TG) (tt : TT) (te : TE) (vs : List Nat) : TE := fun σ H Q => tGx P wi g tt te vs σ H fun ys H2 => ys.length ≤ sizeLine → ∀ p, H2 p = none → Q (.ref p) (upd H2 p (.tup ys))
section
variable {X : Cx} {scope : Scope} {own : List (Str × Nat)} {elt tg iter : Expr} {ifs : List Expr} {gpos q0 q3 : Pos} {c P : Addr} {k : Nat} {wi : TI} {g : TG} {tt : TT} {te : TE}
theorem pe_tupX (pl : Pl X (k + 10)) (hg0 : Gl X "tuple") (hm : X.mg "tuple" = none) (TB : TabB X.base X.mg c P) (hcode : X.env.code = .ref c) (hN : X.N.Nodup) (S : GenOk X.N X.env.scope scope own) (hi : PI X tg iter wi)
    (hg : ∀ (s : Shared) (H : Hp) (A : Around) (C : Addr) (cl : List (Str × Addr)) (code : Value) (fp : List Addr) (pn : List (Addr × Obj)), PG (gx X s H A (genEnv scope cl C code builtinsNs X.env) fp pn) tg g)
    (ht : ∀ (s : Shared) (H : Hp) (A : Around) (C : Addr) (cl : List (Str × Addr)) (code : Value) (fp : List Addr) (pn : List (Addr × Obj)), Pl (gx X s H A (genEnv scope cl C code builtinsNs X.env) fp pn) k → PTs (gx X s H A (genEnv scope cl C code builtinsNs X.env) fp pn) ifs tt)
    (he : ∀ (s : Shared) (H : Hp) (A : Around) (C : Addr) (cl : List (Str × Addr)) (code : Value) (fp : List Addr) (pn : List (Addr × Obj)), Pl (gx X s H A (genEnv scope cl C code builtinsNs X.env) fp pn) k → PE (gx X s H A (genEnv scope cl C code builtinsNs X.env) fp pn) elt te)
    (hs : ∀ v, genFold iter X.env v = pure v := by intro _; rfl)
    (hst : starEach [.GeneratorExp elt [⟨tg, iter, ifs, 0⟩] scope gpos] X.env = (false, eval (.GeneratorExp elt [⟨tg, iter, ifs, 0⟩] scope gpos) X.env) :: starEach [] X.env := by rfl) :
    PE X (.Call (.Name "tuple" q0) [.GeneratorExp elt [⟨tg, iter, ifs, 0⟩] scope gpos] [] q3) (tTupX P wi g tt te (own.map (·.2))) := by
  refine ⟨fun pins s σ H Q I h => ?_⟩
  have hfree : ∀ y ∈ scope.names, y.2 = .free → ∃ c, X.env.cells.lookup y.1 = some c := fun y hy e => by
    rcases S.free y hy e with k | k
    · exact I.ok.has _ (.inl k)
    · exact I.ok.has _ (.inr k)
  have room := pl.room
  refine wpAny_Call_Name_kw (ld_blt I hg0 hm PyProof.Rows.boot_tuple ?_)
  refine PyProof.Rows.callWith_type1 ?_ hst (by rfl)
  rw [hst]
  refine (show wpAny _ _ (spliced ((false, eval (.GeneratorExp elt [⟨tg, iter, ifs, 0⟩] scope gpos) X.env) :: backTo q3 (starEach [] X.env))) _ _ s from ?_)
  refine Calls.spliced_cons (wpAny_GeneratorExp_make S.co (closure_ok hfree) S.cell S.dot S.kind room.depth ?_ hs)
  refine thn (hi.run pins s σ H _ I h) fun v s1 hx => thn hx fun itv s2 h2 => ?_
  obtain ⟨it, fp, tn, J, H1, eit, I2, T, st2, f2, ⟨ps, hP, triples⟩, q⟩ := h2
  subst eit
  refine ⟨I2.nolimit, ?_⟩
  have P2 : s2.heap.get? P = some { cls := .none, data := .fields ps } := I2.hok P _ hP
  have cd : PySem.W.CodeHd s2.heap c P := TB.code.keeps fun b o look => I2.bk b o look
  have nfP : ∀ b ∈ fp, b ≠ P := fun b hb z => by
    have := (f2 b hb).1
    rw [z, hP] at this
    cases this
  have behind : ∀ (code : Value) (h3 : Heap) (tk : Nat) (ps3 : Array Value), Heap.ExtBut P s2.heap h3 → h3.get? P = some { cls := .none, data := .fields ps3 } → (∃ more, ps3 = ps ++ more) → TriplesOk ps3.toList →
      wpAny (model X.prog X.w) X.A (builtinsFor X.env.globals X.env.builtins) (fun bi s₄ => ∀ h', h'.Ns s₄.heap.objs.size (fun y => if y = ".0" then some (.ref it) else none) → Heap.SameBut s₄.heap.objs.size (s₄.heap.push { cls := .type "frame", data := .dict #[] }) h' →
          wpAny (model X.prog X.w) X.A (spliced (backTo q3 (starEach [] X.env))) (fun vs s₂ => wpAny (model X.prog X.w) X.A (call (Value.type "tuple") (Value.ref h'.objs.size :: vs)) (EP X pins σ Q) X.xe s₂) X.xe { s₄ with
            gens := s₄.gens.push (.fresh (.compStart (.GeneratorExp elt [⟨tg, iter, ifs, 0⟩] scope gpos) 0 (.ref it) .none (genEnv scope (cloFrom X.env.cells scope.names []) s₄.heap.objs.size code bi X.env))),
            toks := s₄.toks + 1 + 1 + 1,
            heap := h'.push { cls := .type "generator", data := .fields #[.int s₄.gens.size 0, .str "<genexpr>" (s₄.toks + 1), .str (X.env.qual ++ "<genexpr>") (s₄.toks + 1 + 1)] } }) X.xe { s2 with heap := h3, toks := tk } := by
    intro code h3 tk ps3 ext P3 more3 triples3
    obtain ⟨more, em⟩ := more3
    obtain ⟨bm, ob, b1, b2, b3, b4, b5, b6, b7, b8⟩ := TB.bm
    have keep3 : ∀ b o, b ≠ P → s2.heap.get? b = some o → h3.get? b = some o := fun b o nb look => ext b o nb look
    have I3 : Inv X pins σ (upd H1 P (.tbl (ps ++ more))) { s2 with heap := h3, toks := tk } := inv_tab (g' := s2.gens) (d' := s2.drawn) (t' := tk) I2 hP keep3 (by rw [← em]; exact P3) I2.bare
    refine wpAny_builtinsFor (m := X.mg) (by rw [I2.ok.glob]; exact (I2.mod.glob.keeps I2.bk).extBut ext TB.gP) b1 b2 (keep3 _ _ b4 (I2.bk _ _ b5)) b6 b7 b8 ?_
    intro h' hn same
    have f3 : ∀ b ∈ fp, FpOk X pins (upd H1 P (.tbl (ps ++ more))) b := fun b hb => ⟨by rw [upd_ne (nfP b hb)]; exact (f2 b hb).1, (f2 b hb).2⟩
    have st3 : tn 0 h3 := T.keep _ _ _ st2 fun b hb o e => keep3 b o (nfP b hb) e
    obtain ⟨W, w0, go⟩ := q (upd H1 P (.tbl (ps ++ more))) ⟨⟨ps ++ more, upd_same, by rw [← em]; exact triples3⟩, fun b hb => upd_ne hb⟩
    have made := gx_made (iter := iter) (pos := gpos) (code := code) (tk := tk + 1 + 1 + 1) (nm := .str "<genexpr>" (tk + 1)) (qn := .str (X.env.qual ++ "<genexpr>") (tk + 1 + 1)) hN S I3 T st3 f3 hg ht he w0 go ⟨_, hn⟩ same
    refine Calls.spliced_nil (tuple_drain (room.mono (by omega)) pl.gd I3.ok.frames made fun acc s6 d => ?_)
    obtain ⟨H6, ys, rv, hz, os6, ba6, un6, ok6, hC⟩ := d
    have I6 : Inv X pins σ H6 s6 := I3.call' (ch := fp) os6 un6 ok6 ba6 fun b hb => ⟨(f3 b hb).2.2.2.1, (f3 b hb).2.1, (f3 b hb).2.2.2.2.1, (f3 b hb).2.2.2.2.2⟩
    exact ⟨.ref s6.heap.objs.size, upd H6 s6.heap.objs.size (.tup ys), I6.laid (t' := s6.toks) (fun b o look => Heap.get?_push_of_some _ look) (Nat.le_refl _) ⟨hz, acc, rv, ⟨_, Heap.get?_push_size _ rfl, rfl, _, rfl⟩⟩, rfl, hC hz _ (I6.hok.fresh (Nat.le_refl _))⟩
  cases hf : codeAmong gpos ps.toList with
  | none =>
    refine wpAny_genexprCodeX hcode (cd.code P2 triples) (cd.tab P2) hf fun c2 h3 tk ext ge lt isC _ isT _ => ?_
    obtain ⟨o1, v1, m1, m2, m3, m4, m5, m6, m7, m8, _, _, _, _, _, _, _, _, _, tr3, _⟩ := isC
    exact behind _ h3 tk _ ext isT.2 ⟨_, rfl⟩ tr3
  | some cv =>
    refine wpAny_genexprCode_hit hcode (cd.code P2 triples) hf ?_
    exact behind cv s2.heap s2.toks ps (Heap.ExtBut.refl _ _) P2 ⟨#[], by simp⟩ triples
end

/-! ### the same, on values without addresses -/
def genItems (gs : List (Nat × List PV)) (g : GP) (t : DT) (e : DE) (s : Sl) : List PV → List PV → PH → Out (List PV)
  | [], acc, h => if okG gs h then .ok acc h else .no
  | x :: r, acc, h => if okG gs h then match g x with
      | some as => (t (setP as s) h).ne.bind fun b h => if b = true then (e (setP as s) h).ne.bind fun y h =>
          if acc.length < 16777216 then genItems gs g t e s r (acc ++ [y]) h else .no
        else genItems gs g t e s r acc h
      | none => .no
    else .no
def eTupX (it : DI) (g : GP) (t : DT) (e : DE) (vs : List Nat) : DE := fun s h => (it s h).bind fun p h => (genItems p.1 g t e (wipeP s vs) p.2 [] h).bind fun acc h => .ok (.tup acc) h
section
variable {tbs : List Addr} {W : WX} {X : Cx} {tg iter elt : Expr} {pos : Pos}
theorem Wd.tabbed {K : PySem.W.Frag} {μ : List Addr} {ph : PH} {H H' : Hp} {P : Addr} (w : Wd K tbs μ ph H) (hP : P ∈ tbs) (t : Tabbed P H H') : Ex μ H μ H' ∧ Wd K tbs μ ph H' := by
  obtain ⟨ps, h1, _⟩ := w.tb P hP
  have e : Ex μ H μ H' := ⟨fun _ _ h => h, fun a xs h => by
    rw [t.2 a fun z => by rw [z, h1] at h; cases h]
    exact h, fun a o u h => by
    rw [t.2 a fun z => by rw [z, h1] at h; cases h]
    exact h⟩
  refine ⟨e, w.len, w.nd, fun n a o q1 q2 => ?_, fun Q hQ => ?_⟩
  · have r := w.ob n a o q1 q2
    refine r.frame e (t.2 a fun z => ?_)
    obtain ⟨u, hu, _, _, nb⟩ := r.there
    rw [z, h1] at hu
    exact nb _ (Option.some.inj hu).symm
  · by_cases z : Q = P
    · rw [z]
      exact t.1
    · obtain ⟨qs, q1, q2⟩ := w.tb Q hQ
      exact ⟨qs, by rw [t.2 Q z]; exact q1, q2⟩
theorem tupX_ok {P : Addr} {it : DI} {g : GP} {t : DT} {e : DE} {vs : List Nat} {σ : L2.St} {H : Hp} {Q : VK} (hP : P ∈ tbs) (gok : GOk vs g) (h : tD (bs X tbs) W (eTupX it g t e vs) σ H Q) :
    tTupX P (tDI (bs X tbs) W it) (gD X.K g) (tDT (bs X tbs) W0 t) (tD (bs X tbs) W0 e) vs σ H Q := by
  obtain ⟨μ, ps, ph, sr, wd, ok⟩ := h
  refine ⟨μ, ps, ph, sr, wd, OutOk.bind ok fun its ph1 μ1 H1 J e1 w1 wk ok1 => ⟨w1.tb P hP, fun H2 tb => ?_⟩⟩
  obtain ⟨gs, items⟩ := its
  dsimp only at wk ok1
  obtain ⟨x0, w0⟩ := w1.tabbed hP tb
  have ok2 := OutOk.ext ok1 x0
  refine ⟨fun i m ys H => m = items.length - i ∧ i ≤ items.length ∧ ∃ μ ph acc, Ex μ1 H1 μ H ∧ Wd X.K tbs μ ph H ∧ Rls X.K H μ acc ys ∧ OutOk (bs X tbs) W (fun H' μ' => Rl X.K H' μ') μ H σ ((genItems gs g t e (wipeP ps vs) (items.drop i) acc ph).bind fun acc h => .ok (.tup acc) h) Q,
    ⟨items.length, by simp, Nat.zero_le _, _, _, [], x0, w0, .nil, ok2⟩, ?_⟩
  rintro i m ys H3 ⟨rfl, hi, μ2, ph2, acc, e12, w2, ra, ok2⟩
  have gOk : okG gs ph2 = true := by
    cases hz : okG gs ph2 with
    | true => rfl
    | false =>
      cases hd : items.drop i with
      | nil =>
        rw [hd] at ok2
        unfold genItems at ok2
        rw [hz] at ok2
        exact ok2.elim
      | cons x r =>
        rw [hd] at ok2
        unfold genItems at ok2
        rw [hz] at ok2
        exact ok2.elim
  by_cases lt : i < items.length
  · refine .inr ⟨wk.goes i H3 μ2 ph2 lt e12 w2 gOk, _, fun ys' H' h => ⟨items.length - (i + 1), by omega, rfl, lt, h⟩, fun x H' y => ?_⟩
    obtain ⟨px, hx, e3, w3, r3⟩ := wk.yields i H3 μ2 ph2 x H' lt e12 w2 gOk y
    have hd : items.drop i = px :: items.drop (i + 1) := by
      rw [List.drop_eq_getElem_cons lt]
      rw [List.getElem?_eq_getElem lt] at hx
      cases hx
      rfl
    rw [hd] at ok2
    unfold genItems at ok2
    rw [if_pos gOk] at ok2
    cases eg : g px with
    | none =>
      rw [eg] at ok2
      exact ok2.elim
    | some as =>
      rw [eg] at ok2
      dsimp only at ok2
      refine ⟨μ2, px, r3, as, eg, fun bs' rb => ⟨?_, μ2, setP as (wipeP ps vs), ph2, ((sr.mono (e1.trans (e12.trans e3))).wipe vs).sets rb, w3, ?_⟩⟩
      · rw [wipe_sets (rb.slots (gok _ _ eg)), wipe_wipe]
      · have ok3 := OutOk.ext ok2 e3
        have srB := ((sr.mono (e1.trans (e12.trans e3))).wipe vs).sets rb
        have ok4 : OutOk (bs X tbs) W (fun H' μ' => Rl X.K H' μ') μ2 H' σ ((t (setP as (wipeP ps vs)) ph2).ne.bind fun b h => ((if b = true then (e (setP as (wipeP ps vs)) h).ne.bind fun y h =>
            if acc.length < 16777216 then genItems gs g t e (wipeP ps vs) (items.drop (i + 1)) (acc ++ [y]) h else .no
          else genItems gs g t e (wipeP ps vs) (items.drop (i + 1)) acc h)).bind fun acc h => .ok (.tup acc) h) Q := by
          cases et : t (setP as (wipeP ps vs)) ph2 with
          | ok b h => rw [et] at ok3; exact ok3
          | err b h => rw [et] at ok3; exact ok3
          | no => rw [et] at ok3; exact ok3
        refine OutOk.bindN ok4 fun b ph4 μ4 H4 c e4 w4 rb4 ok5 => ?_
        subst rb4
        cases b with
        | false => exact ⟨μ4, ph4, acc, e12.trans (e3.trans e4), w4, ra.mono (e3.trans e4), ok5⟩
        | true =>
          simp only [if_true] at ok5 ⊢
          have ok6 : OutOk (bs X tbs) W (fun H' μ' => Rl X.K H' μ') μ4 H4 σ ((e (setP as (wipeP ps vs)) ph4).ne.bind fun y h => ((if acc.length < 16777216 then genItems gs g t e (wipeP ps vs) (items.drop (i + 1)) (acc ++ [y]) h else .no)).bind fun acc h => .ok (.tup acc) h) Q := by
            cases et : e (setP as (wipeP ps vs)) ph4 with
            | ok b h => rw [et] at ok5; exact ok5
            | err b h => rw [et] at ok5; exact ok5
            | no => rw [et] at ok5; exact ok5
          refine ⟨μ4, _, ph4, srB.mono e4, w4, OutOk.bindN ok6 fun py ph5 μ5 H5 yv e5 w5 r5 ok7 => ?_⟩
          split at ok7
          · rename_i hlt
            have ra5 := ra.mono (e3.trans (e4.trans e5))
            exact ⟨by rw [← ra5.len, sizeLine_eq]; exact hlt, μ5, ph5, acc ++ [py], e12.trans (e3.trans (e4.trans e5)), w5, ra5.snoc r5, ok7⟩
          · exact ok7.elim
  · have e3 : i = items.length := by omega
    subst e3
    refine .inl ⟨wk.stops H3 μ2 ph2 e12 w2 gOk, fun hz p hp => ?_⟩
    rw [List.drop_length] at ok2
    unfold genItems at ok2
    rw [if_pos gOk] at ok2
    obtain ⟨a1, a2, a3⟩ := w2.newTup ra hp
    exact ok2 _ _ _ a1 a2 a3
theorem j_tupX {P c : Addr} {ifs : List Expr} {scope : Scope} {own : List (Str × Nat)} {it : DI} {g : GP} {t : DT} {e : DE} {q0 q3 gpos : Pos} {k : Nat} (pl : Pl X (k + 10)) (hg0 : Gl X "tuple") (hm : X.mg "tuple" = none) (TB : TabB X.base X.mg c P) (hP : P ∈ tbs) (hcode : X.env.code = .ref c) (hN : X.N.Nodup)
    (S : GenOk X.N X.env.scope scope own) (hi : JI (bs X tbs) W X tg iter it) (gok : GOk (own.map (·.2)) g)
    (hg : ∀ (s : Shared) (H : Hp) (A : Around) (C : Addr) (cl : List (Str × Addr)) (code : Value) (fp : List Addr) (pn : List (Addr × Obj)), JG (gx X s H A (genEnv scope cl C code builtinsNs X.env) fp pn) tg g)
    (ht : ∀ (s : Shared) (H : Hp) (A : Around) (C : Addr) (cl : List (Str × Addr)) (code : Value) (fp : List Addr) (pn : List (Addr × Obj)), Pl (gx X s H A (genEnv scope cl C code builtinsNs X.env) fp pn) k → JTs (bs X tbs) W0 (gx X s H A (genEnv scope cl C code builtinsNs X.env) fp pn) ifs t)
    (he : ∀ (s : Shared) (H : Hp) (A : Around) (C : Addr) (cl : List (Str × Addr)) (code : Value) (fp : List Addr) (pn : List (Addr × Obj)), Pl (gx X s H A (genEnv scope cl C code builtinsNs X.env) fp pn) k → JE (bs X tbs) W0 (gx X s H A (genEnv scope cl C code builtinsNs X.env) fp pn) elt e)
    (hs : ∀ v, genFold iter X.env v = pure v := by intro _; rfl)
    (hst : starEach [.GeneratorExp elt [⟨tg, iter, ifs, 0⟩] scope gpos] X.env = (false, eval (.GeneratorExp elt [⟨tg, iter, ifs, 0⟩] scope gpos) X.env) :: starEach [] X.env := by rfl) :
    JE (bs X tbs) W X (.Call (.Name "tuple" q0) [.GeneratorExp elt [⟨tg, iter, ifs, 0⟩] scope gpos] [] q3) (eTupX it g t e (own.map (·.2))) :=
  PE_imp (pe_tupX (g := gD X.K g) (tt := tDT (bs X tbs) W0 t) (te := tD (bs X tbs) W0 e) pl hg0 hm TB hcode hN S hi hg ht he hs hst) fun σ H Q h => tupX_ok hP gok h
end
end Dn
namespace Dn
open PySem PySem.Spec PyProof.Rows L2 PySem.SeqAt

/-! ### an item, a part, a length, whether it is within -/
def getG {κ : Type} [DecidableEq κ] (kvs : List (κ × PV)) (k : κ) : Option PV := (kvs.find? fun kv => decide (kv.1 = k)).map (·.2)
def putG {κ : Type} [DecidableEq κ] (kvs : List (κ × PV)) (k : κ) (v : PV) : List (κ × PV) := if (kvs.any fun kv => decide (kv.1 = k)) = true then kvs.map (fun kv => if kv.1 = k then (kv.1, v) else kv) else kvs ++ [(k, v)]
def seqOf (h : PH) : PV → Option (List PV)
  | .tup xs => some xs
  | .kt xs => some xs
  | .fz xs => some xs
  | .ref n => match h[n]? with
    | some (.lst xs) => some xs
    | _ => none
  | _ => none
def opIx : F2 := fun x y h => match x, y with
  | .str z, .int i => if sizeOk z.length then (atI z.cps.toList i).map fun c => (.str ⟨#[c]⟩, h) else none
  | .ref n, y => match h[n]?, y with
    | some (.lst xs), .int i => (atI xs i).map fun v => (v, h)
    | some (.dK kvs), y => match keyOf y with
      | some k => (getG kvs k).map fun v => (v, h)
      | none => none
    | some (.dT kvs), .tup ks => match keysOf ks with
      | some k => (getG kvs k).map fun v => (v, h)
      | none => none
    | _, _ => none
  | .tup xs, .int i => (atI xs i).map fun v => (v, h)
  | .kt xs, .int i => (atI xs i).map fun v => (v, h)
  | .fz xs, .int i => (atI xs i).map fun v => (v, h)
  | _, _ => none
def cutP (xs : List PV) (lo hi : Option Int) : List PV := (xs.drop (HT.sIx xs.length 0 lo)).take (HT.sIx xs.length xs.length hi - HT.sIx xs.length 0 lo)
section
variable {X : Cx} {tbs : List Addr}
theorem Rls.atI {K : PySem.W.Frag} {H : Hp} {μ : List Addr} {xs : List PV} {vs : List V} {i : Int} {x : PV} (r : Rls K H μ xs vs) (e : L2.atI xs i = some x) : ∃ v, L2.atI vs i = some v ∧ Rl K H μ x v := by
  unfold L2.atI at e ⊢
  rw [← r.len]
  cases z : ixN xs.length i with
  | none => rw [z] at e; cases e
  | some j =>
    rw [z] at e
    obtain ⟨v, h1, h2⟩ := r.at (show xs[j]? = some x from e)
    exact ⟨v, h1, h2⟩
theorem KRl.get {K : PySem.W.Frag} {H : Hp} {μ : List Addr} {κ : Type} [DecidableEq κ] {k : κ} : ∀ {r : List (κ × PV)} {s : List (κ × V)}, KRl K H μ r s → (∀ x, getG r k = some x → ∃ v, valV s k = some v ∧ Rl K H μ x v) ∧ (getG r k = none → valV s k = none)
  | _, _, .nil => ⟨fun x h => (by cases h), fun _ => rfl⟩
  | _, _, @KRl.cons _ _ _ _ k2 x v r s h t => by
    obtain ⟨i1, i2⟩ := KRl.get (k := k) t
    by_cases e : k2 = k
    · refine ⟨fun y hy => ⟨v, valV_pos e, ?_⟩, fun hn => ?_⟩
      · simp only [getG, List.find?_cons, e, decide_true, Option.map_some, Option.some.injEq] at hy
        rw [← hy]
        exact h
      · simp only [getG, List.find?_cons, e, decide_true, Option.map_some] at hn
        cases hn
    · have z : getG ((k2, x) :: r) k = getG r k := by simp only [getG, List.find?_cons, decide_eq_false e]
      rw [z, valV_neg e]
      exact ⟨i1, i2⟩
theorem KRl.put {K : PySem.W.Frag} {H : Hp} {μ : List Addr} {κ : Type} [DecidableEq κ] {k : κ} {y : PV} {u : V} (ry : Rl K H μ y u) {r : List (κ × PV)} {s : List (κ × V)} (h : KRl K H μ r s) : KRl K H μ (putG r k y) (putK s k u) := by
  have any : ∀ {r : List (κ × PV)} {s : List (κ × V)}, KRl K H μ r s → (r.any fun kv => decide (kv.1 = k)) = s.any fun kv => decide (kv.1 = k) := by
    intro r s h
    induction h with
    | nil => rfl
    | cons a b ih => rw [List.any_cons, List.any_cons, ih]
  have map : ∀ {r : List (κ × PV)} {s : List (κ × V)}, KRl K H μ r s → KRl K H μ (r.map fun kv => if kv.1 = k then (kv.1, y) else kv) (s.map fun kv => if kv.1 = k then (kv.1, u) else kv) := by
    intro r s h
    induction h with
    | nil => exact .nil
    | @cons k2 x v r s a b ih =>
      rw [List.map_cons, List.map_cons]
      by_cases e : k2 = k
      · simp only [e, if_true]
        exact .cons ry ih
      · simp only [e, if_false]
        exact .cons a ih
  have snoc : ∀ {r : List (κ × PV)} {s : List (κ × V)}, KRl K H μ r s → KRl K H μ (r ++ [(k, y)]) (s ++ [(k, u)]) := by
    intro r s h
    induction h with
    | nil => exact .cons ry .nil
    | cons a b ih => exact .cons a ih
  unfold putG putK
  rw [any h]
  split
  · exact map h
  · exact snoc h
theorem KRl.len {K : PySem.W.Frag} {H : Hp} {μ : List Addr} {κ : Type} : ∀ {r : List (κ × PV)} {s : List (κ × V)}, KRl K H μ r s → r.length = s.length
  | _, _, .nil => rfl
  | _, _, .cons _ b => by rw [List.length_cons, List.length_cons, KRl.len b]
theorem keyOf_ok {K : PySem.W.Frag} {H : Hp} {μ : List Addr} {x : PV} {v : V} {k : Key} (e : keyOf x = some k) (r : Rl K H μ x v) : v = kV k := by
  cases r <;> simp [keyOf] at e
  · rw [← e]; rfl
  · rw [← e]; rfl
theorem keysOf_ok {K : PySem.W.Frag} {H : Hp} {μ : List Addr} : ∀ {xs : List PV} {vs : List V} {ks : List Key}, keysOf xs = some ks → Rls K H μ xs vs → vs = ks.map kV
  | [], _, _, e, r => by
    cases r
    cases e
    rfl
  | x :: xs, _, ks, e, r => by
    cases r with
    | cons a b =>
      unfold keysOf at e
      split at e
      · rename_i k ks' e1 e2
        cases e
        rw [keyOf_ok e1 a, keysOf_ok e2 b]
        rfl
      · cases e
theorem ix_dict (hu : X.A.units + 1 < cLine) : IxR X (fun x y H Q => ∃ a v, x = .ref a ∧ DGet H a y (some v) ∧ Q v H) := by
  intro value slice pins s σ H x y v u Q I rx ry h hs
  obtain ⟨a, z, rfl, g, q⟩ := h
  obtain rfl : v = Value.ref a := rx
  exact tail_any (dict_typeIs I g) PySem.F.slot_dict_getitem.lookup (d_getItem hu I g ry fun w' s3 I3 rw' => ⟨z, H, I3, rw', q⟩) hs
theorem ir_ix (hu : X.A.units + 1 < cLine) : IxR X (rP (bs X tbs) opIx) := by
  intro value slice pins s σ H x y v u Q I rx ry ⟨μ, ph, px, py, wd, r1, r2, q⟩ hs
  unfold opIx at q
  have sq : ∀ {xs : List PV} {i : Int} {o : Option (PV × PH)}, o = (L2.atI xs i).map (fun v => (v, ph)) → OutN (bs X tbs) μ H o Q → ∃ w, L2.atI xs i = some w ∧ ∀ z, Rl X.K H μ w z → Q z H := fun {xs i o} e q => by
    subst e
    cases z : L2.atI xs i with
    | none => rw [z] at q; exact q.elim
    | some w =>
      rw [z] at q
      exact ⟨w, rfl, fun z r => q.val wd r⟩
  split at q
  · rename_i z i
    split at q
    · rename_i hz
      cases r1
      cases r2
      cases e : L2.atI z.cps.toList i with
      | none => rw [e] at q; exact q.elim
      | some c =>
        rw [e] at q
        exact ix_str value slice pins s σ H _ _ v u Q I rx ry ⟨z, i, c, rfl, rfl, sizeOk_le hz, e, q.val wd (.str _)⟩ hs
    · exact q.elim
  · rename_i n y'
    cases r1 with
    | @ref _ a hk =>
    split at q
    · rename_i xs i hn
      obtain ⟨vs, h1, ra⟩ := wd.ob _ a _ hk hn
      obtain ⟨w, e, k⟩ := sq rfl q
      obtain ⟨z, e2, r3⟩ := ra.atI e
      cases r2
      exact ix_list value slice pins s σ H _ _ v u Q I rx ry ⟨a, vs, i, z, rfl, rfl, SqL.of h1, e2, k z r3⟩ hs
    · rename_i kvs hn
      split at q
      · rename_i k hk2
        obtain ⟨vs, h1, ra⟩ := wd.ob _ a _ hk hn
        cases e : getG kvs k with
        | none => rw [e] at q; exact q.elim
        | some w =>
          rw [e] at q
          obtain ⟨z, e2, r3⟩ := (KRl.get (k := k) ra).1 w e
          have ey := keyOf_ok hk2 r2
          subst ey
          exact ix_dict hu value slice pins s σ H _ _ v u Q I rx ry ⟨a, z, rfl, by rw [← e2]; exact DGet.k h1, q.val wd r3⟩ hs
      · exact q.elim
    · rename_i kvs ks hn
      split at q
      · rename_i k hk2
        obtain ⟨vs, h1, ra⟩ := wd.ob _ a _ hk hn
        cases e : getG kvs k with
        | none => rw [e] at q; exact q.elim
        | some w =>
          rw [e] at q
          obtain ⟨z, e2, r3⟩ := (KRl.get (k := k) ra).1 w e
          cases r2 with
          | @tup b ws _ hb rb =>
            have ey := keysOf_ok hk2 rb
            subst ey
            exact ix_dict hu value slice pins s σ H _ _ v u Q I rx ry ⟨a, z, rfl, by rw [← e2]; exact DGet.t h1 hb, q.val wd r3⟩ hs
      · exact q.elim
    · exact q.elim
  · rename_i xs i
    cases r1 with
    | @tup a vs _ ha ra =>
    cases r2
    obtain ⟨w, e, k⟩ := sq rfl q
    obtain ⟨z, e2, r3⟩ := ra.atI e
    exact ix_tup value slice pins s σ H _ _ v u Q I rx ry ⟨a, vs, i, z, rfl, rfl, SqT.of ha, e2, k z r3⟩ hs
  · rename_i xs i
    cases r1 with
    | @kt a vs _ ha ra =>
    cases r2
    obtain ⟨w, e, k⟩ := sq rfl q
    obtain ⟨z, e2, r3⟩ := ra.atI e
    exact ix_tup value slice pins s σ H _ _ v u Q I rx ry ⟨a, vs, i, z, rfl, rfl, .inr ha, e2, k z r3⟩ hs
  · rename_i xs i
    cases r1 with
    | @fz a vs _ ha ra =>
    cases r2
    obtain ⟨w, e, k⟩ := sq rfl q
    obtain ⟨z, e2, r3⟩ := ra.atI e
    exact ix_list value slice pins s σ H _ _ v u Q I rx ry ⟨a, vs, i, z, rfl, rfl, ha.sql, e2, k z r3⟩ hs
  · exact q.elim
end
end Dn
namespace Dn
open PySem PySem.Spec PyProof.Rows L2 PySem.SeqAt

/-! ### a part of a text, a tuple, a list -/
abbrev DO := Sl → PH → Out (Option Int)
abbrev FS := PV → Option Int → Option Int → PH → Option (PV × PH)
def oNone : DO := fun _ h => .ok none h
def oSome (a : DE) : DO := fun s h => (a s h).bind fun x h => match x with
  | .int i => .ok (some i) h
  | _ => .no
def eSl (f : FS) (a : DE) (lo hi : DO) : DE := fun s h => (a s h).bind fun x h => (lo s h).bind fun l h => (hi s h).bind fun u h => Out.of (f x l u h)
def opSl : FS := fun x lo hi h => match x with
  | .str z => if sizeOk z.length then some (.str (cutS z lo hi), h) else none
  | .tup xs => some (.tup (cutP xs lo hi), h)
  | .kt xs => if HT.sIx xs.length 0 lo = 0 ∧ HT.sIx xs.length xs.length hi = xs.length then some (.kt xs, h) else some (.tup (cutP xs lo hi), h)
  | .fz xs => some (.ref h.length, h ++ [.lst (cutP xs lo hi)])
  | .ref n => match h[n]? with
    | some (.lst xs) => some (.ref h.length, h ++ [.lst (cutP xs lo hi)])
    | _ => none
  | _ => none
def tDO (B : Bs) (W : WX) (f : DO) : TO := fun σ H Q => ∃ μ ps ph, Sr B.K H μ ps σ ∧ Wd B.K B.tbs μ ph H ∧ OutOk B W (fun _ _ (a b : Option Int) => a = b) μ H σ (f ps ph) Q
def JO (B : Bs) (W : WX) (X : Cx) (e : Option Expr) (f : DO) : Prop := PO X e (tDO B W f)
theorem PO_imp {X : Cx} {e : Option Expr} {t t' : TO} (h : PO X e t) (k : ∀ σ H Q, t' σ H Q → t σ H Q) : PO X e t' := ⟨fun pins s σ H Q I q => h.run pins s σ H Q I (k σ H Q q)⟩
def rPS (B : Bs) (f : FS) : V → Option Int → Option Int → Hp → VK → Prop := fun x lo hi H Q => ∃ μ ph px, Wd B.K B.tbs μ ph H ∧ Rl B.K H μ px x ∧ OutN B μ H (f px lo hi ph) Q
theorem cut_whole {α : Type} {xs : List α} {lo hi : Option Int} (h : HT.sIx xs.length 0 lo = 0 ∧ HT.sIx xs.length xs.length hi = xs.length) : (xs.drop (HT.sIx xs.length 0 lo)).take (HT.sIx xs.length xs.length hi - HT.sIx xs.length 0 lo) = xs := by
  rw [h.1, h.2, List.drop_zero, Nat.sub_zero, List.take_length]
theorem Rls.cut {K : PySem.W.Frag} {H : Hp} {μ : List Addr} {xs : List PV} {vs : List V} (r : Rls K H μ xs vs) (lo hi : Option Int) : Rls K H μ (cutP xs lo hi) (cutV vs lo hi) := by
  unfold cutP cutV
  rw [← r.len]
  exact (r.drop _).take _
section
variable {tbs : List Addr} {W : WX} {X : Cx} {pos p2 : Pos}
theorem jo_none : JO (bs X tbs) W X none oNone := PO_imp po_none fun σ H Q ⟨μ, ps, ph, sr, wd, ok⟩ => ok μ H none Ex.refl wd rfl
theorem jo_some {e : Expr} {f : DE} (h : JE (bs X tbs) W X e f) : JO (bs X tbs) W X (some e) (oSome f) := PO_imp (po_some h) fun σ H Q ⟨μ, ps, ph, sr, wd, ok⟩ => ⟨μ, ps, ph, sr, wd, OutOk.bind ok fun x ph1 μ1 H1 v e1 w1 r1 ok1 => by
  cases r1 with
  | int i => exact ⟨i, rfl, ok1 μ1 H1 _ Ex.refl w1 rfl⟩
  | _ => exact ok1.elim⟩
theorem j_sl {e : Expr} {lo hi : Option Expr} {f : DE} {g k : DO} {r : FS} (hr : SlR X (rPS (bs X tbs) r)) (he : JE (bs X tbs) W X e f) (hl : JO (bs X tbs) W X lo g) (hu : JO (bs X tbs) W X hi k) : JE (bs X tbs) W X (.Subscript e (.Slice lo hi none p2) pos) (eSl r f g k) :=
  PE_imp (pe_slice hr he hl hu) fun σ H Q ⟨μ, ps, ph, sr, wd, ok⟩ => ⟨μ, ps, ph, sr, wd, OutOk.bind ok fun x ph1 μ1 H1 v e1 w1 r1 ok1 => ⟨μ1, ps, ph1, sr.mono e1, w1, OutOk.bind ok1 fun l ph2 μ2 H2 l' e2 w2 r2 ok2 => ⟨μ2, ps, ph2, (sr.mono e1).mono e2, w2,
    OutOk.bind ok2 fun u ph3 μ3 H3 u' e3 w3 r3 ok3 => by
      subst r2
      subst r3
      exact ⟨μ3, ph3, x, w3, (r1.mono e2).mono e3, ok3.op⟩⟩⟩⟩
theorem sr_sl : SlR X (rPS (bs X tbs) opSl) := by
  intro pins s σ H x v vl vu lo hi sl Q I rx hs pl pu ⟨μ, ph, px, wd, r1, q⟩
  unfold opSl at q
  split at q
  · rename_i z
    split at q
    · rename_i hz
      cases r1
      exact sl_str pins s σ H _ v vl vu lo hi sl Q I rx hs pl pu ⟨z, rfl, sizeOk_le hz, q.val wd (.str _)⟩
    · exact q.elim
  · rename_i xs
    cases r1 with
    | @tup a vs _ ha ra =>
    refine sl_tupA pins s σ H _ v vl vu lo hi sl Q I rx hs pl pu ⟨a, vs, rfl, SqT.of ha, fun hw => ?_, fun _ p hp => ?_⟩
    · rw [← ra.len] at hw
      refine q.val wd ?_
      unfold cutP
      rw [cut_whole hw]
      exact .tup ha ra
    · obtain ⟨e, w, r⟩ := wd.newTup (ra.cut lo hi) hp
      exact q _ _ _ e w r
  · rename_i xs
    cases r1 with
    | @kt a vs _ ha ra =>
    refine sl_tupA pins s σ H _ v vl vu lo hi sl Q I rx hs pl pu ⟨a, vs, rfl, .inr ha, fun hw => ?_, fun hw p hp => ?_⟩
    · rw [← ra.len] at hw
      rw [if_pos hw] at q
      exact q.val wd (.kt ha ra)
    · rw [← ra.len] at hw
      rw [if_neg hw] at q
      obtain ⟨e, w, r⟩ := wd.newTup (ra.cut lo hi) hp
      exact q _ _ _ e w r
  · rename_i xs
    cases r1 with
    | @fz a vs _ ha ra =>
    refine sl_list pins s σ H _ v vl vu lo hi sl Q I rx hs pl pu ⟨a, vs, rfl, ha.sql, fun p hp => ?_⟩
    obtain ⟨e, w, r⟩ := wd.newLst (ra.cut lo hi) hp
    exact q _ _ _ e w r
  · rename_i n
    split at q
    · rename_i xs hn
      cases r1 with
      | @ref _ a hk =>
      obtain ⟨vs, h1, ra⟩ := wd.ob _ a _ hk hn
      refine sl_list pins s σ H _ v vl vu lo hi sl Q I rx hs pl pu ⟨a, vs, rfl, SqL.of h1, fun p hp => ?_⟩
      obtain ⟨e, w, r⟩ := wd.newLst (ra.cut lo hi) hp
      exact q _ _ _ e w r
    · exact q.elim
  · exact q.elim

/-! ### lengths, numbers, texts of numbers -/
theorem seqOf_ok {K : PySem.W.Frag} {H : Hp} {μ : List Addr} {ph : PH} {x : PV} {v : V} {ys : List PV} (wd : Wd K tbs μ ph H) (h : seqOf ph x = some ys) (r : Rl K H μ x v) : ∃ a vs, v = .ref a ∧ (SqL K H a vs ∨ SqT K H a vs) ∧ Rls K H μ ys vs := by
  unfold seqOf at h
  cases r with
  | @tup a vs _ ha ra =>
    cases h
    exact ⟨a, vs, rfl, .inr (SqT.of ha), ra⟩
  | @kt a vs _ ha ra =>
    cases h
    exact ⟨a, vs, rfl, .inr (.inr ha), ra⟩
  | @fz a vs _ ha ra =>
    cases h
    exact ⟨a, vs, rfl, .inl ha.sql, ra⟩
  | @ref n a hk =>
    dsimp only at h
    split at h
    · rename_i xs hn
      cases h
      obtain ⟨vs, h1, ra⟩ := wd.ob _ a _ hk hn
      exact ⟨a, vs, rfl, .inl (SqL.of h1), ra⟩
    · cases h
  | _ => cases h
def fLen : FN := fun xs h => match xs with
  | [.str z] => if sizeOk z.length then some (.int (z.length : Nat), h) else none
  | [x] => (seqOf h x).map fun ys => (.int (ys.length : Nat), h)
  | _ => none
def fAbs : FN := fun xs h => match xs with
  | [.int i] => some (.int (if i < 0 then -i else i), h)
  | _ => none
def fInt : FN := fun xs h => match xs with
  | [.int i] => some (.int i, h)
  | [.bl b] => some (.int (if b then 1 else 0), h)
  | _ => none
theorem Rls.one' {K : PySem.W.Frag} {H : Hp} {μ : List Addr} {x : PV} {vs : List V} (r : Rls K H μ [x] vs) : ∃ v, vs = [v] ∧ Rl K H μ x v := by
  cases r with
  | cons a b =>
    cases b
    exact ⟨_, rfl, a⟩
theorem cl_len : CallR X (.builtin "len") (rPN (bs X tbs) fLen) := by
  intro pins s σ H xs us Q I r ⟨μ, ph, ps, wd, rr, q⟩
  unfold fLen at q
  split at q
  · rename_i z
    split at q
    · rename_i hz
      obtain ⟨v, rfl, rv⟩ := rr.one'
      cases rv
      exact call_len_str pins s σ H _ us Q I r ⟨z, rfl, sizeOk_le hz, q.val wd (.int _)⟩
    · exact q.elim
  · rename_i x _
    obtain ⟨v, rfl, rv⟩ := rr.one'
    cases e : seqOf ph x with
    | none => rw [e] at q; exact q.elim
    | some ys =>
      rw [e] at q
      obtain ⟨a, vs, rfl, hs, ra⟩ := seqOf_ok wd e rv
      refine call_len_seq pins s σ H _ us Q I r ⟨a, vs, rfl, hs, ?_⟩
      rw [← ra.len]
      exact q.val wd (.int _)
  · exact q.elim
theorem cl_abs : CallR X (.builtin "abs") (rPN (bs X tbs) fAbs) := by
  intro pins s σ H xs us Q I r ⟨μ, ph, ps, wd, rr, q⟩
  unfold fAbs at q
  split at q
  · obtain ⟨v, rfl, rv⟩ := rr.one'
    cases rv
    exact call_abs pins s σ H _ us Q I r ⟨_, rfl, q.val wd (.int _)⟩
  · exact q.elim
theorem cl_int : CallR X (.type "int") (rPN (bs X tbs) fInt) := by
  intro pins s σ H xs us Q I r ⟨μ, ph, ps, wd, rr, q⟩
  unfold fInt at q
  split at q
  · obtain ⟨v, rfl, rv⟩ := rr.one'
    cases rv
    exact call_int1 pins s σ H _ us Q I r (.inl ⟨_, rfl, q.val wd (.int _)⟩)
  · obtain ⟨v, rfl, rv⟩ := rr.one'
    cases rv
    exact call_int1 pins s σ H _ us Q I r (.inr ⟨_, rfl, q.val wd (.int _)⟩)
  · exact q.elim
/-! ### list(..), tuple(..) of a list or a tuple -/
def fList : FN := fun xs h => match xs with
  | [x] => (seqOf h x).map fun ys => (.ref h.length, h ++ [.lst ys])
  | _ => none
def fTuple : FN := fun xs h => match xs with
  | [.kt ys] => some (.kt ys, h)
  | [x] => (seqOf h x).map fun ys => (.tup ys, h)
  | _ => none
theorem cl_tuple : CallR X (.type "tuple") (rPN (bs X tbs) fTuple) := by
  intro pins s σ H xs us Q I r ⟨μ, ph, ps, wd, rr, q⟩
  unfold fTuple at q
  split at q
  · obtain ⟨v, rfl, rv⟩ := rr.one'
    cases rv with
    | @kt a vs _ ha ra => exact call_tuple_of pins s σ H _ us Q I r ⟨a, vs, rfl, .inr ⟨.inr ha, q.val wd (.kt ha ra)⟩⟩
  · rename_i x hx
    obtain ⟨v, rfl, rv⟩ := rr.one'
    cases e : seqOf ph x with
    | none => rw [e] at q; exact q.elim
    | some ys =>
      rw [e] at q
      have nw : ∀ {vs : List V}, Rls X.K H μ ys vs → ∀ l, H l = none → Q (.ref l) (upd H l (.tup vs)) := fun ra l hl => by
        obtain ⟨x1, w1, r1⟩ := wd.newTup ra hl
        exact q _ _ _ x1 w1 r1
      unfold seqOf at e
      cases rv with
      | @tup a vs _ ha ra =>
        cases e
        exact call_tuple_of pins s σ H _ us Q I r ⟨a, vs, rfl, .inr ⟨SqT.of ha, q.val wd (.tup ha ra)⟩⟩
      | @kt a vs ys ha ra => exact absurd rfl (hx ys)
      | @fz a vs _ ha ra =>
        cases e
        exact call_tuple_of pins s σ H _ us Q I r ⟨a, vs, rfl, .inl ⟨ha.sql, nw ra⟩⟩
      | @ref n a hk =>
        dsimp only at e
        split at e
        · rename_i xs hn
          cases e
          obtain ⟨vs, h1, ra⟩ := wd.ob _ a _ hk hn
          exact call_tuple_of pins s σ H _ us Q I r ⟨a, vs, rfl, .inl ⟨SqL.of h1, nw ra⟩⟩
        · cases e
      | _ => cases e
  · exact q.elim
end
end Dn
namespace Dn
open PySem PySem.Spec PyProof.Rows L2 PySem.SeqAt

/-! ### x in a list, a tuple, a text, a dict -/
def strD : PyData → Bool
  | .str _ => true
  | _ => false
def plainP : PV → Bool
  | .int _ => true
  | .non => true
  | .bl _ => true
  | _ => false
/-- an item y of a sequence beside x, which is sought there -/
def eqJ (h : PH) (x y : PV) : Option Bool := match toD h 50 x with
  | none => none
  | some d => match y with
    | .str a => some (Rw.eqS d a)
    | y => if strD d && plainP y then some false else match toD h 50 y with
      | some e => if shaped d && shaped e then some (PyData.eqv e d) else none
      | none => none
def plainU : Value → Bool
  | .int _ _ => true
  | .none => true
  | .bool _ => true
  | _ => false
open Classical in
/-- how an item compares with data -/
noncomputable def eqU (h : Heap) (d : PyData) (y : Value) : Bool := match y with
  | .str z _ => Rw.eqS d z
  | y => if strD d && plainU y then false else PyData.eqv (readOf h y) d
section
variable {X : Cx} {tbs : List Addr} {pins : List (Addr × Obj)} {σ : L2.St} {H : Hp} {s : Shared} {μ : List Addr} {ph : PH}
theorem eqU_of {h : Heap} {d : PyData} {y : Value} (n : ∀ z t, y ≠ .str z t) : eqU h d y = if strD d && plainU y then false else PyData.eqv (readOf h y) d := by
  unfold eqU
  split
  · exact absurd rfl (n _ _)
  · rfl
theorem eqJ_at (hu : X.A.units + 65 < cLine) (I : Inv X pins σ H s) (wd : Wd X.K tbs μ ph H) {x y : PV} {d : PyData} {v w : V} {u u' : Value} {b : Bool} (rx : Rl X.K H μ x v) (rv : RelV v u) (ry : Rl X.K H μ y w) (rw_ : RelV w u') (ed : toD ph 50 x = some d) (e : eqJ ph x y = some b) :
    eqU s.heap d u' = b ∧ EqAt X.A.in1 s u' u (eqU s.heap d u') := by
  obtain ⟨as, rd, _⟩ := Rl.reads I wd 50 x d v u ed rx rv
  have hu1 : X.A.in1.units < cLine := by show X.A.units + 1 < cLine; omega
  unfold eqJ at e
  rw [ed] at e
  dsimp only at e
  have gen : (∀ z, y ≠ .str z) → (∀ z t, u' ≠ .str z t) → plainU u' = plainP y → (plainP y = true → ∀ z t, EqAt X.A.in1 s u' (.str z t) false) → eqU s.heap d u' = b ∧ EqAt X.A.in1 s u' u (eqU s.heap d u') := fun ny nu pl fl => by
    split at e
    · exact absurd rfl (ny _)
    · rw [eqU_of nu, pl]
      by_cases c : (strD d && plainP y) = true
      · rw [if_pos c] at e ⊢
        refine ⟨Option.some.inj e, ?_⟩
        simp only [Bool.and_eq_true] at c
        cases rd with
        | str z t => exact fl c.2 z t
        | _ => exact absurd c.1 (by simp [strD])
      · rw [if_neg c] at e ⊢
        split at e
        · rename_i e2 e3
          split at e
          · rename_i hs
            simp only [Bool.and_eq_true] at hs
            obtain ⟨bs, re, _⟩ := Rl.reads I wd 50 y e2 w u' e3 ry rw_
            rw [readOf_eq (canLay_of_shaped hs.2) re]
            refine ⟨Option.some.inj e, eqAt_reads e2 d _ s u' u bs as re rd (canLay_of_shaped hs.2) (canLay_of_shaped hs.1) ?_⟩
            have := depth_of_shaped hs.1
            have := Nat.min_le_right e2.depth d.depth
            show X.A.units + 1 + _ < cLine
            omega
          · cases e
        · cases e
  cases ry with
  | str a =>
    obtain ⟨t, rfl⟩ := rw_
    exact ⟨Option.some.inj e, Rw.str_eqAt hu1 rd a t⟩
  | int i =>
    obtain ⟨t, rfl⟩ := rw_
    exact gen nofun nofun rfl fun _ z t2 => EqAt.int_str i t z t2
  | non =>
    cases rw_
    exact gen nofun nofun rfl fun _ z t2 => EqAt.none_str z t2
  | bl c =>
    cases rw_
    exact gen nofun nofun rfl fun _ z t2 => EqAt.bool_str c z t2
  | tup _ _ =>
    cases rw_
    exact gen nofun nofun rfl nofun
  | kt _ _ =>
    cases rw_
    exact gen nofun nofun rfl nofun
  | fz _ _ =>
    cases rw_
    exact gen nofun nofun rfl nofun
  | ref _ =>
    cases rw_
    exact gen nofun nofun rfl nofun
theorem anyO_at (hu : X.A.units + 65 < cLine) (I : Inv X pins σ H s) (wd : Wd X.K tbs μ ph H) {x : PV} {d : PyData} {v : V} {u : Value} (rx : Rl X.K H μ x v) (rv : RelV v u) (ed : toD ph 50 x = some d) : ∀ {ys : List PV} {vs : List V} {us : List Value} {b : Bool}, Rls X.K H μ ys vs → Vals vs us → anyO (eqJ ph x) ys = some b →
    us.any (eqU s.heap d) = b ∧ ∀ u' ∈ us, EqAt X.A.in1 s u' u (eqU s.heap d u')
  | [], _, _, b, r, q, e => by
    cases r
    cases q
    cases e
    exact ⟨rfl, fun _ h => by cases h⟩
  | y :: ys, _, _, b, r, q, e => by
    cases r with
    | cons r1 r2 =>
      cases q with
      | cons q1 q2 =>
        unfold anyO at e
        split at e
        · rename_i b1 b2 e1 e2
          cases e
          obtain ⟨h1, h2⟩ := eqJ_at hu I wd rx rv r1 q1 ed e1
          obtain ⟨h3, h4⟩ := anyO_at hu I wd rx rv ed r2 q2 e2
          refine ⟨by rw [List.any_cons, h1, h3], fun u' hm => ?_⟩
          rcases List.mem_cons.mp hm with z | z
          · rw [z]
            exact h2
          · exact h4 u' z
        · cases e
def inSeq (h : PH) (x : PV) (ys : List PV) : Option Bool := match toD h 50 x with
  | none => none
  | some _ => anyO (eqJ h x) ys
/-- a dict with plain keys -/
def dkOf (h : PH) : PV → Option (List (Key × PV))
  | .ref n => match h[n]? with
    | some (.dK kvs) => some kvs
    | _ => none
  | _ => none
theorem dkOf_ok {K : PySem.W.Frag} {tbs : List Addr} {H : Hp} {μ : List Addr} {ph : PH} {x : PV} {v : V} {kvs : List (Key × PV)} (wd : Wd K tbs μ ph H) (h : dkOf ph x = some kvs) (r : Rl K H μ x v) : ∃ a vs, v = .ref a ∧ H a = some (.dK vs) ∧ KRl K H μ kvs vs := by
  unfold dkOf at h
  cases r with
  | @ref n a ha =>
    dsimp only at h
    cases e : ph[n]? with
    | none => rw [e] at h; cases h
    | some o =>
      rw [e] at h
      cases o with
      | dK kvs2 =>
        cases h
        obtain ⟨vs, e1, ra⟩ := wd.ob _ _ _ ha e
        exact ⟨a, vs, rfl, e1, ra⟩
      | _ => cases h
  | _ => cases h
def inB (h : PH) (x c : PV) : Option Bool := match c with
  | .str j => match x with
    | .str i => some (inStr i j)
    | _ => none
  | c => match seqOf h c with
    | some ys => inSeq h x ys
    | none => match dkOf h c, keyOf x with
      | some kvs, some k => some (getG kvs k).isSome
      | _, _ => none
def opIn : F2 := fun x c h => (inB h x c).map fun b => (.bl b, h)
theorem inB_run {neg : Bool} {op : CmpOp} (hu : X.A.units + 65 < cLine)
    (ht : ∀ (s : Shared) (x : Value) (l : Addr) (items : Array Value) (e : Value → Bool) (Q : Value → Shared → Prop), s.heap.IsTuple l items → (∀ y, y ∈ items → EqAt X.A.in1 s y x (e y)) → Q (.bool (neg != items.any e)) s → wpAny (model X.prog X.w) X.A (compareOp op x (.ref l)) Q X.xe s)
    (hl : ∀ (s : Shared) (x : Value) (l : Addr) (items : Array Value) (e : Value → Bool) (Q : Value → Shared → Prop), s.heap.IsList l items → (∀ y, y ∈ items → EqAt X.A.in1 s y x (e y)) → Q (.bool (neg != items.any e)) s → wpAny (model X.prog X.w) X.A (compareOp op x (.ref l)) Q X.xe s)
    (hs : ∀ (i j : Str) (v u : Value) (σ : L2.St) (pins : List (Addr × Obj)) (s : Shared) (H : Hp) (Q : VK), Inv X pins σ H s → RelV (.str i) v → RelV (.str j) u → Q (.bl (neg != inStr i j)) H → wpAny (model X.prog X.w) X.A (compareOp op v u) (EP X pins σ Q) X.xe s)
    (hd : ∀ (pins : List (Addr × Obj)) (s : Shared) (σ : L2.St) (H : Hp) (a : Addr) (y : V) (v : Value) (o : Option V) (Q : VK), Inv X pins σ H s → DGet H a y o → RelV y v → Q (.bl (neg != o.isSome)) H → wpAny (model X.prog X.w) X.A (compareOp op v (.ref a)) (EP X pins σ Q) X.xe s) :
    OpR X (compareOp op) (rP (bs X tbs) fun x c h => (inB h x c).map fun b => (.bl (neg != b), h)) := by
  intro pins s σ H x y v u Q I rx ry ⟨μ, ph, px, py, wd, r1, r2, q⟩
  dsimp only at q
  cases e : inB ph px py with
  | none => rw [e] at q; exact q.elim
  | some b =>
    rw [e] at q
    have q2 : Q (.bl (neg != b)) H := q.val wd (.bl _)
    unfold inB at e
    split at e
    · split at e
      · cases e
        cases r1
        cases r2
        exact hs _ _ v u σ pins s H Q I rx ry q2
      · cases e
    · split at e
      · rename_i ys e1
        obtain ⟨a, vs, rfl, hsq, ra⟩ := seqOf_ok wd e1 r2
        cases ry
        unfold inSeq at e
        cases ed : toD ph 50 px with
        | none => rw [ed] at e; cases e
        | some d =>
          rw [ed] at e
          dsimp only at e
          rcases hsq with hsq | hsq
          · obtain ⟨its, rv, ⟨o, n, ho, hc, hn, hd⟩, _⟩ := I.list hsq
            obtain ⟨z1, z2⟩ := anyO_at hu I wd r1 rx ed ra rv e
            refine hl s v a its.toArray (eqU s.heap d) _ ⟨o, ho, hc, n, hd⟩ (fun y hy => z2 y (by simpa using hy)) ⟨.bl _, H, I, rfl, ?_⟩
            rw [← Array.any_toList, z1]
            exact q2
          · obtain ⟨its, rv, ht2, _⟩ := I.tuple hsq
            obtain ⟨z1, z2⟩ := anyO_at hu I wd r1 rx ed ra rv e
            refine ht s v a its.toArray (eqU s.heap d) _ ht2 (fun y hy => z2 y (by simpa using hy)) ⟨.bl _, H, I, rfl, ?_⟩
            rw [← Array.any_toList, z1]
            exact q2
      · split at e
        · rename_i kvs k e1 e2
          cases e
          obtain ⟨a, vs, rfl, ha, kr⟩ := dkOf_ok wd e1 r2
          cases ry
          have ek := keyOf_ok e2 r1
          subst ek
          obtain ⟨g1, g2⟩ := kr.get (k := k)
          refine hd pins s σ H a (kV k) v (valV vs k) Q I (DGet.k ha) rx ?_
          have e3 : (valV vs k).isSome = (getG kvs k).isSome := by
            cases z : getG kvs k with
            | none => rw [g2 z]; rfl
            | some y => obtain ⟨u, z2, _⟩ := g1 y z; rw [z2]; rfl
          rw [e3]
          exact q2
        · cases e
theorem or_in (hu : X.A.units + 65 < cLine) : OpR X (compareOp .In) (rP (bs X tbs) opIn) := by
  have h := inB_run (X := X) (tbs := tbs) (neg := false) (op := .In) hu (fun s x l items e Q h1 h2 h3 => in_tupleAt e h1 h2 (by simpa using h3)) (fun s x l items e Q h1 h2 h3 => in_listAt e h1 h2 (by simpa using h3))
    (fun i j v u σ pins s H Q I rx ry q => op_in_str pins s σ H _ _ v u Q I rx ry ⟨i, j, rfl, rfl, by simpa [inStr] using q⟩)
    (fun pins s σ H a y v o Q I g ry q => d_in (by omega) I g ry fun s' I' => ⟨.bl o.isSome, H, I', rfl, by simpa using q⟩)
  have e : (fun x c h => (inB h x c).map fun b => (PV.bl (false != b), h) : F2) = opIn := by
    funext x c h
    simp [opIn]
  rw [← e]
  exact h
end
end Dn
namespace Dn
open PySem PySem.Spec PyProof.Rows L2 PySem.SeqAt

/-! ### is, truth, kinds, chains -/
def isNon : PV → Bool
  | .non => true
  | _ => false
def opIs : F2 := fun x y h => match x, y with
  | x, .non => some (.bl (isNon x), h)
  | .bl a, .bl b => some (.bl (decide (a = b)), h)
  | _, _ => none
def opIsNot : F2 := fun x y h => match x, y with
  | x, .non => some (.bl (!isNon x), h)
  | .bl a, .bl b => some (.bl (!decide (a = b)), h)
  | _, _ => none
def truB (h : PH) : PV → Option Bool
  | .non => some false
  | .bl b => some b
  | .int i => some (i != 0)
  | .str z => if sizeOk z.length then some ((z.length : Int) != 0) else none
  | x => (seqOf h x).map fun ys => !ys.isEmpty
/-- a value's truth as a test -/
def tTru (a : DE) : DT := fun s h => (a s h).bind fun x h => match truB h x with
  | some b => .ok b h
  | none => .no
def tyP (h : PH) : PV → Option String
  | .non => some "NoneType"
  | .bl _ => some "bool"
  | .int _ => some "int"
  | .str _ => some "str"
  | .tup _ => some "tuple"
  | .kt _ => some "tuple"
  | .fz _ => some "list"
  | .ref n => match h[n]? with
    | some (.lst _) => some "list"
    | some (.dK _) => some "dict"
    | some (.dT _) => some "dict"
    | none => none
def eIsi (n : String) (a : DE) : DE := fun s h => (a s h).bind fun x h => match tyP h x with
  | some c => .ok (.bl (Rw.isC n c)) h
  | none => .no
def eChain (f g : F2) (a b c : DE) : DE := fun s h => (a s h).bind fun x h => (b s h).bind fun y h => (Out.of (f x y h)).bind fun z h => match z with
  | .bl true => (c s h).bind fun u h => Out.of (g y u h)
  | .bl false => .ok (.bl false) h
  | _ => .no
section
variable {tbs : List Addr} {W : WX} {X : Cx} {pos : Pos}
theorem Rl.isNon {K : PySem.W.Frag} {H : Hp} {μ : List Addr} {x : PV} {v : V} (r : Rl K H μ x v) : decide (v = V.non) = Dn.isNon x := by
  cases r <;> first | rfl | exact decide_eq_false (fun z => by cases z)
theorem or_is : OpR X (compareOp .Is) (rP (bs X tbs) opIs) := by
  intro pins s σ H x y v u Q I rx ry ⟨μ, ph, px, py, wd, r1, r2, q⟩
  unfold opIs at q
  split at q
  · cases r2
    refine op_isN pins s σ H _ _ v u Q I rx ry ⟨rfl, ?_⟩
    rw [r1.isNon]
    exact q.val wd (.bl _)
  · cases r1
    cases r2
    exact op_isBl pins s σ H _ _ v u Q I rx ry ⟨_, _, rfl, rfl, q.val wd (.bl _)⟩
  · exact q.elim
theorem Rls.isEmpty {K : PySem.W.Frag} {H : Hp} {μ : List Addr} {xs : List PV} {vs : List V} (r : Rls K H μ xs vs) : vs.isEmpty = xs.isEmpty := by
  cases r <;> rfl
theorem j_tru {e : Expr} {f : DE} (h : JE (bs X tbs) W X e f) (he : ∀ whole, isTrue e X.env whole = (do let v ← whole; standAt e.pos; holding [v] (truthy v)) := by intro _; rfl) : JT (bs X tbs) W X e (tTru f) :=
  PT_imp (pt_truth h he) fun σ H Q ⟨μ, ps, ph, sr, wd, ok⟩ => ⟨μ, ps, ph, sr, wd, OutOk.bind ok fun x ph1 μ1 H1 v e1 w1 r1 ok1 => by
    cases eb : truB ph1 x with
    | none => simp only [eb] at ok1; exact ok1.elim
    | some b =>
      simp only [eb] at ok1
      refine ⟨b, ?_, ok1 μ1 H1 b Ex.refl w1 rfl⟩
      unfold truB at eb
      split at eb
      · cases eb; cases r1; rfl
      · cases eb; cases r1; rfl
      · cases eb; cases r1; rfl
      · split at eb
        · rename_i hz
          cases eb; cases r1; exact ⟨sizeOk_le hz, rfl⟩
        · cases eb
      · cases es : seqOf ph1 x with
        | none => rw [es] at eb; cases eb
        | some ys =>
          rw [es] at eb
          cases eb
          obtain ⟨a, vs, rfl, hs, ra⟩ := seqOf_ok w1 es r1
          rcases hs with hs | hs
          · exact .inl ⟨vs, hs, by rw [ra.isEmpty]⟩
          · exact .inr (.inl ⟨vs, hs, by rw [ra.isEmpty]⟩)⟩
theorem tyX_of {H : Hp} {μ : List Addr} {ph : PH} {x : PV} {v : V} {c : String} (wd : Wd X.K tbs μ ph H) (r : Rl X.K H μ x v) (e : tyP ph x = some c) : TyX X.K H v (.type c) := by
  unfold tyP at e
  cases r with
  | non => cases e; exact .base .non
  | bl b => cases e; exact .base (.bl b)
  | int b => cases e; exact .base (.int b)
  | str b => cases e; exact .base (.str b)
  | tup h _ => cases e; exact .base (.tup h)
  | kt h _ =>
    cases e
    obtain ⟨o, its, n, h1, h2, _⟩ := h
    exact .kTuple h1 h2
  | fz h _ =>
    cases e
    rcases h with ⟨o, h⟩ | ⟨o, its, n, h1, h2, _⟩
    · exact .base (.frz h)
    · exact .kList h1 h2
  | @ref n a hk =>
    dsimp only at e
    obtain ⟨o, ho, r2⟩ := wd.there hk
    rw [ho] at e
    cases o with
    | lst xs =>
      cases e
      obtain ⟨vs, h1, _⟩ := r2
      exact .base (.lst h1)
    | dK xs =>
      cases e
      obtain ⟨vs, h1, _⟩ := r2
      exact .base (.dK h1)
    | dT xs =>
      cases e
      obtain ⟨vs, h1, _⟩ := r2
      exact .base (.dT h1)
theorem tyP_mem {h : PH} {x : PV} {c : String} (e : tyP h x = some c) : c ∈ Rw.clsAll := by
  unfold tyP at e
  split at e <;> first
    | (cases e; simp [Rw.clsAll]; done)
    | (split at e <;> first | (cases e; simp [Rw.clsAll]; done) | cases e)
/-- isinstance(e, T) -/
theorem j_isi {e : Expr} {f : DE} {x : Str} {n : String} {p1 p2 : Pos} (hn : n ∈ ["tuple", "int", "bool", "str", "list"]) (he : JE (bs X tbs) W X e f) (hi : X.mg ("isinstance" : Str) = none) (hm : X.mg x = none) (hv : bootBuiltins x = some (.type n)) (hg : Gl X ("isinstance" : Str) := by rfl) (hg2 : Gl X x := by rfl)
    (hn2 : x ≠ "__name__" := by decide) (hd2 : (x == ("__debug__" : Str)) = false := by decide)
    (hs : starEach [e, .Name x p2] X.env = (false, eval e X.env) :: starEach [.Name x p2] X.env := by rfl) (hp : (backTo pos (starEach [.Name x p2] X.env)).any (·.1) = false := by rfl) :
    JE (bs X tbs) W X (.Call (.Name ("isinstance" : Str) p1) [e, .Name x p2] [] pos) (eIsi n f) :=
  PE_imp (pe_callB call_isi hg hi (by decide +kernel) (pa_cons he (pa_cons (pe_bltn hg2 hm hv (show RelV (.ty n) (.type n) from rfl) hn2 hd2) pa_nil) hs) (by decide) (by decide) hs hp) fun σ H Q ⟨μ, ps, ph, sr, wd, ok⟩ => ⟨μ, ps, ph, sr, wd, OutOk.bind ok fun z ph1 μ1 H1 v e1 w1 r1 ok1 => by
    cases ec : tyP ph1 z with
    | none => simp only [ec] at ok1; exact ok1.elim
    | some c =>
      simp only [ec] at ok1
      exact ⟨v, .ty n, .type c, .type n, Rw.isC n c, rfl, .ty n, tyX_of w1 r1 ec, kit_ty (Rw.kit_all _ (tyP_mem ec) n hn), ok1 μ1 H1 _ Ex.refl w1 (.bl _)⟩⟩
theorem chain_ok {fa fb fc : DE} {f g : F2} {σ : L2.St} {H : Hp} {Q : VK} (h : tD (bs X tbs) W (eChain f g fa fb fc) σ H Q) : tChain (rP (bs X tbs) f) (rP (bs X tbs) g) (tD (bs X tbs) W fa) (tD (bs X tbs) W fb) (tD (bs X tbs) W fc) σ H Q := by
  obtain ⟨μ, ps, ph, sr, wd, ok⟩ := h
  refine ⟨μ, ps, ph, sr, wd, OutOk.bind ok fun x ph1 μ1 H1 v e1 w1 r1 ok1 => ⟨μ1, ps, ph1, sr.mono e1, w1, OutOk.bind ok1 fun y ph2 μ2 H2 u e2 w2 r2 ok2 => ?_⟩⟩
  refine ⟨μ2, ph2, x, y, w2, r1.mono e2, r2, (OutOk.bind ok2 fun z ph3 μ3 H3 z' e3 w3 r3 ok3 => ?_).op⟩
  cases r3 with
  | bl b =>
    cases b with
    | true => exact ⟨true, rfl, iteT ⟨μ3, ps, ph3, ((sr.mono e1).mono e2).mono e3, w3, OutOk.bind ok3 fun t ph4 μ4 H4 t' e4 w4 r4 ok4 => ⟨μ4, ph4, y, t, w4, (r2.mono e3).mono e4, r4, ok4.op⟩⟩⟩
    | false => exact ⟨false, rfl, iteF (ok3 μ3 H3 _ Ex.refl w3 (.bl false))⟩
  | _ => exact ok3.elim
theorem j_chain {op op' : CmpOp} {a b c : Expr} {fa fb fc : DE} {f g : F2} (ho : OpR X (compareOp op) (rP (bs X tbs) f)) (ho' : OpR X (compareOp op') (rP (bs X tbs) g)) (ha : JE (bs X tbs) W X a fa) (hb : JE (bs X tbs) W X b fb) (hc : JE (bs X tbs) W X c fc)
    (hm : lastMarks [op, op'] [b, c] = false := by with_unfolding_all rfl) : JE (bs X tbs) W X (.Compare a [op, op'] [b, c] pos) (eChain f g fa fb fc) :=
  PE_imp (pe_chain ho ho' ha hb hc hm) fun σ H Q h => chain_ok h
theorem j_tchain {op op' : CmpOp} {a b c : Expr} {fa fb fc : DE} {f g : F2} (ho : OpR X (compareOp op) (rP (bs X tbs) f)) (ho' : OpR X (compareOp op') (rP (bs X tbs) g)) (ha : JE (bs X tbs) W X a fa) (hb : JE (bs X tbs) W X b fb) (hc : JE (bs X tbs) W X c fc)
    (hm : lastMarks [op, op'] [b, c] = false := by with_unfolding_all rfl) : JT (bs X tbs) W X (.Compare a [op, op'] [b, c] pos) (tV (eChain f g fa fb fc)) :=
  PT_imp (pt_chain ho ho' ha hb hc hm) fun σ H Q ⟨μ, ps, ph, sr, wd, ok⟩ => chain_ok (W := W) ⟨μ, ps, ph, sr, wd, OutOk.bind (k := fun x h => match x with | .bl b => .ok b h | _ => .no) ok fun x ph1 μ1 H1 v e1 w1 r1 ok1 => by
    cases r1 with
    | bl b => exact ⟨b, rfl, ok1 μ1 H1 b Ex.refl w1 rfl⟩
    | _ => exact ok1.elim⟩
end
end Dn
namespace Dn
open PySem PySem.Spec PyProof.Rows L2 PySem.SeqAt

/-! ### methods of lists, dicts, texts -/
abbrev FM := PV → List PV → PH → Option (PV × PH)
/-- the kind of a value on which a method is called -/
def kindP (h : PH) : PV → Option String
  | .str _ => some "str"
  | .ref n => match h[n]? with
    | some (.lst _) => some "list"
    | some (.dK _) => some "dict"
    | some (.dT _) => some "dict"
    | none => none
  | .fz _ => some "list"
  | _ => none
def eMt (T : String) (f : FM) (o : DE) (as : DA) : DE := fun s h => (o s h).bind fun x h => if kindP h x = some T then (as s h).bind fun xs h => Out.of (f x xs h) else .no
def rPM (B : Bs) (f : FM) : V → List V → Hp → VK → Prop := fun x xs H Q => ∃ μ ph px ps, Wd B.K B.tbs μ ph H ∧ Rl B.K H μ px x ∧ Rls B.K H μ ps xs ∧ OutN B μ H (f px ps ph) Q
def lstAt (h : PH) (n : Nat) : Option (List PV) := match h[n]? with
  | some (.lst xs) => some xs
  | _ => none
def mAppend : FM := fun x ys h => match x, ys with
  | .ref n, [y] => (lstAt h n).bind fun xs => if decide (xs.length < 16777216) then some (.non, h.set n (.lst (xs ++ [y]))) else none
  | _, _ => none
def mPop : FM := fun x ys h => match x, ys with
  | .ref n, [] => (lstAt h n).bind fun xs => xs[xs.length - 1]?.map fun y => (y, h.set n (.lst xs.dropLast))
  | .ref n, [.int i] => (lstAt h n).bind fun xs => if smallB (2 * i) then (seqIndex? i xs.length).bind fun k => xs[k]?.map fun y => (y, h.set n (.lst (xs.eraseIdx k))) else none
  | _, _ => none
def mExtend : FM := fun x ys h => match x, ys with
  | .ref n, [.ref m] => (lstAt h n).bind fun xs => (lstAt h m).bind fun zs => if sizeOk (xs.length + zs.length) then some (.non, h.set n (.lst (xs ++ zs))) else none
  | _, _ => none
section
variable {tbs : List Addr} {W : WX} {X : Cx} {pos : Pos}
theorem kind_ok {H : Hp} {μ : List Addr} {ph : PH} {x : PV} {v : V} {T : String} (wd : Wd X.K tbs μ ph H) (r : Rl X.K H μ x v) (e : kindP ph x = some T) : tyV X.K T v H := by
  unfold kindP at e
  cases r with
  | str z => cases e; exact rfl
  | fz h _ => cases e; exact .inl ⟨rfl, _, h.sql⟩
  | @ref n a hk =>
    dsimp only at e
    obtain ⟨o, ho, r2⟩ := wd.there hk
    rw [ho] at e
    cases o with
    | lst xs =>
      cases e
      obtain ⟨vs, h1, _⟩ := r2
      exact .inl ⟨rfl, vs, SqL.of h1⟩
    | dK xs =>
      cases e
      obtain ⟨vs, h1, _⟩ := r2
      exact .inr (.inr (.inl ⟨rfl, .inl ⟨vs, h1⟩⟩))
    | dT xs =>
      cases e
      obtain ⟨vs, h1, _⟩ := r2
      exact .inr (.inr (.inl ⟨rfl, .inr ⟨vs, h1⟩⟩))
  | _ => cases e
variable {o e : Expr} {es : List Expr} {fo : DE} {g : DA} {name : Str} {apos cpos : Pos} {T id : String} {f : FM}
theorem j_mt (pa : PlainAttrs T) (slot : Slot T name id) (hty : typeOf (.builtin id) = pure (.type "method_descriptor")) (hm : MtR X id (rPM (bs X tbs) f)) (ho : JE (bs X tbs) W X o fo) (ha : JA (bs X tbs) W X (e :: es) g)
    (hbase : attributeBase o name X.env (eval o X.env) = eval o X.env := by rfl)
    (hfew : ((backTo cpos (starEach (e :: es) X.env)).all (fun x => !x.1) && (backToKw cpos (keywordEach [] X.env)).all (fun x => x.1.isSome)
      && decide ((e :: es).length + ([] : List Keyword).length + (if ([] : List Keyword).isEmpty then 0 else 1) < 30)) = true := by rfl)
    (hline : (apos.endLine == cpos.line) = true := by rfl) (hs : starEach (e :: es) X.env = (false, eval e X.env) :: starEach es X.env := by rfl) (hplain : (backTo cpos (starEach es X.env)).any (·.1) = false := by rfl) :
    JE (bs X tbs) W X (.Call (.Attribute o name apos) (e :: es) [] cpos) (eMt T f fo g) :=
  PE_imp (pe_bm pa slot hty hm ho ha hbase hfew hline hs hplain) fun σ H Q ⟨μ, ps, ph, sr, wd, ok⟩ => ⟨μ, ps, ph, sr, wd, OutOk.bind ok fun x ph1 μ1 H1 v e1 w1 r1 ok1 => by
    by_cases c : kindP ph1 x = some T
    · simp only [c, if_true] at ok1
      exact ⟨kind_ok w1 r1 c, μ1, ps, ph1, sr.mono e1, w1, OutOk.bind ok1 fun xs ph2 μ2 H2 vs e2 w2 r2 ok2 => ⟨μ2, ph2, x, xs, w2, r1.mono e2, r2, ok2.op⟩⟩
    · simp only [c, if_false] at ok1
      exact ok1.elim⟩
theorem j_mt0 (pa : PlainAttrs T) (slot : Slot T name id) (hty : typeOf (.builtin id) = pure (.type "method_descriptor")) (hm : MtR X id (rPM (bs X tbs) f)) (ho : JE (bs X tbs) W X o fo)
    (hbase : attributeBase o name X.env (eval o X.env) = eval o X.env := by rfl) (hline : (apos.endLine == cpos.line) = true := by rfl) :
    JE (bs X tbs) W X (.Call (.Attribute o name apos) [] [] cpos) (eMt T f fo eNil) :=
  PE_imp (pe_bm0 pa slot hty hm ho hbase hline) fun σ H Q ⟨μ, ps, ph, sr, wd, ok⟩ => ⟨μ, ps, ph, sr, wd, OutOk.bind ok fun x ph1 μ1 H1 v e1 w1 r1 ok1 => by
    by_cases c : kindP ph1 x = some T
    · simp only [c, if_true] at ok1
      exact ⟨kind_ok w1 r1 c, μ1, ph1, x, [], w1, r1, .nil, ok1.op⟩
    · simp only [c, if_false] at ok1
      exact ok1.elim⟩
theorem lstAt_ok {H : Hp} {μ : List Addr} {ph : PH} {n : Nat} {a : Addr} {xs : List PV} (wd : Wd X.K tbs μ ph H) (hk : μ[n]? = some a) (e : lstAt ph n = some xs) : ∃ vs, H a = some (.lst vs) ∧ Rls X.K H μ xs vs := by
  unfold lstAt at e
  split at e
  · rename_i ys h
    cases e
    exact wd.ob _ a _ hk h
  · cases e
theorem Wd.setLst {K : PySem.W.Frag} {H : Hp} {μ : List Addr} {ph : PH} {n : Nat} {a : Addr} {xs : List PV} {vs : List V} (wd : Wd K tbs μ ph H) (hk : μ[n]? = some a) (r : Rls K H μ xs vs) : Wd K tbs μ (ph.set n (.lst xs)) (upd H a (.lst vs)) ∧ Ex μ H μ (upd H a (.lst vs)) := by
  obtain ⟨m0, h0, r0⟩ := wd.there hk
  obtain ⟨u, hu, nt, nf, nb⟩ := r0.there
  exact wd.put hk ⟨vs, upd_same, r.mono (Ex.put hu nt nf)⟩
theorem Rls.dropLast {K : PySem.W.Frag} {H : Hp} {μ : List Addr} {xs : List PV} {vs : List V} (r : Rls K H μ xs vs) : Rls K H μ xs.dropLast vs.dropLast := by
  rw [List.dropLast_eq_take, List.dropLast_eq_take, r.len]
  exact r.take _
theorem Rls.erase {K : PySem.W.Frag} {H : Hp} {μ : List Addr} : ∀ {xs : List PV} {vs : List V} (k : Nat), Rls K H μ xs vs → Rls K H μ (xs.eraseIdx k) (vs.eraseIdx k)
  | _, _, _, .nil => .nil
  | _, _, 0, .cons _ b => b
  | _, _, k + 1, .cons a b => .cons a (Rls.erase k b)
theorem sizeLt {n : Nat} (h : n < 16777216) : n < sizeLine := by
  rw [sizeLine_eq]
  exact h
theorem mr_append : MtR X "list.append" (rPM (bs X tbs) mAppend) := by
  intro pins s σ H x xs v us Q I rx rs ⟨μ, ph, px, ps, wd, r1, r2, q⟩
  unfold mAppend at q
  split at q
  · rename_i n y
    cases r1 with
    | @ref _ a hk =>
    obtain ⟨w, rfl, rw_⟩ := r2.one'
    cases el : lstAt ph n with
    | none => rw [el] at q; exact q.elim
    | some ys =>
      rw [el] at q
      simp only [Option.bind_some] at q
      split at q
      · rename_i hz
        obtain ⟨vs, h1, ra⟩ := lstAt_ok wd hk el
        obtain ⟨w2, e2⟩ := wd.setLst hk (ra.snoc rw_)
        exact mt_append pins s σ H _ _ v us Q I rx rs ⟨a, vs, w, rfl, rfl, h1, by rw [← ra.len]; exact sizeLt (of_decide_eq_true hz), q _ _ _ e2 w2 .non⟩
      · exact q.elim
  · exact q.elim
theorem mr_pop : MtR X "list.pop" (rPM (bs X tbs) mPop) := by
  intro pins s σ H x xs v us Q I rx rs ⟨μ, ph, px, ps, wd, r1, r2, q⟩
  unfold mPop at q
  split at q
  · rename_i n
    cases r1 with
    | @ref _ a hk =>
    cases r2
    cases el : lstAt ph n with
    | none => rw [el] at q; exact q.elim
    | some ys =>
      rw [el] at q
      simp only [Option.bind_some] at q
      cases e : ys[ys.length - 1]? with
      | none => rw [e] at q; exact q.elim
      | some y =>
        rw [e] at q
        obtain ⟨vs, h1, ra⟩ := lstAt_ok wd hk el
        obtain ⟨w, h2, rw_⟩ := ra.at e
        obtain ⟨w2, e2⟩ := wd.setLst hk ra.dropLast
        exact mt_pop pins s σ H _ _ v us Q I rx rs ⟨a, vs, w, rfl, rfl, h1, by rw [← ra.len]; exact h2, q _ _ _ e2 w2 (rw_.mono e2)⟩
  · rename_i n i
    cases r1 with
    | @ref _ a hk =>
    obtain ⟨w0, rfl, rw0⟩ := r2.one'
    cases rw0
    cases el : lstAt ph n with
    | none => rw [el] at q; exact q.elim
    | some ys =>
      rw [el] at q
      simp only [Option.bind_some] at q
      split at q
      · rename_i hz
        have hz := of_decide_eq_true hz
        cases ek : seqIndex? i ys.length with
        | none => rw [ek] at q; exact q.elim
        | some k =>
          rw [ek] at q
          simp only [Option.bind_some] at q
          cases e : ys[k]? with
          | none => rw [e] at q; exact q.elim
          | some y =>
            rw [e] at q
            obtain ⟨vs, h1, ra⟩ := lstAt_ok wd hk el
            obtain ⟨w, h2, rw_⟩ := ra.at e
            obtain ⟨w2, e2⟩ := wd.setLst hk (ra.erase k)
            exact mt_popAt pins s σ H _ _ v us Q I rx rs ⟨a, vs, i, k, w, rfl, rfl, h1, by omega, by omega, by rw [← ra.len]; exact ek, h2, q _ _ _ e2 w2 (rw_.mono e2)⟩
      · exact q.elim
  · exact q.elim
theorem mr_extend : MtR X "list.extend" (rPM (bs X tbs) mExtend) := by
  intro pins s σ H x xs v us Q I rx rs ⟨μ, ph, px, ps, wd, r1, r2, q⟩
  unfold mExtend at q
  split at q
  · rename_i n m
    cases r1 with
    | @ref _ a hk =>
    obtain ⟨w, rfl, rw_⟩ := r2.one'
    cases rw_ with
    | @ref _ b hkb =>
    cases el : lstAt ph n with
    | none => rw [el] at q; exact q.elim
    | some ys =>
      rw [el] at q
      simp only [Option.bind_some] at q
      cases em : lstAt ph m with
      | none => rw [em] at q; exact q.elim
      | some zs =>
        rw [em] at q
        simp only [Option.bind_some] at q
        split at q
        · rename_i hz
          obtain ⟨vs, h1, ra⟩ := lstAt_ok wd hk el
          obtain ⟨vz, h3, rb⟩ := lstAt_ok wd hkb em
          obtain ⟨w2, e2⟩ := wd.setLst hk (ra.app rb)
          exact mt_extend pins s σ H _ _ v us Q I rx rs ⟨a, b, vs, vz, rfl, rfl, h1, h3, by rw [← ra.len, ← rb.len]; exact sizeOk_le hz, q _ _ _ e2 w2 .non⟩
        · exact q.elim
  · exact q.elim
end
end Dn
namespace Dn
open PySem PySem.Spec PyProof.Rows L2 PySem.SeqAt

/-! ### targets of any kind -/
abbrev GH := PV → Sl → PH → Option (Sl × PH)
abbrev GHs := List PV → Sl → PH → Option (Sl × PH)
abbrev F3 := PV → PV → PV → PH → Option PH
def OutH (B : Bs) (μ : List Addr) (H : Hp) (o : Option (Sl × PH)) (Q : L2.St → Hp → Prop) : Prop := match o with
  | some (s, h) => ∀ μ' H' σ', Ex μ H μ' H' → Wd B.K B.tbs μ' h H' → Sr B.K H' μ' s σ' → Q σ' H'
  | none => False
def gH (B : Bs) (g : GH) : TG := fun v σ H Q => ∃ μ ps ph px, Sr B.K H μ ps σ ∧ Wd B.K B.tbs μ ph H ∧ Rl B.K H μ px v ∧ OutH B μ H (g px ps ph) Q
def gHs (B : Bs) (g : GHs) : TGs := fun vs σ H Q => ∃ μ ps ph pxs, Sr B.K H μ ps σ ∧ Wd B.K B.tbs μ ph H ∧ Rls B.K H μ pxs vs ∧ OutH B μ H (g pxs ps ph) Q
def JH (B : Bs) (X : Cx) (tg : Expr) (g : GH) : Prop := PG X tg (gH B g)
def JHs (B : Bs) (X : Cx) (tg : List Expr) (g : GHs) : Prop := PGs X tg (gHs B g)
def hNm (i : Nat) : GH := fun v s h => some (s.set i (some v), h)
def hSub (f : F3) (o i : DE) : GH := fun v s h => match o s h with
  | .ok ov h1 => match i s h1 with
    | .ok iv h2 => (f ov iv v h2).map fun h3 => (s, h3)
    | _ => none
  | _ => none
def hsNil : GHs := fun vs s h => match vs with
  | [] => some (s, h)
  | _ => none
def hsCons (g : GH) (r : GHs) : GHs := fun vs s h => match vs with
  | v :: vs => (g v s h).bind fun p => r vs p.1 p.2
  | [] => none
def hTp (n : Nat) (g : GHs) : GH := fun v s h => match v with
  | .tup xs => if xs.length = n then g xs s h else none
  | .kt xs => if xs.length = n then g xs s h else none
  | _ => none
def sAsgH (g : GH) (f : DE) : DS := fun s h => (f s h).then s fun v h => match g v s h with
  | some (s', h') => .nx s' h'
  | none => .no
/-- o[i] = v -/
def rP3 (B : Bs) (f : F3) : TSet := fun o i v H Q => ∃ μ ph po pi pv, Wd B.K B.tbs μ ph H ∧ Rl B.K H μ po o ∧ Rl B.K H μ pi i ∧ Rl B.K H μ pv v ∧ match f po pi pv ph with
  | some h => ∀ μ' H', Ex μ H μ' H' → Wd B.K B.tbs μ' h H' → Q H'
  | none => False
def fSet : F3 := fun o i v h => match o with
  | .ref n => match h[n]?, i with
    | some (.lst xs), .int k => (ixN xs.length k).map fun j => h.set n (.lst (xs.set j v))
    | some (.dK kvs), i => (keyOf i).bind fun k => if decide (kvs.length < 16777216) then some (h.set n (.dK (putG kvs k v))) else none
    | some (.dT kvs), .tup ks => (keysOf ks).bind fun k => if decide (kvs.length < 16777216) then some (h.set n (.dT (putG kvs k v))) else none
    | _, _ => none
  | _ => none
section
variable {tbs : List Addr} {W : WX} {X : Cx} {pos : Pos}
theorem PG_imp' {X : Cx} {tg : Expr} {t t' : TG} (h : PG X tg t) (k : ∀ v σ H Q, t' v σ H Q → t v σ H Q) : PG X tg t' := ⟨fun pins s σ H v u Q I r q => h.run pins s σ H v u Q I r (k v σ H Q q)⟩
theorem h_sub {o i : Expr} {fo fi : DE} {f : F3} (hs : PSet X (rP3 (bs X tbs) f)) (ho : JE (bs X tbs) W0 X o fo) (hi : JE (bs X tbs) W0 X i fi)
    (ha : ∀ v, assign (.Subscript o i pos) X.env v = (do
      let ov ← holding [v] (eval o X.env)
      let iv ← holding [v, ov] (eval i X.env)
      standAt pos
      holding [v, ov, iv] (setItem ov iv v)
      release [v, ov, iv] []) := by intro _; rfl) : JH (bs X tbs) X (.Subscript o i pos) (hSub f fo fi) :=
  PG_imp' (pg_sub ho hi hs ha) fun v σ H Q ⟨μ, ps, ph, px, sr, wd, r, ok⟩ => by
    unfold hSub at ok
    refine ⟨μ, ps, ph, sr, wd, ?_⟩
    cases e1 : fo ps ph with
    | no => rw [e1] at ok; exact ok.elim
    | err x h => rw [e1] at ok; exact ok.elim
    | ok ov h1 =>
      rw [e1] at ok
      dsimp only at ok
      intro μ1 H1 v1 x1 w1 r1
      refine ⟨μ1, ps, h1, sr.mono x1, w1, ?_⟩
      cases e2 : fi ps h1 with
      | no => rw [e2] at ok; exact ok.elim
      | err x h => rw [e2] at ok; exact ok.elim
      | ok iv h2 =>
        rw [e2] at ok
        dsimp only at ok
        intro μ2 H2 v2 x2 w2 r2
        refine ⟨μ2, h2, ov, iv, px, w2, r1.mono x2, r2, (r.mono x1).mono x2, ?_⟩
        cases e3 : f ov iv px h2 with
        | none => rw [e3] at ok; exact ok.elim
        | some h3 =>
          rw [e3] at ok
          exact fun μ3 H3 x3 w3 => ok μ3 H3 σ ((x1.trans x2).trans x3) w3 (((sr.mono x1).mono x2).mono x3)
theorem hs_nil : JHs (bs X tbs) X [] hsNil := PGs_imp pgs_nil fun vs σ H Q ⟨μ, ps, ph, pxs, sr, wd, r, ok⟩ => by
  unfold hsNil at ok
  cases r with
  | nil => exact ⟨rfl, ok μ H σ Ex.refl wd sr⟩
  | cons _ _ => exact ok.elim
theorem hs_cons {e : Expr} {es : List Expr} {g : GH} {r : GHs} (h1 : JH (bs X tbs) X e g) (h2 : JHs (bs X tbs) X es r) (hs : (assignEach (e :: es) X.env).map (·.2) = assign e X.env :: (assignEach es X.env).map (·.2) := by rfl) : JHs (bs X tbs) X (e :: es) (hsCons g r) :=
  PGs_imp (pgs_cons h1 h2 hs) fun vs σ H Q ⟨μ, ps, ph, pxs, sr, wd, rr, ok⟩ => by
    cases rr with
    | nil => exact ok.elim
    | @cons x v xs ws ra rb =>
      unfold hsCons at ok
      dsimp only at ok
      refine ⟨v, ws, rfl, μ, ps, ph, x, sr, wd, ra, ?_⟩
      cases e1 : g x ps ph with
      | none => rw [e1] at ok; exact ok.elim
      | some p =>
        rw [e1] at ok
        obtain ⟨s1, h1⟩ := p
        simp only [Option.bind_some] at ok
        intro μ1 H1 σ1 x1 w1 sr1
        refine ⟨μ1, s1, h1, xs, sr1, w1, rb.mono x1, ?_⟩
        cases e2 : r xs s1 h1 with
        | none => rw [e2] at ok; exact ok.elim
        | some p2 =>
          rw [e2] at ok
          obtain ⟨s2, h2⟩ := p2
          exact fun μ2 H2 σ2 x2 => ok μ2 H2 σ2 (x1.trans x2)
theorem h_tp {es : List Expr} {k n : Nat} {g : GHs} (hc : X.calm = true) (h : JHs (bs X tbs) X es g) (hn : (assignEach es X.env).length = n := by rfl) (hst : (assignEach es X.env).findIdx? (·.1) = none := by rfl) : JH (bs X tbs) X (.Tuple es k pos) (hTp n g) :=
  PG_imp' (pg_tup hc h hn hst) fun v σ H Q ⟨μ, ps, ph, px, sr, wd, r, ok⟩ => by
    unfold hTp at ok
    cases r with
    | @tup a vs xs ha ra =>
      dsimp only at ok
      split at ok
      · rename_i hl
        exact ⟨a, vs, rfl, SqT.of ha, by rw [← ra.len]; exact hl, μ, ps, ph, xs, sr, wd, ra, ok⟩
      · exact ok.elim
    | @kt a vs xs ha ra =>
      dsimp only at ok
      split at ok
      · rename_i hl
        exact ⟨a, vs, rfl, .inr ha, by rw [← ra.len]; exact hl, μ, ps, ph, xs, sr, wd, ra, ok⟩
      · exact ok.elim
    | _ => exact ok.elim
theorem js_asgH {tg e : Expr} {f : DE} {g : GH} (he : JE (bs X tbs) W X e f) (hg : JH (bs X tbs) X tg g) (hs : swapsWithSole [tg] e pos.line X.env = pure false := by rfl) (hw : swappedStores [tg] e X.env = pure none := by rfl)
    (h1 : (assignEach [tg] X.env).map (·.2) = [assign tg X.env] := by rfl) : JS (bs X tbs) W X (.Assign [tg] e pos) (sAsgH g f) :=
  PS_imp (ps_asg he hg hs hw h1) fun D σ H ⟨μ, ps, ph, sr, wd, ok⟩ => ⟨μ, ps, ph, sr, wd, OutOk.then_ sr ok fun x ph1 μ1 H1 v e1 w1 r1 ok1 => by
    refine ⟨μ1, ps, ph1, x, sr.mono e1, w1, r1, ?_⟩
    cases eg : g x ps ph1 with
    | none => rw [eg] at ok1; exact ok1.elim
    | some p =>
      rw [eg] at ok1
      obtain ⟨s2, h2⟩ := p
      exact ok1⟩
theorem Wd.setK {K : PySem.W.Frag} {H : Hp} {μ : List Addr} {ph : PH} {n : Nat} {a : Addr} {xs : List (Key × PV)} {vs : List (Key × V)} (wd : Wd K tbs μ ph H) (hk : μ[n]? = some a) (r : KRl K H μ xs vs) : Wd K tbs μ (ph.set n (.dK xs)) (upd H a (.dK vs)) ∧ Ex μ H μ (upd H a (.dK vs)) := by
  obtain ⟨m0, h0, r0⟩ := wd.there hk
  obtain ⟨u, hu, nt, nf, nb⟩ := r0.there
  exact wd.put hk ⟨vs, upd_same, r.mono (Ex.put hu nt nf)⟩
theorem Wd.setT {K : PySem.W.Frag} {H : Hp} {μ : List Addr} {ph : PH} {n : Nat} {a : Addr} {xs : List (List Key × PV)} {vs : List (List Key × V)} (wd : Wd K tbs μ ph H) (hk : μ[n]? = some a) (r : KRl K H μ xs vs) : Wd K tbs μ (ph.set n (.dT xs)) (upd H a (.dT vs)) ∧ Ex μ H μ (upd H a (.dT vs)) := by
  obtain ⟨m0, h0, r0⟩ := wd.there hk
  obtain ⟨u, hu, nt, nf, nb⟩ := r0.there
  exact wd.put hk ⟨vs, upd_same, r.mono (Ex.put hu nt nf)⟩
theorem st_set (hu : X.A.units + 1 < cLine) : PSet X (rP3 (bs X tbs) fSet) := by
  intro pins s σ H o i v ov iv u Q I ro ri rv ⟨μ, ph, po, pi, pv, wd, r1, r2, r3, q⟩
  unfold fSet at q
  cases r1 with
  | @ref n a hk =>
    dsimp only at q
    obtain ⟨m, hm, r0⟩ := wd.there hk
    rw [hm] at q
    cases m with
    | lst xs =>
      cases r2 with
      | int k =>
        obtain ⟨vs, h1, ra⟩ := r0
        dsimp only at q
        cases e : ixN xs.length k with
        | none => rw [e] at q; exact q.elim
        | some j =>
          rw [e] at q
          obtain ⟨w2, e2⟩ := wd.setLst hk (ra.set r3 j)
          exact set_list pins s σ H _ _ _ ov iv u Q I ro ri rv ⟨a, vs, k, j, rfl, rfl, h1, by rw [← ra.len]; exact e, q μ _ e2 w2⟩
      | _ => exact q.elim
    | dK kvs =>
      dsimp only at q
      cases e : keyOf pi with
      | none => rw [e] at q; exact q.elim
      | some k =>
        rw [e] at q
        simp only [Option.bind_some] at q
        by_cases hz : kvs.length < 16777216
        · rw [if_pos (decide_eq_true hz)] at q
          obtain ⟨vs, h1, ra⟩ := r0
          obtain ⟨w2, e2⟩ := wd.setK hk (ra.put (k := k) r3)
          have ey := keyOf_ok e r2
          subst ey
          cases ro
          exact d_setItem hu I (DPut.k (v := v) h1 (by rw [← ra.len]; exact sizeLt hz)) ri rv fun s' I' => ⟨_, I', q μ _ e2 w2⟩
        · rw [if_neg (by simpa using hz)] at q
          exact q.elim
    | dT kvs =>
      cases r2 with
      | @tup b ws ks hb rb =>
        dsimp only at q
        cases e : keysOf ks with
        | none => rw [e] at q; exact q.elim
        | some k =>
          rw [e] at q
          simp only [Option.bind_some] at q
          by_cases hz : kvs.length < 16777216
          · rw [if_pos (decide_eq_true hz)] at q
            obtain ⟨vs, h1, ra⟩ := r0
            obtain ⟨w2, e2⟩ := wd.setT hk (ra.put (k := k) r3)
            have ey := keysOf_ok e rb
            subst ey
            cases ro
            exact d_setItem hu I (DPut.t (v := v) h1 hb (by rw [← ra.len]; exact sizeLt hz)) ri rv fun s' I' => ⟨_, I', q μ _ e2 w2⟩
          · rw [if_neg (by simpa using hz)] at q
            exact q.elim
      | _ => exact q.elim
  | _ => exact q.elim

/-! ### while -/
end
end Dn
namespace Dn
open PySem PySem.Spec PyProof.Rows L2 PySem.SeqAt

/-! ### dict displays -/
def pairsD : List (DE × DE) → Sl → PH → Out (List (Key × PV))
  | [], _, h => .ok [] h
  | (k, v) :: r, s, h => (k s h).bind fun kx h => (v s h).bind fun y h => match keyOf kx with
    | some k => (pairsD r s h).bind fun ps h => .ok ((k, y) :: ps) h
    | none => .no
def mergeG (kvs more : List (Key × PV)) : List (Key × PV) := more.foldl (fun acc kv => putG acc kv.1 kv.2) kvs
def isNewK (h : PH) (n : Nat) : Bool := match h[n]? with
  | some (.dK []) => true
  | _ => false
def eDisp (ps : List (DE × DE)) : DE := fun s h => (pairsD ps s (h ++ [.dK []])).bind fun kvs h1 => if isNewK h1 h.length = true ∧ kvs.length ≤ 15 then .ok (.ref h.length) (h1.set h.length (.dK (mergeG [] kvs))) else .no
section
variable {tbs : List Addr} {W : WX} {X : Cx} {pos : Pos}
/-- the pairs of a display -/
inductive JPs (B : Bs) (W : WX) (X : Cx) (pos : Pos) : List (Option Expr) → List Expr → List (DE × DE) → Prop
  | nil : JPs B W X pos [] [] []
  | cons {k v : Expr} {ks : List (Option Expr)} {vs : List Expr} {f g : DE} {r : List (DE × DE)} : JE B W X k f → JE B W X v g → JPs B W X pos ks vs r → JPs B W X pos (some k :: ks) (v :: vs) ((f, g) :: r)
theorem JPs.pps {B : Bs} {ks : List (Option Expr)} {vs : List Expr} {r : List (DE × DE)} (h : JPs B W X pos ks vs r) : PPs X pos ks vs (r.map fun p => (tD B W p.1, tD B W p.2)) := by
  induction h with
  | nil => exact pps_nil
  | cons a b _ ih => exact pps_cons a b ih
theorem pairs_ok : ∀ {r : List (DE × DE)} {μ : List Addr} {ps : Sl} {ph : PH} {H : Hp} {σ : L2.St} {Q : List (V × V) → Hp → Prop}, Sr X.K H μ ps σ → Wd X.K tbs μ ph H →
    OutOk (bs X tbs) W (fun H' μ' (kvs : List (Key × PV)) (vs : List (V × V)) => ∃ rs, KRl X.K H' μ' kvs rs ∧ vs = rs.map fun kv => (kV kv.1, kv.2)) μ H σ (pairsD r ps ph) Q →
    tPairs (r.map fun p => (tD (bs X tbs) W p.1, tD (bs X tbs) W p.2)) σ H Q
  | [], μ, ps, ph, H, σ, Q, sr, wd, ok => ok μ H [] Ex.refl wd ⟨[], .nil, rfl⟩
  | (f, g) :: r, μ, ps, ph, H, σ, Q, sr, wd, ok => by
    unfold pairsD at ok
    refine ⟨μ, ps, ph, sr, wd, OutOk.bind ok fun x ph1 μ1 H1 v e1 w1 r1 ok1 => ⟨μ1, ps, ph1, sr.mono e1, w1, OutOk.bind ok1 fun y ph2 μ2 H2 u e2 w2 r2 ok2 => ?_⟩⟩
    cases ek : keyOf x with
    | none => rw [ek] at ok2; exact ok2.elim
    | some k =>
      rw [ek] at ok2
      refine pairs_ok ((sr.mono e1).mono e2) w2 (OutOk.bind ok2 fun kvs ph3 μ3 H3 vs e3 w3 r3 ok3 => ?_)
      obtain ⟨rs, q1, rfl⟩ := r3
      have ev := keyOf_ok ek r1
      subst ev
      exact ok3 μ3 H3 _ Ex.refl w3 ⟨(k, u) :: rs, .cons (r2.mono e3) q1, rfl⟩
theorem KRl.merge {K : PySem.W.Frag} {H : Hp} {μ : List Addr} : ∀ {more : List (Key × PV)} {ms : List (Key × V)} {kvs : List (Key × PV)} {rs : List (Key × V)}, KRl K H μ more ms → KRl K H μ kvs rs → KRl K H μ (mergeG kvs more) (mergeK rs ms)
  | _, _, _, _, .nil, h => h
  | _, _, _, _, @KRl.cons _ _ _ _ k x v r t a b, h => by
    have z := KRl.merge b (h.put (k := k) a)
    exact z
theorem j_disp {ks : List (Option Expr)} {vs : List Expr} {r : List (DE × DE)} (h : JPs (bs X tbs) W X pos ks vs r) (hall : ks.all (·.isSome) = true := by rfl) (hl : ks.length = vs.length := by rfl) (h0 : ks ≠ [] := by exact nofun) (h15 : ks.length ≤ 15 := by decide) :
    JE (bs X tbs) W X (.Dict ks vs pos) (eDisp r) := PE_imp (pe_disp h.pps hall hl h0 h15) fun σ H Q ⟨μ, ps, ph, sr, wd, ok⟩ p hp => by
  have x0 : Ex μ H (μ ++ [p]) (upd H p (.dK [])) := Ex.grow hp _
  have w0 : Wd X.K tbs (μ ++ [p]) (ph ++ [.dK []]) (upd H p (.dK [])) := wd.grow hp ⟨[], upd_same, .nil⟩
  have hat : (μ ++ [p])[ph.length]? = some p := by rw [← wd.len]; simp
  refine pairs_ok (sr.mono x0) w0 (OutOk.bind (OutOk.ext ok x0) fun kvs ph1 μ1 H1 vs1 e1 w1 r1 ok1 => ?_)
  obtain ⟨rs, q1, rfl⟩ := r1
  have hat1 := e1.pre _ _ hat
  by_cases c : isNewK ph1 ph.length = true ∧ kvs.length ≤ 15
  · rw [if_pos c] at ok1
    obtain ⟨c1, c2⟩ := c
    unfold isNewK at c1
    split at c1
    · rename_i hd
      obtain ⟨r0, h1, h2⟩ := w1.ob _ p _ hat1 hd
      cases h2
      refine ⟨h1, rs, rfl, by rw [← q1.len]; exact c2, ?_⟩
      obtain ⟨w2, e2⟩ := w1.setK hat1 (KRl.merge q1 (KRl.nil (K := X.K) (H := H1) (μ := μ1)))
      exact ok1 _ _ _ e2 w2 (.ref hat1)
    · cases c1
  · rw [if_neg c] at ok1
    exact ok1.elim

/-! ### list(range(..)), tuple(range(..)), xs[::-1] -/
abbrev DRg := Sl → PH → Out (Int × Int)
def rg1 (a : DE) : DRg := fun s h => (a s h).bind fun x h => match x with
  | .int n => .ok (0, n) h
  | _ => .no
def rgOk (p : Int × Int) : Bool := decide (0 ≤ p.1 ∧ p.1 ≤ 16777216 ∧ 0 ≤ p.2 ∧ p.2 ≤ 16777216)
def rgP (a b : Int) : List PV := (List.range (b - a).toNat).map fun i => PV.int (a + (i : Nat))
def eLstRg (f : DRg) : DE := fun s h => (f s h).bind fun p h => if rgOk p then .ok (.ref h.length) (h ++ [.lst (rgP p.1 p.2)]) else .no
def eTupRg (f : DRg) : DE := fun s h => (f s h).bind fun p h => if rgOk p then .ok (.tup (rgP p.1 p.2)) h else .no
/-- xs[::-1] of a list -/
def lsOf (h : PH) : PV → Option (List PV)
  | .fz xs => some xs
  | .ref n => lstAt h n
  | _ => none
theorem lsOf_ok {H : Hp} {μ : List Addr} {ph : PH} {x : PV} {v : V} {ys : List PV} (wd : Wd X.K tbs μ ph H) (h : lsOf ph x = some ys) (r : Rl X.K H μ x v) : ∃ a vs, v = .ref a ∧ SqL X.K H a vs ∧ Rls X.K H μ ys vs := by
  unfold lsOf at h
  cases r with
  | @fz a vs _ ha ra =>
    cases h
    exact ⟨a, vs, rfl, ha.sql, ra⟩
  | @ref n a hk =>
    obtain ⟨vs, h1, ra⟩ := lstAt_ok wd hk h
    exact ⟨a, vs, rfl, SqL.of h1, ra⟩
  | _ => cases h
def eRev (f : DE) : DE := fun s h => (f s h).bind fun x h => match lsOf h x with
  | some ys => .ok (.ref h.length) (h ++ [.lst ys.reverse])
  | none => .no
theorem j_rev {e : Expr} {f : DE} {k : Nat} {p1 p2 p3 : Pos} (he : JE (bs X tbs) W X e f) : JE (bs X tbs) W X (.Subscript e (.Slice none none (some (.UnaryOp .USub (.Constant (.int 1) k p1) p2)) p3) pos) (eRev f) :=
  PE_imp (pe_revL he) fun σ H Q ⟨μ, ps, ph, sr, wd, ok⟩ => ⟨μ, ps, ph, sr, wd, OutOk.bind ok fun x ph1 μ1 H1 v e1 w1 r1 ok1 => by
    cases el : lsOf ph1 x with
    | none => simp only [el] at ok1; exact ok1.elim
    | some ys =>
      simp only [el] at ok1
      obtain ⟨a, vs, rfl, hs, ra⟩ := lsOf_ok w1 el r1
      refine ⟨a, vs, rfl, hs, fun p hp => ?_⟩
      obtain ⟨x1, w2, r2⟩ := w1.newLst ra.rev hp
      exact ok1 _ _ _ x1 w2 r2⟩

/-! ### all, any, sum, max, min of a list -/
def blsOf : List PV → Option (List Bool)
  | [] => some []
  | .bl b :: r => (blsOf r).map (b :: ·)
  | _ => none
def onL {α : Type} (g : List PV → Option α) (k : α → PV) : FN := fun xs h => match xs with
  | [x] => (lsOf h x).bind fun ys => (g ys).map fun b => (k b, h)
  | _ => none
def fAll : FN := onL blsOf fun b => .bl (b.all id)
end
end Dn
namespace Dn
open PySem PySem.Spec PyProof.Rows L2 PySem.SeqAt GxR

/-! ### repr -/
def fRepr : FN := fun xs h => match xs with
  | [x] => match toD h 50 x with
    | some d => if d.showable && sizeOk d.shown.length && decide (d.depth ≤ 100) then some (.str d.shown, h) else none
    | none => none
  | _ => none
section
variable {tbs : List Addr} {W : WX} {X : Cx} {pos : Pos}
theorem cl_repr (hg : X.A.guards = some []) (hu : X.A.units + 102 < cLine) (hk : ∃ o, X.base.get? sysModules = some o) : CallR X (.builtin "repr") (rPN (bs X tbs) fRepr) := by
  intro pins s σ H xs us Q I r ⟨μ, ph, ps, wd, rr, q⟩
  unfold fRepr at q
  split at q
  · rename_i x
    split at q
    · rename_i d ed
      split at q
      · rename_i hc
        simp only [Bool.and_eq_true] at hc
        obtain ⟨⟨hs, hz⟩, hd⟩ := hc
        have hz := sizeOk_le hz
        have hd := of_decide_eq_true hd
        have q : Q (.str d.shown) H := q.val wd (.str _)
        obtain ⟨v, rfl, rv⟩ := rr.one'
        obtain ⟨u, rfl, r1⟩ := vals1 r
        obtain ⟨o, hk⟩ := hk
        have off : ∀ {a : Addr} {w : HO}, H a = some w → a ≠ sysModules := fun {a w} e z => by
          have n := (I.bs sysModules o hk).2
          rw [← z, e] at n
          cases n
        obtain ⟨as, rd, ht⟩ := Rl.reads I wd 50 x d v u ed rv r1
        cases rd with
        | none => exact PySem.P.repr_of_none ⟨.str _, H, I.tok _, ⟨_, rfl⟩, q⟩
        | bool b => exact PySem.P.repr_of_bool ⟨.str _, H, I.tok _, ⟨_, rfl⟩, q⟩
        | int i t => exact PySem.P.repr_of_int (of_decide_eq_true hs) ⟨.str _, H, I.tok _, ⟨_, rfl⟩, q⟩
        | str x t => exact PySem.P.repr_of_str ⟨.str _, H, I.tok _, ⟨_, rfl⟩, q⟩ hz
        | list h1 h2 h3 h4 =>
          refine repr_of_reads' (.list h1 h2 h3 h4) hs (fun _ hm => ?_) hg (by omega) (fun _ _ e => e) (fun h' u tk hk2 => ⟨.str _, H, I.kept hk2, ⟨_, rfl⟩, q⟩) hz
          obtain ⟨w, hw⟩ := ht _ hm
          exact off hw rfl
        | tuple h1 h2 h3 h4 =>
          refine repr_of_reads' (.tuple h1 h2 h3 h4) hs (fun _ hm => ?_) hg (by omega) (fun _ _ e => e) (fun h' u tk hk2 => ⟨.str _, H, I.kept hk2, ⟨_, rfl⟩, q⟩) hz
          obtain ⟨w, hw⟩ := ht _ hm
          exact off hw rfl
        | dict h1 h2 h3 h4 h5 =>
          refine repr_of_reads' (.dict h1 h2 h3 h4 h5) hs (fun _ hm => ?_) hg (by omega) (fun _ _ e => e) (fun h' u tk hk2 => ⟨.str _, H, I.kept hk2, ⟨_, rfl⟩, q⟩) hz
          obtain ⟨w, hw⟩ := ht _ hm
          exact off hw rfl
      · exact q.elim
    · exact q.elim
  · exact q.elim
end
/-! ### a def called by names alone -/
/-- the words in the order of the def: perm tells the place in the call of each parameter -/
def atPl {α : Type} (pl : List Nat) (xs : List α) : List α := pl.filterMap fun i => xs[i]?
theorem atPl_vals {pl : List Nat} {xs : List V} {us : List Value} (r : Vals xs us) : Vals (atPl pl xs) (atPl pl us) := by
  induction pl with
  | nil => exact .nil
  | cons i pl ih =>
    unfold atPl at ih ⊢
    have l := r.length
    by_cases h : i < xs.length
    · have e1 : xs[i]? = some xs[i] := List.getElem?_eq_getElem h
      obtain ⟨u, hu, ru⟩ := r.get e1
      rw [List.filterMap_cons, List.filterMap_cons, e1, hu]
      exact .cons ru ih
    · rw [List.filterMap_cons, List.filterMap_cons, List.getElem?_eq_none (by omega), List.getElem?_eq_none (by omega)]
      exact ih
theorem atPl_rls {K : PySem.W.Frag} {H : Hp} {μ : List Addr} {pl : List Nat} {xs : List PV} {vs : List V} (r : Rls K H μ xs vs) : Rls K H μ (atPl pl xs) (atPl pl vs) := by
  induction pl with
  | nil => exact .nil
  | cons i pl ih =>
    unfold atPl at ih ⊢
    have l := r.len
    by_cases h : i < xs.length
    · have e1 : xs[i]? = some xs[i] := List.getElem?_eq_getElem h
      obtain ⟨u, hu, ru⟩ := r.at e1
      rw [List.filterMap_cons, List.filterMap_cons, e1, hu]
      exact .cons ru ih
    · rw [List.filterMap_cons, List.filterMap_cons, List.getElem?_eq_none (by omega), List.getElem?_eq_none (by omega)]
      exact ih
def eCallK (m : DF) (pl : List Nat) (a : DA) : DE := fun s h => (a s h).bind fun xs h => m (atPl pl xs) h
/-- a def, how it takes the names ks -/
structure Kd (P : Program) (w : World) (base : Heap) (B : Bs) (k : Nat) (x : Str) (n : Nat) (m : DF) (ks : List Str) (pl : List Nat) : Prop where
  len : LenF n m
  ex : ∃ (f : Addr) (fd : FuncData) (ps : List Str), B.mg x = some (.ref f) ∧ PySem.W.keepIn B.K (.ref f) = true ∧ ps.length = n ∧
    (∀ (s : Shared) (ws : List Value), B.K.In s.heap → (atPl pl ws).length = n → BindsTo s fd ⟨[], ks.zip ws⟩ (ps.zip (atPl pl ws))) ∧
    ∀ (A : Around) (outer : List Env) (s : Shared) (H : Hp) (args : Args) (us : List Value) (vs : List V) (Q : VK) (E : XK), Room k A → A.guards = some [] → Env0 P w B.K B.mg base A outer s H → BindsTo s fd args (ps.zip us) → Vals vs us → spD B n m vs H Q E →
      codeAny (model P w) A (.call (.ref f) args) (CR (CX P w) outer P w H s Q E) s
section
variable {tbs : List Addr} {W : WX} {X : Cx} {p pos : Pos} {k n : Nat} {x : Str} {m : DF} {ks : List Str} {pl : List Nat}
/-- arguments by names -/
def JK (B : Bs) (W : WX) (X : Cx) (kws : List Keyword) (g : DA) : Prop := PK X kws (tDA B W g)
theorem PK_imp {kws : List Keyword} {t t' : TA} (h : PK X kws t) (k : ∀ σ H Q, t' σ H Q → t σ H Q) : PK X kws t' := ⟨fun p pins s σ H Q I q => h.run p pins s σ H Q I (k σ H Q q)⟩
theorem jk_nil : JK (bs X tbs) W X [] eNil := PK_imp pk_nil fun σ H Q ⟨μ, ps, ph, sr, wd, ok⟩ => ok μ H [] Ex.refl wd .nil
theorem jk_cons {nm : Option Str} {kpos : Pos} {e : Expr} {kws : List Keyword} {f : DE} {g : DA} (he : JE (bs X tbs) W X e f) (hr : JK (bs X tbs) W X kws g) : JK (bs X tbs) W X (⟨nm, e, kpos⟩ :: kws) (eCons f g) :=
  PK_imp (pk_cons he hr) fun σ H Q ⟨μ, ps, ph, sr, wd, ok⟩ => ⟨μ, ps, ph, sr, wd, OutOk.bind ok fun x ph1 μ1 H1 v e1 w1 r1 ok1 => ⟨μ1, ps, ph1, sr.mono e1, w1,
    OutOk.bind ok1 fun xs ph2 μ2 H2 vs e2 w2 r2 ok2 => ok2 μ2 H2 _ Ex.refl w2 (.cons (r1.mono e2) r2)⟩⟩
theorem j_kd {kws : List Keyword} {g : DA} (F : Kd X.prog X.w X.base (bs X tbs) k x n m ks pl) (hpl : Pl X k) (tk : Takes X W) (hg : Gl X x) (hkw : JK (bs X tbs) W X kws g)
    (hall : (backToKw pos (keywordEach kws X.env)).all (·.1.isSome) = true := by rfl) (hks : (backToKw pos (keywordEach kws X.env)).filterMap (·.1) = ks := by rfl)
    (hdb : (x == ("__debug__" : Str)) = false := by decide) (hpl2 : ((backTo pos (starEach [] X.env)).any (·.1) || (backToKw pos (keywordEach kws X.env)).any (·.1.isNone)) = false := by rfl) :
    JE (bs X tbs) W X (.Call (.Name x p) [] kws pos) (eCallK m pl g) := by
  obtain ⟨f, fd, ps, hm, hk, hn, hb, run⟩ := F.ex
  refine ⟨fun pins s σ H Q I ⟨μ, sl, ph, sr, wd, ok⟩ => ?_⟩
  refine wpAny_Call_Name_kw (ld_glob I hg hm ?_ hdb)
  refine PySem.W.callWith_KW0 (h₀ := X.base) I.ok.mod.kin hk hall ?_ hpl2
  refine thn (hkw.run pos pins s σ H (fun vs H1 => (atPl pl vs).length = n ∧ spD (bs X tbs) n m (atPl pl vs) H1 Q fun cls d H' => W cls d σ H') I ⟨μ, sl, ph, sr, wd, ?_⟩) fun ws s2 ⟨zs, H2, I2, rz, q1, q2⟩ => ⟨I2.kIn, ?_⟩
  · unfold eCallK at ok
    cases eg : g sl ph with
    | no => rw [eg] at ok; exact ok
    | err x h => rw [eg] at ok; exact ok
    | ok xs ph1 =>
      rw [eg] at ok
      simp only [Out.bind_ok] at ok
      by_cases hx : (atPl pl xs).length = n
      · refine fun μ1 H1 vs e1 w1 r1 => ?_
        have r2 := atPl_rls (pl := pl) r1
        have l2 : (atPl pl vs).length = n := by rw [← r2.len]; exact hx
        refine ⟨l2, l2, μ1, atPl pl xs, ph1, r2, w1, ?_⟩
        have ok2 := OutOk.ext ok e1
        cases em : m (atPl pl xs) ph1 with
        | ok v h => rw [em] at ok2; exact ok2
        | err v h => rw [em] at ok2; exact ok2
        | no => rw [em] at ok2; exact ok2
      · rw [F.len _ ph1 hx] at ok
        exact ok.elim
  · rw [hks]
    have r2 := atPl_vals (pl := pl) rz
    have hl : (atPl pl ws).length = n := by rw [← r2.length]; exact q1
    refine wpAny_call (codeAny_mono (run X.A X.stack s2 H2 ⟨[], ks.zip ws⟩ (atPl pl ws) (atPl pl zs) Q _ hpl.room hpl.gd I2.env0 (hb s2 ws I2.kIn hl) r2 q2) fun r s' hq => ?_)
    cases r with
    | error e => exact tk e s' (XE.of_call I2 (fun cls d H' h => h) hq)
    | ok fl =>
      cases fl with
      | ret u => exact I2.after hq
      | next => exact False.elim hq
      | brk => exact False.elim hq
      | cont => exact False.elim hq
end
end Dn
/-! the end of a law, as tools/E0, the script a list that nobody changes -/
namespace Dn
open PySem L2 PySem.Spec PyProof.Rows GxR
/-- the law's own call; cs: code objects and their tables, empty at the start -/
def RunsG (P : Program) (w : World) (K : PySem.W.Frag) (mg : Str → Option Value) (fa : Addr) (cs : List (Addr × Addr)) (a : Addr) (ns : List Int) : Prop :=
  ∀ (base : Heap) (H : Hp) (s0 : Shared), Env0 P w K mg base callerA [] s0 H → SqF K H a (ns.map V.int) → (∀ p ∈ cs, H p.2 = some (.tbl #[])) → (∀ p ∈ cs, TabB base mg p.1 p.2) → (∃ o, base.get? sysModules = some o) →
    codeAny (model P w) callerA (.call (.ref fa) ⟨[.ref a], []⟩) (CR CX0 [] P w H s0 (fun v _ => v = V.bl true) E0) s0
/-- what the head knows of the tables -/
structure Tabs (K : PySem.W.Frag) (h : Heap) (mg : Str → Option Value) (cs : List (Addr × Addr)) : Prop where
  at_ : ∀ p ∈ cs, h.get? p.2 = some { cls := .none, data := .fields #[] }
  noK : ∀ p ∈ cs, K.lookup p.2 = none
  hd : ∀ p ∈ cs, PySem.W.CodeHd h p.1 p.2
  bm : ∃ (m : Addr) (ob : Obj), mg "__builtins__" = some (.ref m) ∧ m ≠ builtinsNs ∧ h.get? m = some ob ∧ ob.cls = .type "module" ∧ ob.dict = some builtinsNs ∧ ob.data = .plain
  sys : ∃ (o : Obj) (es : Array DictEntry) (n : Nat), h.get? sysModules = some o ∧ o.data = .dict es n
section
variable {P : Program} {w : World} {K : PySem.W.Frag} {mg mb : Str → Option Value} {fa a : Addr} {cs : List (Addr × Addr)} {s1 : Shared} {us : List Value} {ns : List Int}
theorem from_heapG (KX : K.In s1.heap) (gN : s1.heap.Ns mainGlobals mg) (bN : s1.heap.Ns builtinsNs mb) (bB : ∀ y : Str, y ≠ "__name__" → mb y = bootBuiltins y) (nl : s1.heap.NoLimit) (ng : s1.gens = #[]) (tabs : Tabs K s1.heap mg cs)
    (scr : s1.heap.get? a = some { cls := .type "list", data := .seq us.toArray }) (F : RunsG P w K mg fa cs a ns) {H : Hp} (atT : ∀ p ∈ cs, H p.2 = some (.tbl #[])) (only : ∀ b, H b = none ∨ (b = a ∧ K.lookup a = none ∧ ∃ o xs, H b = some (.frz o (.lst xs))) ∨ ∃ p ∈ cs, b = p.2) (hS : SqF K H a (ns.map V.int)) (ok : HOk P w H s1.heap) :
    codeAny (model P w) callerA (.call (.ref fa) ⟨[.ref a], []⟩) (fun r s2 => r = .ok (.ret (.bool true)) ∧ OldK s1.heap s2.heap ∧ s2.os = s1.os ∧ AllBare s2.gens) s1 := by
  have other : ∀ {b : Addr} {o : Obj}, s1.heap.get? b = some o → (∀ vs n, o.data ≠ .seq vs n) → o.data ≠ .fields #[] → H b = none := fun {b o} e n1 n2 => by
    rcases only b with z | z | ⟨p, hp, z⟩
    · exact z
    · rw [z.1, scr] at e
      rw [← Option.some.inj e] at n1
      exact absurd rfl (n1 _ _)
    · rw [z, tabs.at_ p hp] at e
      rw [← Option.some.inj e] at n2
      exact absurd rfl n2
  have ns_hid : ∀ {b : Addr} {m : Str → Option Value}, s1.heap.Ns b m → (hidT s1.heap H).Ns b m := fun {b m} h => by
    obtain ⟨o, es, n, e, d, r⟩ := h
    exact ⟨o, es, n, hidT_get e (other e (fun vs k z => by rw [d] at z; cases z) fun z => by rw [d] at z; cases z), d, r⟩
  have k_hid : K.In (hidT s1.heap H) := fun b o e => hidT_get (KX b o e) (by
    rcases only b with z | z | ⟨p, hp, z⟩
    · exact z
    · rw [z.1, z.2.1] at e
      cases e
    · rw [z, tabs.noK p hp] at e
      cases e)
  obtain ⟨mc, n1, n2⟩ := nl
  have M : Mod K mg (hidT s1.heap H) := ⟨k_hid, ns_hid gN, ⟨mb, ns_hid bN, bB⟩, ⟨mc, ns_hid n1, n2⟩⟩
  have en : Env0 P w K mg (hidT s1.heap H) callerA [] s1 H := { frames := rfl, mod := M, bs := fun b o e => of_hidT e, bsz := Nat.le_of_eq (hidT_size _ _), funs := trivial, frf := fun b hb => absurd (show b ∈ ([] : List Addr) from hb) List.not_mem_nil, hok := ok, bare := .of_eq ng }
  have TB : ∀ p ∈ cs, TabB (hidT s1.heap H) mg p.1 p.2 := fun p hp => by
    have tab := tabs.at_ p hp
    have mainT : mainGlobals ≠ p.2 := fun z => by
      obtain ⟨o, es, n, e, d, _⟩ := gN
      rw [z, tab] at e
      rw [← Option.some.inj e] at d
      cases d
    refine ⟨?_, ?_, mainT⟩
    · obtain ⟨o, us2, x1, x2, x3, x4, x5, x6, x7, e1, r1, r2, rest⟩ := tabs.hd p hp
      refine ⟨o, us2, x1, x2, x3, x4, x5, x6, x7, hidT_get e1 (other e1 (fun vs n z => ?_) fun z => ?_), r1, r2, rest⟩
      · rw [r2] at z
        cases z
      · rw [r2] at z
        cases z
        obtain ⟨z2, _⟩ := rest
        simp at z2
    · obtain ⟨m, ob, b1, b2, b3, b4, b5, b6⟩ := tabs.bm
      refine ⟨m, ob, b1, b2, fun z => ?_, fun z => ?_, hidT_get b3 (other b3 (fun vs n z => ?_) fun z => ?_), b4, b5, b6⟩
      · obtain ⟨o, es, n, e, d, _⟩ := gN
        rw [← z, b3] at e
        cases e
        rw [b6] at d
        cases d
      · rw [z, tab] at b3
        cases b3
        cases b6
      · rw [b6] at z
        cases z
      · rw [b6] at z
        cases z
  have sys : ∃ o, (hidT s1.heap H).get? sysModules = some o := by
    obtain ⟨o, es, n, e, d⟩ := tabs.sys
    exact ⟨o, hidT_get e (other e (fun vs k z => by rw [d] at z; cases z) fun z => by rw [d] at z; cases z)⟩
  refine codeAny_mono (F _ H s1 en hS atT TB sys) fun r s2 h => ?_
  cases r with
  | error e => exact (show False from h).elim
  | ok fl =>
    cases fl with
    | next => exact (show False from h).elim
    | brk => exact (show False from h).elim
    | cont => exact (show False from h).elim
    | ret u =>
      obtain ⟨v, H2, os, bare, un, ok2, rv, q⟩ := h
      rw [show v = V.bl true from q] at rv
      have eu : u = Value.bool true := rv
      have keep : ∀ b o, (¬ ∃ p ∈ cs, b = p.2) → s1.heap.get? b = some o → s2.heap.get? b = some o := fun b o nb e => by
        rcases only b with z | ⟨_, _, ob, xs, z⟩ | z
        · exact un.keep b o e z (fun y => absurd (show b ∈ ([] : List Addr) from y) List.not_mem_nil) List.not_mem_nil
        · have y1 := (ok b _ z).1
          have y2 := (ok2 b _ (un.frzs b ob _ z)).1
          rw [e] at y1
          rw [← Option.some.inj y1] at y2
          exact y2
        · exact absurd z nb
      refine ⟨by rw [eu], ⟨fun b o e => ?_, fun b o e => ?_⟩, os, bare⟩
      · by_cases nb : ∃ p ∈ cs, b = p.2
        · obtain ⟨p, hp, rfl⟩ := nb
          obtain ⟨more, zt⟩ := un.tbls p.2 #[] (atT p hp)
          have now := ok2 p.2 _ zt
          rw [tabs.at_ p hp] at e
          cases e
          exact .inr (.inl ⟨((tabs.hd p hp).tab (tabs.at_ p hp)).isCodeTable, rfl, #[], #[] ++ more, rfl, by rw [Array.empty_append]; exact now⟩)
        · exact .inl (keep b o nb e)
      · by_cases nb : ∃ p ∈ cs, b = p.2
        · obtain ⟨p, hp, rfl⟩ := nb
          obtain ⟨more, zt⟩ := un.tbls p.2 #[] (atT p hp)
          exact ⟨_, ok2 p.2 _ zt⟩
        · exact ⟨o, keep b o nb e⟩
theorem law_runsG (KX : K.In s1.heap) (gN : s1.heap.Ns mainGlobals mg) (bN : s1.heap.Ns builtinsNs mb) (bB : ∀ y : Str, y ≠ "__name__" → mb y = bootBuiltins y) (nl : s1.heap.NoLimit) (ng : s1.gens = #[]) (tabs : Tabs K s1.heap mg cs)
    (scr : s1.heap.get? a = some { cls := .type "list", data := .seq us.toArray }) (isInts : IntsAre us ns) (hl : ns.length ≤ sizeLine) (F : RunsG P w K mg fa cs a ns) :
    codeAny (model P w) callerA (.call (.ref fa) ⟨[.ref a], []⟩) (fun r s2 => r = .ok (.ret (.bool true)) ∧ OldK s1.heap s2.heap ∧ s2.os = s1.os ∧ AllBare s2.gens) s1 := by
  have rel := vals_ints isInts
  have len := isInts.length
  have aT : ¬ ∃ p ∈ cs, a = p.2 := fun ⟨p, hp, z⟩ => by
    rw [z, tabs.at_ p hp] at scr
    cases scr
  classical
  cases e : K.lookup a with
  | some o =>
    have e2 := KX a o e
    rw [scr] at e2
    have e3 := Option.some.inj e2
    refine from_heapG KX gN bN bB nl ng tabs scr F (H := fun b => if ∃ p ∈ cs, b = p.2 then some (.tbl #[]) else none) (fun p hp => if_pos ⟨p, hp, rfl⟩) (fun b => ?_) (.inr ⟨o, us.toArray, 0, e, ?_, ?_, ?_, ?_, by simpa using rel⟩) fun b u z => ?_
    · by_cases q : ∃ p ∈ cs, b = p.2
      · exact .inr (.inr q)
      · exact .inl (if_neg q)
    · rw [← e3]
    · rw [← e3]
    · rw [← e3]
    · rw [List.size_toArray, len]
      exact hl
    · by_cases q : ∃ p ∈ cs, b = p.2
      · have z := (if_pos q).symm.trans z
        cases z
        obtain ⟨p, hp, rfl⟩ := q
        exact tabs.at_ p hp
      · have z := (if_neg q).symm.trans z
        cases z
  | none =>
    refine from_heapG KX gN bN bB nl ng tabs scr F (H := fun b => if b = a then some (.frz { cls := .type "list", data := .seq us.toArray } (.lst (ns.map V.int))) else if ∃ p ∈ cs, b = p.2 then some (.tbl #[]) else none)
      (fun p hp => (if_neg fun z => aT ⟨p, hp, z.symm⟩).trans (if_pos ⟨p, hp, rfl⟩)) (fun b => ?_) (.inl ⟨_, if_pos rfl⟩) fun b u z => ?_
    · by_cases q : b = a
      · exact .inr (.inl ⟨q, e, _, _, if_pos q⟩)
      · by_cases q2 : ∃ p ∈ cs, b = p.2
        · exact .inr (.inr q2)
        · exact .inl ((if_neg q).trans (if_neg q2))
    · by_cases q : b = a
      · have z := (if_pos q).symm.trans z
        cases z
        rw [q]
        exact ⟨scr, by rw [List.length_map]; exact hl, us, _, rel, scr⟩
      · have z := (if_neg q).symm.trans z
        by_cases q2 : ∃ p ∈ cs, b = p.2
        · have z := (if_pos q2).symm.trans z
          cases z
          obtain ⟨p, hp, rfl⟩ := q2
          exact tabs.at_ p hp
        · have z := (if_neg q2).symm.trans z
          cases z
end
/-- a def with its code object and table, as the fragment shows them -/
structure TabOf (K : PySem.W.Frag) (mg : Str → Option Value) (x : Str) (p : Addr × Addr) : Prop where
  ex : ∃ (f : Addr) (o : Obj) (fd : FuncData) (e : Value) (dd : Option Addr) (vs : Array Value) (sl : Array (Option Value)), mg x = some (.ref f) ∧ K.lookup f = some o ∧ o.data = .func fd ∧ fd.code = .ref p.1 ∧ K.lookup p.1 = some ⟨e, dd, .fields vs, sl⟩ ∧ vs[11]? = some (.ref p.2) ∧ K.lookup p.2 = none
/-- what k_head leaves; xs: the defs with generator expressions -/
theorem walksG {l : PySem.W.OpenLaw} {n : Nat} {q : Program} {loose : List Str} {XP : (Str → Option Value) → Heap → Prop} {YP : World → Heap → Prop} {d : DefRec} {K : Params → PySem.W.Frag} {xs : List Str}
    (hn : l.most = some n) (small : n ≤ sizeLine) (hdf : d.params.defaults = []) (named : (xs.all fun x => (recsOf q).any fun e => e.name == x) = true) (quiet : importsNone q = true) (hY : ∀ (w : World) (h : Heap), YP w h → (K w.params).In h)
    (F : ∀ (w : World) (mg : Str → Option Value) (fa : Addr) (h : Heap), (K w.params).In h → h.Ns mainGlobals mg → mg d.name = some (.ref fa) → ∃ cs : List (Addr × Addr), (∀ p ∈ cs, ∃ x ∈ xs, TabOf (K w.params) mg x p) ∧
      ∀ (a : Addr) (ns : List Int), ns.length ≤ n → RunsG l.prog w (K w.params) mg fa cs a ns) :
    PySem.W.WalkO q loose XP YP l.row.toRowW d [] (fun g vs => PySem.call g vs) := by
  refine Att.attach_call hn hdf fun w s₀ s1 mg mb fa o pm cd doc a us ns G Y look dat code glob scr isInts len gens => ?_
  have kin := hY w _ Y
  obtain ⟨cs, of, run⟩ := F w mg fa _ kin G.T.g glob
  have each : ∀ p ∈ cs, s1.heap.get? p.2 = some { cls := .none, data := .fields #[] } ∧ (K w.params).lookup p.2 = none ∧ PySem.W.CodeHd s1.heap p.1 p.2 := fun p hp => by
    obtain ⟨x, hx, ⟨f, o, fd, e, dd, vs, sl, k0, k1, k2, k3, k4, k5, k6⟩⟩ := of p hp
    obtain ⟨dx, mem, nameB⟩ := List.any_eq_true.mp (List.all_eq_true.mp named x hx)
    have nameE : dx.name = x := beq_iff_eq.mp nameB
    obtain ⟨f2, o2, fd2, c2, T2, h1, h2, h3, h4, h5, h6⟩ := G.T.tab dx mem
    rw [nameE, k0] at h1
    cases h1
    rw [kin _ _ k1] at h2
    cases h2
    rw [k2] at h3
    cases h3
    rw [k3] at h4
    cases h4
    have hdT := PySem.W.CodeHd.of h5 h6
    obtain ⟨⟨oc, vc, e1, _, e3, e4⟩, tabT⟩ := h6
    rw [kin _ _ k4] at e1
    cases e1
    cases e3
    rw [k5] at e4
    cases e4
    exact ⟨tabT, k6, hdT⟩
  have seer := G.T.seer quiet
  exact law_runsG kin G.T.g G.T.b G.T.builtins G.T.nolimit gens ⟨fun p hp => (each p hp).1, fun p hp => (each p hp).2.1, fun p hp => (each p hp).2.2, G.T.bmain, (by obtain ⟨mm, ⟨o, es, n, e, d, _⟩, _⟩ := seer.mods; exact ⟨o, es, n, e, d⟩)⟩ scr isInts (Nat.le_trans len small) (run a ns len)
/-- a law whose function tells True -/
theorem run_law {P : Program} {w : World} {K : PySem.W.Frag} {mg : Str → Option Value} {base : Heap} {tbs : List Addr} {k : Nat} {m : DF} {fa a : Addr} {H : Hp} {s0 : Shared} {ns : List Int} {h' : PH} (F : Fd P w base ⟨K, mg, tbs⟩ k "law" 1 m) (room : Room k callerA) (hfa : mg "law" = some (.ref fa))
    (en : Env0 P w K mg base callerA [] s0 H) (hS : SqF K H a (ns.map V.int)) (hT : ∀ p ∈ tbs, H p = some (.tbl #[])) (hm : m [.fz (ns.map PV.int)] [] = .ok (.bl true) h') :
    codeAny (model P w) callerA (.call (.ref fa) ⟨[.ref a], []⟩) (CR CX0 [] P w H s0 (fun v _ => v = V.bl true) E0) s0 := by
  obtain ⟨f, fd, ps, h1, h2, h3, h4, run⟩ := F.ex
  cases hfa.symm.trans h1
  have kin : K.In s0.heap := en.mod.kin.keeps fun z o e => (en.bs z o e).1
  have bt := h4 s0 [.ref a] kin (by rw [List.append_nil]; exact h3.symm)
  rw [List.append_nil] at bt
  refine codeAny_mono (run callerA [] s0 H ⟨[.ref a], []⟩ [.ref a] [.ref a] (fun v _ => v = V.bl true) (fun _ _ _ => False) room rfl en bt (.cons rfl .nil) ⟨rfl, [], [.fz (ns.map PV.int)], [], .cons (.fz hS (Rls.ints ns)) .nil, ⟨rfl, fun i j a h => by simp at h, fun n a o h => by simp at h, fun p hp => ⟨#[], hT p hp, by constructor⟩⟩, ?_⟩) fun r s' h => ?_
  · rw [hm]
    intro μ' H' v _ _ r
    cases r
    rfl
  · cases r with
    | error e =>
      obtain ⟨_, _, _, _, _, _, _, _, _, _, _, _, z⟩ := h
      exact z.elim
    | ok fl => cases fl <;> exact h
end Dn
namespace Dn
open PySem PySem.Spec PyProof.Rows L2 PySem.SeqAt

/-! ### behind a def the new objects to which nothing leads are forgotten -/
mutual
/-- only objects of a number below n are within -/
def PV.lowr (n : Nat) : PV → Bool
  | .ref k => decide (k < n)
  | .tup xs => PV.lowrs n xs
  | .kt xs => PV.lowrs n xs
  | .fz xs => PV.lowrs n xs
  | _ => true
def PV.lowrs (n : Nat) : List PV → Bool
  | [] => true
  | x :: r => PV.lowr n x && PV.lowrs n r
end
def kvLowr {κ : Type} (n : Nat) : List (κ × PV) → Bool
  | [] => true
  | (_, x) :: r => PV.lowr n x && kvLowr n r
def MO.lowr (n : Nat) : MO → Bool
  | .lst xs => PV.lowrs n xs
  | .dK kvs => kvLowr n kvs
  | .dT kvs => kvLowr n kvs
def phLowr (n : Nat) : PH → Bool
  | [] => true
  | o :: r => MO.lowr n o && phLowr n r
theorem phLowr_at {n : Nat} : ∀ {h : PH} {i : Nat} {o : MO}, phLowr n h = true → h[i]? = some o → MO.lowr n o = true
  | [], _, _, _, e => by simp at e
  | x :: r, 0, o, b, e => by
    simp only [phLowr, Bool.and_eq_true] at b
    cases e
    exact b.1
  | x :: r, i + 1, o, b, e => by
    simp only [phLowr, Bool.and_eq_true] at b
    exact phLowr_at b.2 (by simpa using e)
section
variable {K : PySem.W.Frag} {tbs : List Addr} {H H' : Hp} {μ μ' : List Addr} {n : Nat}
mutual
theorem Rl.lowr (e : ∀ k, k < n → μ[k]? = μ'[k]?) : ∀ {x : PV} {v : V}, x.lowr n = true → Rl K H μ' x v → Rl K H μ x v
  | _, _, _, .non => .non
  | _, _, _, .bl b => .bl b
  | _, _, _, .int b => .int b
  | _, _, _, .str b => .str b
  | _, _, b, .tup h r => .tup h (Rls.lowr e (by simpa [PV.lowr] using b) r)
  | _, _, b, .kt h r => .kt h (Rls.lowr e (by simpa [PV.lowr] using b) r)
  | _, _, b, .fz h r => .fz h (Rls.lowr e (by simpa [PV.lowr] using b) r)
  | _, _, b, .ref h => .ref ((e _ (by simpa [PV.lowr] using b)).trans h)
theorem Rls.lowr (e : ∀ k, k < n → μ[k]? = μ'[k]?) : ∀ {x : List PV} {v : List V}, PV.lowrs n x = true → Rls K H μ' x v → Rls K H μ x v
  | _, _, _, .nil => .nil
  | _, _, b, .cons a r => by
    simp only [PV.lowrs, Bool.and_eq_true] at b
    exact .cons (Rl.lowr e b.1 a) (Rls.lowr e b.2 r)
end
theorem KRl.lowr {κ : Type} (e : ∀ k, k < n → μ[k]? = μ'[k]?) : ∀ {x : List (κ × PV)} {v : List (κ × V)}, kvLowr n x = true → KRl K H μ' x v → KRl K H μ x v
  | _, _, _, .nil => .nil
  | _, _, b, .cons a r => by
    simp only [kvLowr, Bool.and_eq_true] at b
    exact .cons (a.lowr e b.1) (KRl.lowr e b.2 r)
theorem OR.lowr (e : ∀ k, k < n → μ[k]? = μ'[k]?) {a : Addr} {o : MO} (b : o.lowr n = true) (h : OR K H μ' a o) : OR K H μ a o := by
  cases o with
  | lst xs =>
    obtain ⟨vs, h1, r⟩ := h
    exact ⟨vs, h1, r.lowr e b⟩
  | dK xs =>
    obtain ⟨vs, h1, r⟩ := h
    exact ⟨vs, h1, r.lowr e b⟩
  | dT xs =>
    obtain ⟨vs, h1, r⟩ := h
    exact ⟨vs, h1, r.lowr e b⟩
theorem Wd.cutoff {ph h' : PH} (w : Wd K tbs μ ph H) (e : Ex μ H μ' H') (w' : Wd K tbs μ' h' H') (hl : ph.length ≤ h'.length) (b : phLowr ph.length (h'.take ph.length) = true) :
    Ex μ H μ H' ∧ Wd K tbs μ (h'.take ph.length) H' ∧ ∀ k, k < ph.length → μ[k]? = μ'[k]? := by
  have at_ : ∀ k, k < ph.length → μ[k]? = μ'[k]? := fun k hk => by
    have lt : k < μ.length := by rw [w.len]; exact hk
    have z := e.pre k _ (List.getElem?_eq_getElem lt)
    rw [z, List.getElem?_eq_getElem lt]
  refine ⟨⟨fun _ _ h => h, e.tup, e.frz⟩, ⟨by rw [List.length_take, w.len]; omega, w.nd, fun n a o h1 h2 => ?_, w'.tb⟩, at_⟩
  have ln : n < ph.length := by
    have := (List.getElem?_eq_some_iff.mp h2).1
    rw [List.length_take] at this
    omega
  have h3 : h'[n]? = some o := by
    rw [List.getElem?_take_of_lt ln] at h2
    exact h2
  exact OR.lowr at_ (phLowr_at b h2) (w'.ob n a o (by rw [← at_ n ln]; exact h1) h3)
end
def errLowr (n : Nat) (e : PErr) : Bool := match e.fld with
  | some (_, x) => PV.lowr n x
  | none => true
def gcN (h : PH) (o : Out PV) : Out PV := match o with
  | .ok v h' => if (v.lowr h.length && (decide (h.length ≤ h'.length) && phLowr h.length (h'.take h.length))) = true then .ok v (h'.take h.length) else .ok v h'
  | .err e h' => if (errLowr h.length e && (decide (h.length ≤ h'.length) && phLowr h.length (h'.take h.length))) = true then .err e (h'.take h.length) else .err e h'
  | .no => .no
theorem OutOk.gcN {B : Bs} {W : WX} {μ : List Addr} {ph : PH} {H : Hp} {σ : L2.St} {o : Out PV} {Q : VK} (w : Wd B.K B.tbs μ ph H) (q : OutOk B W (fun H' μ' => Rl B.K H' μ') μ H σ (gcN ph o) Q) : OutOk B W (fun H' μ' => Rl B.K H' μ') μ H σ o Q := by
  cases o with
  | no => exact q
  | ok v h' =>
    unfold Dn.gcN at q
    dsimp only at q
    by_cases c : (v.lowr ph.length && (decide (ph.length ≤ h'.length) && phLowr ph.length (h'.take ph.length))) = true
    · rw [if_pos c] at q
      simp only [Bool.and_eq_true, decide_eq_true_eq] at c
      intro μ' H' x e1 w1 r1
      obtain ⟨a, b, at_⟩ := w.cutoff e1 w1 c.2.1 c.2.2
      exact q μ H' x a b (r1.lowr at_ c.1)
    · rw [if_neg c] at q
      exact q
  | err e h' =>
    unfold Dn.gcN at q
    dsimp only at q
    by_cases c : (errLowr ph.length e && (decide (ph.length ≤ h'.length) && phLowr ph.length (h'.take ph.length))) = true
    · rw [if_pos c] at q
      simp only [Bool.and_eq_true, decide_eq_true_eq] at c
      intro μ' H' cls d e1 w1 r1
      obtain ⟨a, b, at_⟩ := w.cutoff e1 w1 c.2.1 c.2.2
      refine q μ H' cls d a b ?_
      obtain ⟨z1, z2⟩ := r1
      refine ⟨z1, ?_⟩
      have cb := c.1
      unfold errLowr at cb
      cases he : e.fld with
      | none => rw [he] at z2; exact z2
      | some p =>
        rw [he] at z2 cb
        obtain ⟨da, v, y1, y2, y3⟩ := z2
        exact ⟨da, v, y1, y2, y3.lowr at_ cb⟩
    · rw [if_neg c] at q
      exact q
end Dn
namespace Dn
open PySem PySem.Spec PyProof.Rows L2 PySem.SeqAt GxR

/-! ### what the generated texts stand on -/
/-- the place where a def's body runs -/
abbrev cxd (P : Program) (w : World) (K : PySem.W.Frag) (mg : Str → Option Value) (base : Heap) (N : List Str) (x : Str) (st : Stmt) (f : Addr) (cdv : Value) (A : Around) (outer : List Env) (s : Shared) (H : Hp) (E : XK) : Cx :=
  cxOf (CX P w) P w K mg base N x (defScope st) f cdv A outer s H E
/-- a def of the text, its code object c -/
abbrev Kws := List (List Str × List Nat)
/-- how a def takes arguments by names alone -/
def KwOk (K : PySem.W.Frag) (fd : FuncData) (ps : List Str) (kws : Kws) : Prop := ∀ kp ∈ kws, ∀ (s : Shared) (ws : List Value), K.In s.heap → (atPl kp.2 ws).length = ps.length → BindsTo s fd ⟨[], kp.1.zip ws⟩ (ps.zip (atPl kp.2 ws))
structure DefP (K : PySem.W.Frag) (mg : Str → Option Value) (x : Str) (st : Stmt) (ps : List Str) (c : Option Addr) (kws : Kws) : Prop where
  ex : ∃ (f : Addr) (fd : FuncData), Fun K x x st f fd ∧ mg x = some (.ref f) ∧ Binds K fd ps [] ∧ (∀ a, c = some a → fd.code = .ref a) ∧ KwOk K fd ps kws
/-- a def that keeps its function, called by place or by names -/
structure FdK (P : Program) (w : World) (base : Heap) (B : Bs) (k : Nat) (x : Str) (n : Nat) (m : DF) (kws : Kws) : Prop where
  len : LenF n m
  ex : ∃ (f : Addr) (fd : FuncData) (ps : List Str), B.mg x = some (.ref f) ∧ PySem.W.keepIn B.K (.ref f) = true ∧ ps.length = n ∧ Binds B.K fd ps [] ∧ KwOk B.K fd ps kws ∧
    ∀ (A : Around) (outer : List Env) (s : Shared) (H : Hp) (args : Args) (us : List Value) (vs : List V) (Q : VK) (E : XK), Room k A → A.guards = some [] → Env0 P w B.K B.mg base A outer s H → BindsTo s fd args (ps.zip us) → Vals vs us → spD B n m vs H Q E →
      codeAny (model P w) A (.call (.ref f) args) (CR (CX P w) outer P w H s Q E) s
theorem FdK.fd {P : Program} {w : World} {base : Heap} {B : Bs} {k : Nat} {x : Str} {n : Nat} {m : DF} {kws : Kws} (F : FdK P w base B k x n m kws) : Fd P w base B k x n m := by
  obtain ⟨f, fd, ps, h1, h2, h3, h4, _, h6⟩ := F.ex
  exact ⟨F.len, f, fd, ps, h1, h2, h3, h4, h6⟩
theorem FdK.kd {P : Program} {w : World} {base : Heap} {B : Bs} {k : Nat} {x : Str} {n : Nat} {m : DF} {kws : Kws} (F : FdK P w base B k x n m kws) {ks : List Str} {pl : List Nat} (h : (ks, pl) ∈ kws) : Kd P w base B k x n m ks pl := by
  obtain ⟨f, fd, ps, h1, h2, h3, h4, h5, h6⟩ := F.ex
  refine ⟨F.len, f, fd, ps, h1, h2, h3, fun s ws kin hl => ?_, h6⟩
  exact h5 _ h s ws kin (by rw [h3]; exact hl)
theorem takes0 {X : Cx} : Takes X W0 := fun u s' h => by
  obtain ⟨_, _, _, _, _, _, _, _, _, _, _, _, _, _, _, _, z⟩ := h
  exact z.elim
section
variable {P : Program} {w : World} {K : PySem.W.Frag} {mg : Str → Option Value} {base : Heap} {tbs : List Addr}
/-- a def's function from its body's -/
@[irreducible] def mk (n N : Nat) (g : DS) : DF := fun xs h => if xs.length = n then gcN h (runB g N xs h) else .no
theorem mk_len {n N : Nat} {g : DS} : LenF n (mk n N g) := fun xs h e => by unfold mk; exact if_neg e
theorem fd_ofP {x : Str} {st : Stmt} {N ps : List Str} {k : Nat} {g : DS} {c : Option Addr} {kws : Kws} (D : DefP K mg x st ps c kws) (S : FnScope N ps (defScope st))
    (body : ∀ (f : Addr) (cdv : Value) (A : Around) (outer : List Env) (s : Shared) (H : Hp) (E : XK), (∀ a, c = some a → cdv = .ref a) → Pl (cxd P w K mg base N x st f cdv A outer s H E) k → Takes (cxd P w K mg base N x st f cdv A outer s H E) (fun cls d _ H' => E cls d H') →
      PassesOwn (model P w) (cxd P w K mg base N x st f cdv A outer s H E).A (cxd P w K mg base N x st f cdv A outer s H E).env (cxd P w K mg base N x st f cdv A outer s H E).xe →
      JSs (bs (cxd P w K mg base N x st f cdv A outer s H E) tbs) (fun cls d _ H' => E cls d H') (cxd P w K mg base N x st f cdv A outer s H E) (defBody st) g) :
    FdK P w base ⟨K, mg, tbs⟩ (k + 1) x ps.length (mk ps.length N.length g) kws := by
  obtain ⟨f, fd, F, hm, hb, hc, hkw⟩ := D.ex
  refine ⟨mk_len, f, fd, ps, hm, F.kp, rfl, hb, hkw, fun Ao fr s0 Hq gs us vs Q E room gd en bt rv hsp => ?_⟩
  obtain ⟨c1, c2, c3, c4, c5, c6, c7, c8, c9, rfl, look, code⟩ := F.ex
  have kin : K.In s0.heap := en.mod.kin.keeps fun z o e => (en.bs z o e).1
  refine codeAny_call_function room.depth (kin _ _ look) rfl S.co S.gen rfl (PySem.W.codeRec_of kin code) (bt _ _ _ _ ?_)
  refine wpAny_newFunctionEnv_cells S.kind (fun y m => ?_) fun en1 same s1 there => ?_
  · have m1 := (List.of_mem_zip (show (y.1, y.2) ∈ ps.zip us from m)).1
    exact (S.par y.1 m1).elim .inl fun z => .inr ⟨z, PySem.W.cellsFrom_some _ _ _ (.inl z)⟩
  subst same
  refine ⟨(en.mod.nolimit.keeps fun z o e => (en.bs z o e).1).keeps there.toInCall.keep, codeAny_func ?_⟩
  have inv := inv_start (CX := CX P w) (E := E) S room.hd en hsp.1 rv there
  have bd := body f c7 Ao fr s0 Hq E (fun a e => hc a e) ⟨room.deeper _, guards_deeper.trans gd⟩ (takes_of rfl rfl rfl rfl) (passes_of rfl)
  obtain ⟨_, μ, xs, ph, rs, wd, ok⟩ := hsp
  have hx : xs.length = ps.length := by
    rw [rs.len]
    assumption
  have ok1 : OutOk ⟨K, mg, tbs⟩ (fun cls d _ H' => E cls d H') (fun H' μ' => Rl K H' μ') μ Hq [] (gcN ph (runB g N.length xs ph)) Q := by
    have z := ok
    unfold mk at z
    rw [if_pos hx] at z
    exact z
  have ok2 := OutOk.gcN wd ok1
  refine wpAny_mono (bd.run [] s1 (L2.start N vs) Hq { nx := fun _ H2 => Q V.non H2, rt := Q } inv ⟨μ, args0 N.length xs, ph, sr_start rs, wd, ?_⟩) (fun fl s2 h => ?_) fun _ _ h => h
  · unfold runB at ok2
    cases e : g (args0 N.length xs) ph with
    | nx s h =>
      rw [e] at ok2
      exact fun μ' H' σ' x1 w1 _ => ok2 μ' H' _ x1 w1 .non
    | rt v h =>
      rw [e] at ok2
      exact ok2
    | err z s h =>
      rw [e] at ok2
      exact fun μ' H' σ' cls d x1 w1 _ r1 => ok2 μ' H' cls d x1 w1 r1
    | bk s h => rw [e] at ok2; exact ok2.elim
    | ct s h => rw [e] at ok2; exact ok2.elim
    | no => rw [e] at ok2; exact ok2.elim
  · cases fl with
    | ret u =>
      obtain ⟨v, σ2, H2, J, r2, q2⟩ := h
      exact ⟨v, H2, J.os, J.bare, J.base, J.hok, r2, q2⟩
    | next =>
      obtain ⟨σ2, H2, J, q2⟩ := h
      exact ⟨V.non, H2, J.os, J.bare, J.base, J.hok, rfl, q2⟩
    | brk => exact absurd h fun ⟨_, _, _, z⟩ => z
    | cont => exact absurd h fun ⟨_, _, _, z⟩ => z
/-- a def that never tells anything -/
def mNo : DF := fun _ _ => .no
theorem fd_no {x : Str} {st : Stmt} {ps : List Str} {k : Nat} {c : Option Addr} {kws : Kws} (D : DefP K mg x st ps c kws) : FdK P w base ⟨K, mg, tbs⟩ k x ps.length mNo kws := by
  obtain ⟨f, fd, F, hm, hb, hc, hkw⟩ := D.ex
  refine ⟨fun _ _ _ => rfl, f, fd, ps, hm, F.kp, rfl, hb, hkw, fun Ao fr s0 Hq gs us vs Q E room gd en bt rv hsp => ?_⟩
  obtain ⟨_, μ, xs, ph, rs, wd, ok⟩ := hsp
  exact ok.elim
end
/-- a, b, c = x, y, z -/
def sPar3 (i j l : Nat) (f : DA) : DS := fun s h => (f s h).then s fun vs h => match vs with
  | [v, w, u] => .nx (((s.set i (some v)).set j (some w)).set l (some u)) h
  | _ => .no
section
variable {tbs : List Addr} {W : WX} {X : Cx} {pos : Pos}
end
end Dn
namespace Dn
open PySem PySem.Spec PyProof.Rows L2 PySem.SeqAt GxR
section
variable {tbs : List Addr} {W : WX} {X : Cx} {pos : Pos}
/-- name = [a comprehension] -/
theorem js_setLc {i : Nat} {y : Str} {py spos : Pos} {elt tg iter : Expr} {ifs : List Expr} {scope : Scope} {own : List (Str × Nat)} {it : DI} {g : GP} {t : DT} {e : DE} (hc : X.calm = true) (hN : X.N.Nodup)
    (hi : JI (bs X tbs) W X tg iter it) (ok : BlkOk X.N X.env.scope scope own) (gok : GOk (own.map (·.2)) g)
    (hg : ∀ (s : Shared) (H : Hp) (C : Addr) (cl : List (Str × Addr)) (fp : List Addr), JG (X.blk s H scope (compEnvC scope cl C X.env) fp) tg g) (ht : ∀ (s : Shared) (H : Hp) (C : Addr) (cl : List (Str × Addr)) (fp : List Addr), JTs (bs X tbs) W0 (X.blk s H scope (compEnvC scope cl C X.env) fp) ifs t)
    (he : ∀ (s : Shared) (H : Hp) (C : Addr) (cl : List (Str × Addr)) (fp : List Addr), JE (bs X tbs) W0 (X.blk s H scope (compEnvC scope cl C X.env) fp) elt e)
    (hy : X.N[i]? = some y := by rfl) (hyl : X.env.scope.names.lookup y = some .local := by rfl)
    (hsw : swapsWith (.ListComp elt [⟨tg, iter, ifs, 0⟩] scope pos) (some (.Name y py)) spos.line X.env = pure true := by exact sw_true rfl rfl rfl (by decide +kernel)) (hs : ∀ x, foldedSetIterable iter X.env x = pure x := by intro _; rfl) :
    JS (bs X tbs) W X (.Assign [.Name y py] (.ListComp elt [⟨tg, iter, ifs, 0⟩] scope pos) spos) (sAsg (gNm i) (eLc it g t e (own.map (·.2)))) :=
  PS_imp (ps_setLc (g := gD X.K g) (tt := tDT (bs X tbs) W0 t) (te := tD (bs X tbs) W0 e) hc hN hy hyl hsw hi ok hg ht he hs) fun D σ H h => by
    obtain ⟨μ, ps, ph, sr, wd, q⟩ := asg_ok h
    refine lc_ok (Q := fun x H1 => gName i x σ H1 D.nx) gok ⟨μ, ps, ph, sr, wd, q.mono fun v H1 z => ?_⟩
    obtain ⟨μ1, px, r, as, e1, k⟩ := z
    cases e1
    exact k [(i, v)] (.cons r .nil)
end
end Dn
namespace Dn
open PySem PySem.Spec PyProof.Rows L2 PySem.SeqAt GxR

/-! ### raise X(), X an own class without an own __init__ -/
/-- the class x of the text, straight or not beneath ValueError -/
structure ExcP (K : PySem.W.Frag) (mg : Str → Option Value) (x : Str) : Prop where
  ex : ∃ (C : Addr), mg x = some (.ref C) ∧ PySem.W.keepIn K (.ref C) = true ∧ PySem.W.subIn K (.ref C) (.type "BaseException") = some true ∧ PySem.W.typeIn K (.ref C) = some (.type "type") ∧
    ∃ (bmB : List Value) (B newId initId : String), ExcBaseFacts B newId initId bmB ∧ PySem.W.excIn K C bmB newId = true
section
variable {X : Cx} {tbs : List Addr} {W : WX} {p pos : Pos}
theorem pmk_own0 {C : Addr} {bmB : List Value} {B newId initId : String} {x : Str} (F : ExcBaseFacts B newId initId bmB) (q : PySem.W.excIn X.K C bmB newId = true) (gC : X.mg x = some (.ref C))
    (kC : PySem.W.keepIn X.K (.ref C) = true) (r : Raises X (.ref C)) (hg : Gl X x) (hdb : (x == ("__debug__" : Str)) = false := by decide) : PMk X (.Call (.Name x p) [] [] pos) (fun _ H Q => Q (.ref C) none H) := by
  intro pins s σ H Q I h
  refine wpAny_Call_Name_kw (ld_glob I hg gC ?_ hdb)
  refine PySem.W.callWith_K0 I.kIn kC ?_
  show wpAny _ _ (call (.ref C) []) _ _ _
  obtain ⟨bm, N, nm, qn, bs, hdct, sn, sub, ab, col, dd, k0, k1, k2, k3, k5, mN, hC, hN, hni, T⟩ := exc_obj I.kIn q
  refine wpAny_call_exc_subT F T hC hN hni (fun h' e hm => ?_) (Nat.zero_le _)
  exact mk_of I hm r h (I.hok.gone hm.new)
def sRaise0 (x : Str) : DS := fun s h => .err ⟨x, none⟩ s h
theorem js_raise0 {x : Str} {rpos : Pos} (D : ExcP X.K X.mg x) (hc : X.calm = true) (tk : Takes X W) (hg : Gl X x) (hdb : (x == ("__debug__" : Str)) = false := by decide) : JS (bs X tbs) W X (.Raise (some (.Call (.Name x p) [] [] pos)) none rpos) (sRaise0 x) := by
  obtain ⟨C, h1, h2, h3, h4, bmB, B, n1, n2, F, h5⟩ := D.ex
  exact PS_imp (ps_raise hc tk (pmk_own0 F h5 h1 h2 (raises_own h3 h4) hg hdb)) fun D σ H ⟨μ, ps, ph, sr, wd, ok⟩ => ok μ H σ _ _ Ex.refl wd sr ⟨h1, rfl⟩
end
end Dn
namespace Dn
open PySem PySem.Spec PyProof.Rows L2 PySem.SeqAt GxR

/-! ### raise X(e), X a class that keeps its one argument under one name -/
/-- what such an __init__ does -/
def spInit (C : Addr) (f : Str) : Sp := fun vs H Q _ => ∃ (a : Addr) (y : V), vs = [.ref a, y] ∧ H a = some (exo a C none) ∧ ∀ d, H d = none → d ≠ a → Q .non (upd (upd H d (exd d [(f, y)])) a (exo a C (some d)))
structure ExcP1 (P : Program) (w : World) (K : PySem.W.Frag) (mg : Str → Option Value) (base : Heap) (x f : Str) : Prop where
  ex : ∃ (C fI : Addr) (fd : FuncData), mg x = some (.ref C) ∧ OexC K C ∧ PySem.W.findIn K (.ref C) "__init__" = some (some (.ref fI)) ∧ PySem.W.typeIn K (.ref fI) = some (.type "function") ∧
    FnOk P w K mg base CX0 1 fI fd ["self", f] (spInit C f) ∧ Binds K fd ["self", f] []
section
variable {X : Cx} {tbs : List Addr} {W : WX} {p pos : Pos}
end
end Dn
namespace Dn
open PySem PySem.Spec PyProof.Rows L2 PySem.SeqAt

/-! ### a, b = xs, a list -/
section
variable {tbs : List Addr} {W : WX} {X : Cx} {pos : Pos}
end
end Dn
namespace Dn
open PySem PySem.Spec PyProof.Rows L2 PySem.SeqAt GxR

/-! ### try .. except X as n: what the suite reads of the exception -/
/-- isinstance of the caught exception, with or without its own dict -/
def rIsE2 (K : PySem.W.Frag) (D a : Addr) (d : Option Addr) : List V → Hp → VK → Prop := fun xs H Q => ∃ (c : V) (cv : Value) (b : Bool), xs = [.ref a, c] ∧ (∀ u, RelV c u → u = cv) ∧ PySem.W.kitOne K (.ref D) cv = some b ∧ (∀ dd, d = some dd → ∃ fs, H dd = some (.xd fs)) ∧ Q (.bl b) H
theorem call_isE2 {X : Cx} {a D : Addr} {d : Option Addr} {oe : Obj} {pn : List (Addr × Obj)} (C : ExcC X.K D) (hz : Zc (.ref D) d oe) (hf : ∃ vs, oe.data = .fields vs) : CallR (X.suite a ((a, oe) :: pn)) (.builtin "isinstance") (rIsE2 X.K D a d) := by
  intro pins s σ H xs us Q I r h
  obtain ⟨c, cv, b, rfl, hcv, e, hdd, q⟩ := h
  cases r with
  | cons rx rr =>
    cases rr with
    | cons rt rr =>
      cases rr
      cases rx
      have ec := hcv _ rt
      subst ec
      obtain ⟨hget, _⟩ := I.pin (a, oe) (List.mem_append.mpr (.inl List.mem_cons_self))
      obtain ⟨vs, hv⟩ := hf
      obtain ⟨od, J⟩ : ∃ od, PySem.W.InstAt s.heap a oe D od := by
        cases d with
        | none =>
          refine ⟨none, ?_⟩
          obtain ⟨oc, od, oda, osl⟩ := oe
          obtain ⟨h1, h2⟩ := hz
          dsimp only at h1 h2 hv
          subst h1 h2 hv
          exact ⟨hget, rfl, rfl, trivial⟩
        | some dd =>
          obtain ⟨fs, ea⟩ := hdd dd rfl
          have hx : ObjOk X.prog X.w H s.heap dd (.xd fs) := I.hok dd _ ea
          obtain ⟨mA, hns, hr⟩ := hx
          obtain ⟨od, ho, hl⟩ := lookIn_ns hns
          exact ⟨some od, ⟨hget, hz.1, by unfold PySem.W.notCls; rw [hv] <;> rfl, by rw [hz.2]; exact ho⟩⟩
      have hcl : (PySem.W.clsIn X.K D).isSome = true := by
        obtain ⟨cd, hc, _⟩ := PySem.W.any_some C.hd
        rw [hc]; rfl
      exact PySem.W.kia_one (PySem.W.kitx_exc hcl C.hg C.hk C.hs C.ha C.hn C.ht C.hm) I.kIn J e (fun z => nomatch z) fun tk => ⟨.bl b, H, I.kept (t' := tk) fun _ _ z => z, rfl, q⟩
/-- how classes of the text stand to the class x: in an except clause, in isinstance -/
def ExmTab (K : PySem.W.Frag) (mg : Str → Option Value) (x : Str) (tab : List (Str × Bool)) : Prop := ∃ c, mg x = some c ∧ ∀ y b, (y, b) ∈ tab → ∃ cy, mg y = some cy ∧ PySem.W.exmOne K cy c = some b
def IsiTab (K : PySem.W.Frag) (mg : Str → Option Value) (x : Str) (tab : List (Str × Bool)) : Prop := ∃ C : Addr, mg x = some (.ref C) ∧ ∀ y b, (y, b) ∈ tab → ∃ D : Addr, mg y = some (.ref D) ∧ ExcC K D ∧ PySem.W.kitOne K (.ref D) (.ref C) = some b
/-- the exception that a suite holds, as the slots and the objects show it -/
def Kn (B : Bs) (a : Addr) (cls : Value) (d : Option Addr) (i : Nat) (e : PErr) (μ : List Addr) (ps : Sl) (σ : L2.St) (H : Hp) : Prop := ER B.K B.mg H μ e cls d ∧ σ[i]? = some (some (.ref a)) ∧ Sr B.K H μ ps σ
abbrev QE := PErr → Sl → Option PV
abbrev QA := PErr → Sl → Option (List PV)
section
variable (B : Bs) (a : Addr) (cls : Value) (d : Option Addr) (i : Nat) (X : Cx)
/-- an expression of the suite that changes nothing -/
def JQ (e : Expr) (f : QE) : Prop := PE X e fun σ H Q => ∃ z μ ps x, Kn B a cls d i z μ ps σ H ∧ f z ps = some x ∧ ∀ v, Rl B.K H μ x v → Q v H
def JQA (es : List Expr) (f : QA) : Prop := PA X es fun σ H Q => ∃ z μ ps xs, Kn B a cls d i z μ ps σ H ∧ f z ps = some xs ∧ ∀ vs, Rls B.K H μ xs vs → Q vs H
/-- the suite itself -/
def JX (st : List Stmt) (g : PErr → DS) : Prop := PSs X st fun D σ H => ∃ z μ ps ph, Kn B a cls d i z μ ps σ H ∧ Wd B.K B.tbs μ ph H ∧ OutSOk B W0 μ H (g z ps ph) D
end
section
variable {tbs : List Addr} {X : Cx} {a : Addr} {cls : Value} {d : Option Addr} {i : Nat} {pos : Pos} {oe : Obj} {pn : List (Addr × Obj)}
def qC (x : PV) : QE := fun _ _ => some x
theorem q_c {e : Expr} {x : PV} {v : V} (h : PE (Cx.suite X a ((a, oe) :: pn)) e (tC v)) (r : ∀ H μ, Rl X.K H μ x v) : JQ (bs X tbs) a cls d i (Cx.suite X a ((a, oe) :: pn)) e (qC x) := PE_imp h fun σ H Q ⟨z, μ, ps, y, kn, e1, k⟩ => by
  cases e1
  exact k v (r _ _)
theorem q_str {x : Str} {j} : JQ (bs X tbs) a cls d i (Cx.suite X a ((a, oe) :: pn)) (.Constant (.str x) j pos) (qC (.str x)) := q_c pe_str fun _ _ => .str x
/-- isinstance(n, X) -/
def qIsi (tab : List (Str × Bool)) : QE := fun z _ => (tab.lookup z.cls).map .bl
theorem lookup_mem {tab : List (Str × Bool)} {y : Str} {b : Bool} (h : tab.lookup y = some b) : (y, b) ∈ tab := by
  induction tab with
  | nil => cases h
  | cons p r ih =>
    obtain ⟨k, c⟩ := p
    by_cases e : y = k
    · subst e
      have : ((y, c) :: r).lookup y = some c := by simp [List.lookup]
      rw [this] at h
      cases h
      exact List.mem_cons_self
    · have : ((k, c) :: r).lookup y = r.lookup y := by
        have hb : (y == k) = false := by simpa using e
        simp [List.lookup, hb]
      rw [this] at h
      exact List.mem_cons_of_mem _ (ih h)
theorem q_isi {n x : Str} {tab : List (Str × Bool)} {p p1 p2 : Pos} (T : IsiTab X.K X.mg x tab) (hz : Zc cls d oe) (hf : ∃ vs, oe.data = .fields vs) (hi : X.mg ("isinstance" : Str) = none) (hg : Gl X ("isinstance" : Str) := by rfl) (hg2 : Gl X x := by rfl) (hN : X.N[i]? = some n := by rfl) (hv : Vis X.env.scope n := by first | exact Or.inl rfl | exact Or.inr (Or.inl rfl) | exact Or.inr (Or.inr rfl)) (hd : (n == ("__debug__" : Str)) = false := by decide)
    (hcd : (n == ("__classdict__" : Str)) = false := by decide) (hd2 : (x == ("__debug__" : Str)) = false := by decide)
    (hs : starEach [.Name n p, .Name x p2] X.env = (false, eval (.Name n p) X.env) :: starEach [.Name x p2] X.env := by rfl) (hp : (backTo pos (starEach [.Name x p2] X.env)).any (·.1) = false := by rfl) :
    JQ (bs X tbs) a cls d i (Cx.suite X a ((a, oe) :: pn)) (.Call (.Name ("isinstance" : Str) p1) [.Name n p, .Name x p2] [] pos) (qIsi tab) := by
  refine ⟨fun pins s σ H Q I ⟨z, μ, ps, y, ⟨er, sa, sr⟩, e1, q⟩ => ?_⟩
  unfold qIsi at e1
  cases el : tab.lookup z.cls with
  | none => rw [el] at e1; cases e1
  | some b =>
    rw [el] at e1
    cases e1
    obtain ⟨C, hC, T⟩ := T
    obtain ⟨D, hD, xc, kb⟩ := T _ _ (lookup_mem el)
    obtain ⟨ec, ed⟩ := er
    obtain rfl : cls = .ref D := Option.some.inj (ec.symm.trans hD)
    refine (pe_callB (X := (Cx.suite X a ((a, oe) :: pn))) (call_isE2 xc hz hf) hg hi (by decide +kernel) (pa_cons (pv (X := (Cx.suite X a ((a, oe) :: pn))) i hN hv hd hcd) (pa_cons (pe_glob (X := (Cx.suite X a ((a, oe) :: pn))) hg2 hC (show RelV (.ref C) (.ref C) from rfl) hd2) pa_nil) hs) (by decide) (by decide) hs hp).run pins s σ H Q I ?_
    refine ⟨.ref a, sa, .ref C, .ref C, b, rfl, fun u r => r, kb, fun dd e => ?_, q _ (.bl b)⟩
    subst e
    cases hfl : z.fld with
    | none => rw [hfl] at ed; cases ed
    | some gx =>
      rw [hfl] at ed
      obtain ⟨da, v, e2, hda, _⟩ := ed
      cases e2
      exact ⟨_, hda⟩
def qNil : QA := fun _ _ => some []
def qCons (f : QE) (g : QA) : QA := fun z s => match f z s, g z s with
  | some x, some xs => some (x :: xs)
  | _, _ => none
theorem q_nil : JQA (bs X tbs) a cls d i (Cx.suite X a ((a, oe) :: pn)) [] qNil := PA_imp pa_nil fun σ H Q ⟨z, μ, ps, xs, kn, e, k⟩ => by
  cases e
  exact k [] .nil
theorem q_cons {e : Expr} {es : List Expr} {f : QE} {g : QA} (he : JQ (bs X tbs) a cls d i (Cx.suite X a ((a, oe) :: pn)) e f) (hr : JQA (bs X tbs) a cls d i (Cx.suite X a ((a, oe) :: pn)) es g) (hs : starEach (e :: es) X.env = (false, eval e X.env) :: starEach es X.env := by rfl) : JQA (bs X tbs) a cls d i (Cx.suite X a ((a, oe) :: pn)) (e :: es) (qCons f g) :=
  PA_imp (pa_cons he hr hs) fun σ H Q ⟨z, μ, ps, xs, kn, e, k⟩ => by
    unfold qCons at e
    split at e
    · rename_i x ys e1 e2
      cases e
      exact ⟨z, μ, ps, x, kn, e1, fun v r => ⟨z, μ, ps, ys, kn, e2, fun vs rs => k _ (.cons r rs)⟩⟩
    · cases e
def xRetT (f : QA) : PErr → DS := fun z s h => match f z s with
  | some xs => if xs.length ≤ sizeLine then .rt (.tup xs) h else .no
  | none => .no
theorem x_retT {es : List Expr} {k} {pt : Pos} {f : QA} (h : JQA (bs X tbs) a cls d i (Cx.suite X a ((a, oe) :: pn)) es f) : JX (bs X tbs) a cls d i (Cx.suite X a ((a, oe) :: pn)) [.Return (some (.Tuple es k pt)) pos] (xRetT f) :=
  PSs_imp (pss_one (ps_ret (pe_tup h))) fun D σ H ⟨z, μ, ps, ph, kn, wd, ok⟩ => by
    unfold xRetT at ok
    cases e1 : f z ps with
    | none => rw [e1] at ok; exact ok.elim
    | some xs =>
      rw [e1] at ok
      dsimp only at ok
      by_cases l : xs.length ≤ sizeLine
      · rw [if_pos l] at ok
        refine ⟨z, μ, ps, xs, kn, e1, fun vs r => ⟨by rw [← r.len]; exact l, fun p hp => ?_⟩⟩
        obtain ⟨x1, x2, x3⟩ := wd.newTup r hp
        exact ok μ _ _ x1 x2 x3
      · rw [if_neg l] at ok; exact ok.elim
end
/-- try: body, except X as n: suite; tab: which classes the clause takes, i: n's slot -/
def sTry (i : Nat) (tab : List (Str × Bool)) (f : DS) (g : PErr → DS) : DS := fun s h => match f s h with
  | .err z s' h' => (match tab.lookup z.cls, s'[i]? with
    | some true, some _ => (match g z (s'.set i none) h' with
      | .nx s2 h2 => .nx (s2.set i none) h2
      | .bk s2 h2 => .bk (s2.set i none) h2
      | .ct s2 h2 => .ct (s2.set i none) h2
      | .rt v h2 => .rt v h2
      | .err _ _ _ => .no
      | .no => .no)
    | some false, some _ => .err z s' h'
    | _, _ => .no)
  | o => o
theorem Sr.unset {K : PySem.W.Frag} {H : Hp} {μ : List Addr} {ps : Sl} {σ : L2.St} {o : Option V} (h : Sr K H μ ps σ) (i : Nat) : Sr K H μ (ps.set i none) (σ.set i o) := by
  refine ⟨by rw [List.length_set, List.length_set]; exact h.len, fun j y q => ?_⟩
  by_cases e : i = j
  · subst e
    have lt : i < ps.length := by
      have := (List.getElem?_eq_some_iff.mp q).1
      simpa using this
    rw [List.getElem?_set_self lt] at q
    cases q
  · rw [List.getElem?_set_ne e] at q
    rw [List.getElem?_set_ne e]
    exact h.at_ j y q
section
variable {tbs : List Addr} {W : WX} {X : Cx} {x n : Str} {i : Nat} {body suite : List Stmt} {b₀ : Stmt} {np pos pos' : Pos} {tab : List (Str × Bool)} {f : DS} {g : PErr → DS}
theorem js_try_as (T : ExmTab X.K X.mg x tab) (hg : Gl X x) (hs : X.stack = X.env :: X.outer) (hf : X.env.frame = some X.env.locals) (hN : X.N.Nodup) (tk : Takes X W)
    (hb : ∀ (W : WX) (pn : List (Addr × Obj)) (xe : Value → Shared → Prop), Takes (X.tr pn xe) W → PassesOwn (model X.prog X.w) X.A X.env xe → JSs (bs X tbs) W (X.tr pn xe) body f)
    (hsu : ∀ (a : Addr) (oe : Obj) (cls : Value) (d : Option Addr) (pn : List (Addr × Obj)), Zc cls d oe → (∃ vs, oe.data = .fields vs) → JX (bs X tbs) a cls d i (X.suite a ((a, oe) :: pn)) (b₀ :: suite) g)
    (hi : X.N[i]? = some n := by rfl) (hln : X.env.kindOf n = some .local := by rfl) (hdb : (x == ("__debug__" : Str)) = false := by decide) :
    JS (bs X tbs) W X (.Try body [.ExceptHandler (some (.Name x np)) (some n) (b₀ :: suite) pos'] [] [] pos) (sTry i tab f g) := by
  obtain ⟨c, hc, T⟩ := T
  refine PS_imp (ps_try_as (i := i) hs hf hN hi hln ⟨hg, hdb, .inl hc⟩ tk hb hsu) fun D σ H ⟨μ, ps, ph, sr, wd, ok⟩ => ⟨μ, ps, ph, sr, wd, ?_⟩
  unfold sTry at ok
  cases ef : f ps ph with
  | nx s h => rw [ef] at ok; exact ok
  | rt v h => rw [ef] at ok; exact ok
  | bk s h => rw [ef] at ok; exact ok
  | ct s h => rw [ef] at ok; exact ok
  | no => rw [ef] at ok; exact ok
  | err z s h =>
    rw [ef] at ok
    dsimp only at ok
    intro μ1 H1 σ1 cls d x1 w1 s1 er
    split at ok
    · rename_i o el ei
      obtain ⟨cy, hcy, hex⟩ := T _ _ (lookup_mem el)
      obtain rfl : cls = cy := Option.some.inj (er.1.symm.trans hcy)
      refine ⟨true, hex, fun _ a na => ?_, fun q => (nomatch q)⟩
      refine ⟨z, μ1, s.set i none, h, ⟨er, ?_, s1.unset i⟩, w1, ?_⟩
      · have l1 : i < σ1.length := by
          rw [← s1.len]
          exact (List.getElem?_eq_some_iff.mp ei).1
        rw [List.getElem?_set_self l1]
      · cases eg : g z (s.set i none) h with
        | nx s2 h2 => rw [eg] at ok; exact fun μ2 H2 σ2 x2 w2 s2 => ok μ2 H2 _ (x1.trans x2) w2 (s2.unset i)
        | bk s2 h2 => rw [eg] at ok; exact fun μ2 H2 σ2 x2 w2 s2 => ok μ2 H2 _ (x1.trans x2) w2 (s2.unset i)
        | ct s2 h2 => rw [eg] at ok; exact fun μ2 H2 σ2 x2 w2 s2 => ok μ2 H2 _ (x1.trans x2) w2 (s2.unset i)
        | rt v h2 => rw [eg] at ok; exact fun μ2 H2 v2 x2 w2 r2 => ok μ2 H2 _ (x1.trans x2) w2 r2
        | err _ _ _ => rw [eg] at ok; exact ok.elim
        | no => rw [eg] at ok; exact ok.elim
    · rename_i o el ei
      obtain ⟨cy, hcy, hex⟩ := T _ _ (lookup_mem el)
      obtain rfl : cls = cy := Option.some.inj (er.1.symm.trans hcy)
      exact ⟨false, hex, fun q => (nomatch q), fun _ => ok μ1 H1 σ1 cls d x1 w1 s1 er⟩
    · exact ok.elim
end
end Dn
namespace Dn
open PySem PySem.Spec PyProof.Rows L2 PySem.SeqAt GxR

/-! ### own exception classes, from what the written part shows of them -/
section
variable {P : Program} {w : World} {K : PySem.W.Frag} {mg : Str → Option Value} {base : Heap}
theorem excP_of {h : Heap} {x : Str} {C : Addr} (X : K.In h) (G : h.Ns mainGlobals mg) (aC : PySem.W.nsIn K mainGlobals x = some (some (.ref C))) (kC : PySem.W.keepIn K (.ref C) = true) (eC : PySem.W.subIn K (.ref C) (.type "BaseException") = some true) (tC : PySem.W.typeIn K (.ref C) = some (.type "type"))
    (q : PySem.W.excIn K C [.type "ValueError", .type "Exception", .type "BaseException", .type "object"] "ValueError.__new__" = true) : ExcP K mg x := ⟨C, PySem.W.mg_of X G aC, kC, eC, tC, _, "ValueError", _, _, PySem.F.excBase_ValueError, q⟩
theorem excC_of {D : Addr} (ga : PySem.W.findIn K (.ref D) "__getattribute__" = some (some (.builtin "BaseException.__getattribute__"))) (gg : PySem.W.findIn K (.ref D) "__getattr__" = some none) (eC : PySem.W.subIn K (.ref D) (.type "BaseException") = some true) (hd : PySem.W.hasDictIn K D = true) (ha : PySem.W.findIn K (.ref D) "__class__" = some (some (.builtin "object.__class__")))
    (hn : PySem.W.specialIn K (.builtin "object.__class__") "__get__" = some (some (.builtin "getset_descriptor.__get__"))) (ht : PySem.W.takesIn K (.builtin "object.__class__") = some true) (hm : PySem.W.mroIn K D (.type "object") = some true) : ExcC K D := ⟨ga, gg, eC, hd, ha, hn, ht, hm⟩
end
end Dn
namespace Dn
open PySem PySem.Spec PyProof.Rows L2 PySem.SeqAt GxR
section
variable {tbs : List Addr} {W : WX} {X : Cx} {x : Str} {body suite : List Stmt} {b₀ : Stmt} {np pos pos' : Pos} {tab : List (Str × Bool)} {f g : DS}
end
end Dn
namespace Dn
open PySem PySem.Spec PyProof.Rows L2 PySem.SeqAt GxR

/-! ### max, min of one list of numbers -/
section
variable {X : Cx} {tbs : List Addr}
end
end Dn
namespace Dn
open PySem PySem.Spec PyProof.Rows L2 PySem.SeqAt

/-! ### zip of three, each a list or a tuple -/
def ItB (h : Heap) (k : Bool) (it a : Addr) (i : Nat) : Prop := if k then h.IsTupleIter it a i else h.IsListIter it a i
theorem ItB.obj {h : Heap} {k : Bool} {it a : Addr} {i : Nat} (x : ItB h k it a i) : ∃ o, h.get? it = some o ∧ ∀ v, o.data ≠ .cell v := by
  cases k <;> obtain ⟨o, e, _, d⟩ := x <;> exact ⟨o, e, fun v q => by rw [d] at q; cases q⟩
theorem ItB.keep {h h' : Heap} {k : Bool} {it a : Addr} {i : Nat} (x : ItB h k it a i) (e : ∀ o, h.get? it = some o → h'.get? it = some o) : ItB h' k it a i := by
  cases k
  · exact Heap.IsListIter.at (show h.IsListIter it a i from x) e
  · exact Heap.IsTupleIter.at (show h.IsTupleIter it a i from x) e
section
variable {X : Cx} {tbs : List Addr} {W : WX} {e : Expr} {p pos : Pos}
end
end Dn
namespace Dn
open PySem PySem.Spec PyProof.Rows L2 PySem.SeqAt

/-! ### texts: join -/
section
variable {X : Cx} {tbs : List Addr}
end

/-! ### enumerate of a text -/
section
variable {X : Cx} {tbs : List Addr} {W : WX} {e : Expr} {p pos : Pos}
end
section
variable {X : Cx} {tbs : List Addr}
end
section
variable {X : Cx} {tbs : List Addr}
end
end Dn
namespace Dn
open PySem PySem.Spec PyProof.Rows L2 PySem.SeqAt

/-! ### sorted, of lists and tuples of data that are alike -/
section
variable {prog : Program} {w : World} {A : Around} {E : Value → Shared → Prop} {s : Shared}
variable {β : Type} {vs : List Value} {bs : List β} {enc : β → PyData} {R : Value → β → Prop}
end
/-- values in the order of what they read as -/
def srtL (zs : List (PV × PyData)) : List (PV × PyData) := zs.mergeSort (PySem.W.dataLe false Prod.snd)
def srt (xs : List PV) (ds : List PyData) : List PV := (srtL (xs.zip ds)).map (·.1)
section
variable {X : Cx} {tbs : List Addr}
end
end Dn
namespace Dn
open PySem PySem.Spec PyProof.Rows L2 PySem.SeqAt

/-! ### texts: split, partition -/
section
variable {X : Cx} {tbs : List Addr}
end
/-! ### f-strings of texts and numbers -/
def fmtO (x : PV) (h : PH) : Out PV := match x with
  | .str z => if sizeOk z.length then .ok (.str z) h else .no
  | .int i => if decide (i.natAbs.log2 < 1920) then .ok (.str (toString i)) h else .no
  | _ => .no
def eFmt (f : DE) : DE := fun s h => (f s h).bind fun x h => fmtO x h
def joinO (acc : Str) (x : PV) (h : PH) (k : Str → PH → Out PV) : Out PV := match x with
  | .str y => if sizeOk (acc ++ y).length then k (acc ++ y) h else .no
  | _ => .no
def eJs : List DE → Str → DE
  | [], acc, _, h => .ok (.str acc) h
  | f :: fs, acc, s, h => (f s h).bind fun x h => joinO acc x h fun acc h => eJs fs acc s h
def eFs (fs : List DE) : DE := eJs fs Str.empty
section
variable {X : Cx} {tbs : List Addr} {W : WX} {pos : Pos}
inductive JJ (X : Cx) (tbs : List Addr) (W : WX) : List Expr → List DE → Prop where
  | nil : JJ X tbs W [] []
  | cons {e : Expr} {f : DE} {es : List Expr} {fs : List DE} (h : JE (bs X tbs) W X e f) (r : JJ X tbs W es fs) : JJ X tbs W (e :: es) (f :: fs)
end
/-! ### a, *b = a list -/
section
variable {prog : Program} {w : World} {A : Around} {E : Value → Shared → Prop} {s : Shared}
end
theorem OutH.ext {B : Bs} {μ μ1 : List Addr} {H H1 : Hp} {o : Option (Sl × PH)} {Q : L2.St → Hp → Prop} (h : OutH B μ H o Q) (x : Ex μ H μ1 H1) : OutH B μ1 H1 o Q := by
  cases o with
  | none => exact h
  | some p => exact fun μ' H' σ' e w r => h μ' H' σ' (x.trans e) w r
section
variable {tbs : List Addr} {W : WX} {X : Cx} {pos : Pos}
end
end Dn
namespace Dn
open PySem PySem.Spec PyProof.Rows L2 PySem.SeqAt PySem.StrLaws PySem.Builtin.Str

/-! ### texts as lists of signs; split of what is joined -/
def mkS (l : List Nat) : Str := ⟨l.toArray⟩
/-! partition -/
end Dn
namespace Dn
open PySem PySem.Spec PyProof.Rows L2 PySem.SeqAt

/-! ### zip of two, each a list or a tuple -/
section
variable {X : Cx} {tbs : List Addr} {W : WX} {e : Expr} {p pos : Pos}
end
end Dn
namespace Dn
open PySem PySem.Spec PyProof.Rows L2 PySem.SeqAt

section
variable {X : Cx} {tbs : List Addr}
/-! ### list of a text; int of a number or a text; a text many times, whatever stands on the left -/
end
end Dn
namespace L2
open PySem PySem.Spec PyProof.Rows
/-! ### a try with several clauses, each with a name or without -/
/-- a clause: its class, the slot of its name (if it has one), its suite's reading -/
abbrev Cv := Value × Option Nat × (Addr → Value → Option Addr → TS)
/-- the suite of a clause keeps its reading -/
def SuOk (X : Cx) (b : List Stmt) (ts : Addr → Value → Option Addr → TS) : Prop :=
  ∀ (a : Addr) (oe : Obj) (cls : Value) (d : Option Addr) (pn : List (Addr × Obj)), Zc cls d oe → (∃ vs, oe.data = .fields vs) → PSs (X.suite a ((a, oe) :: pn)) b (ts a cls d)
inductive ClOk (X : Cx) : List ExceptHandler → List Cv → Prop
  | nil : ClOk X [] []
  | only {x : Str} {c : Value} {ts : Addr → Value → Option Addr → TS} {b : Stmt} {bs : List Stmt} {p q : Pos} {hds : List ExceptHandler} {l : List Cv} (hc : Names X x c) (su : SuOk X (b :: bs) ts) (r : ClOk X hds l) :
      ClOk X (.ExceptHandler (some (.Name x p)) none (b :: bs) q :: hds) ((c, none, ts) :: l)
  | named {x n : Str} {i : Nat} {c : Value} {ts : Addr → Value → Option Addr → TS} {b : Stmt} {bs : List Stmt} {p q : Pos} {hds : List ExceptHandler} {l : List Cv} (hc : Names X x c) (hi : X.N[i]? = some n) (hl : X.env.kindOf n = some .local)
      (su : SuOk X (b :: bs) ts) (r : ClOk X hds l) : ClOk X (.ExceptHandler (some (.Name x p)) (some n) (b :: bs) q :: hds) ((c, some i, ts) :: l)
section
variable {X : Cx} {Wout : WX} {pins : List (Addr × Obj)} {σ : St} {H : Hp} {D : Ends} {s : Shared} {a : Addr} {cls : Value} {d : Option Addr} {B : Heap}
end
section
variable {X : Cx} {body : List Stmt} {k₀ : ExceptHandler} {hds : List ExceptHandler} {l : List Cv} {pos : Pos} {tb : WX → TS} {Wout : WX}
end
end L2
namespace Dn
open PySem PySem.Spec PyProof.Rows L2 PySem.SeqAt GxR
/-- a clause of the layer: its name's slot, its class's table, its suite -/
abbrev Cla := Option Nat × List (Str × Bool) × (PErr → DS)
section
variable {tbs : List Addr} {W : WX} {X : Cx}
/-- the clauses of a text, as the layer reads them -/
inductive JCl (X : Cx) (tbs : List Addr) : List ExceptHandler → List Cla → Prop
  | nil : JCl X tbs [] []
  | only {x : Str} {tab : List (Str × Bool)} {g : DS} {b : Stmt} {bs : List Stmt} {p q : Pos} {hds : List ExceptHandler} {l : List Cla} (T : ExmTab X.K X.mg x tab) (hg : Gl X x)
      (su : ∀ (a : Addr) (oe : Obj) (cls : Value) (d : Option Addr) (pn : List (Addr × Obj)), Zc cls d oe → (∃ vs, oe.data = .fields vs) → JSs (Dn.bs X tbs) W0 (X.suite a ((a, oe) :: pn)) (b :: bs) g) (r : JCl X tbs hds l)
      (hdb : (x == ("__debug__" : Str)) = false := by decide) : JCl X tbs (.ExceptHandler (some (.Name x p)) none (b :: bs) q :: hds) ((none, tab, fun _ => g) :: l)
  | named {x n : Str} {i : Nat} {tab : List (Str × Bool)} {g : PErr → DS} {b : Stmt} {bs : List Stmt} {p q : Pos} {hds : List ExceptHandler} {l : List Cla} (T : ExmTab X.K X.mg x tab) (hg : Gl X x)
      (su : ∀ (a : Addr) (oe : Obj) (cls : Value) (d : Option Addr) (pn : List (Addr × Obj)), Zc cls d oe → (∃ vs, oe.data = .fields vs) → JX (Dn.bs X tbs) a cls d i (X.suite a ((a, oe) :: pn)) (b :: bs) g) (r : JCl X tbs hds l)
      (hi : X.N[i]? = some n := by rfl) (hl : X.env.kindOf n = some .local := by rfl) (hdb : (x == ("__debug__" : Str)) = false := by decide) : JCl X tbs (.ExceptHandler (some (.Name x p)) (some n) (b :: bs) q :: hds) ((some i, tab, g) :: l)
end
end Dn
namespace Dn
open PySem PySem.Spec PyProof.Rows L2 PySem.SeqAt GxR
/-! ### arguments by names alone -/
theorem sem_bind {α β : Type} (a : α) (f : α → Sem β) : (pure a >>= f) = f a := rfl
theorem lookup_app_none {n : Str} : ∀ {l r : List (Str × Value)}, (∀ p ∈ l, p.1 ≠ n) → (l ++ r).lookup n = r.lookup n
  | [], _, _ => rfl
  | (k, v) :: l, r, h => by
    have ne : (n == k) = false := by
      have := h (k, v) List.mem_cons_self
      simpa using fun e : n = k => this e.symm
    show (match n == k with | true => some v | false => (l ++ r).lookup n) = _
    rw [ne]
    exact lookup_app_none fun p hp => h p (List.mem_cons_of_mem _ hp)
theorem forIn_kw {f : Str × Value → List (Str × Value) × List (Str × Value) → Sem (ForInStep (List (Str × Value) × List (Str × Value)))} {ps : List Str}
    (hf : ∀ x a, x.1 ∈ ps → (a.lookup x.1).isSome = false → f x (a, []) = pure (.yield (a ++ [x], []))) : ∀ (l a : List (Str × Value)), ((a ++ l).map (·.1)).Nodup → (∀ p ∈ l, p.1 ∈ ps) → forIn l (a, ([] : List (Str × Value))) f = (pure (a ++ l, []) : Sem _)
  | [], a, _, _ => by rw [List.append_nil]; rfl
  | x :: l, a, nd, sub => by
    have lk : (a.lookup x.1).isSome = false := by
      have := lookup_app_none (n := x.1) (l := a) (r := []) fun p hp e => by
        rw [List.map_append, List.map_cons] at nd
        have := (List.nodup_append.mp nd).2.2 p.1 (List.mem_map.mpr ⟨p, hp, rfl⟩) x.1 List.mem_cons_self
        exact this e
      rw [List.append_nil] at this
      rw [this]
      rfl
    rw [List.forIn_cons, hf x a (sub x List.mem_cons_self) lk]
    have ih := forIn_kw hf l (a ++ [x]) (by rw [List.append_assoc]; exact nd) fun p hp => sub p (List.mem_cons_of_mem _ hp)
    rw [List.append_assoc] at ih
    exact ih
theorem bind_kw {fd : FuncData} {ps : List Str} {l : List (Str × Value)} (h1 : fd.params.posonlyargs = []) (h2 : fd.params.args.map (·.arg) = ps) (h3 : fd.params.kwonlyargs = []) (h4 : fd.params.vararg = none) (h5 : fd.params.kwarg = none) (h6 : fd.defaults = .none)
    (nd : (l.map (·.1)).Nodup) (sub : ∀ p ∈ l, p.1 ∈ ps) (all : ∀ n ∈ ps, (l.lookup n).isSome = true) : bindArgs fd ⟨[], l⟩ = pure (ps.filterMap fun n => (l.lookup n).map fun v => (n, v)) := by
  have miss : ps.filter (fun n => (l.lookup n).isNone) = [] := List.filter_eq_nil_iff.mpr fun n hn => by
    have := all n hn
    cases e : l.lookup n with
    | none => rw [e] at this; cases this
    | some v => simp
  unfold bindArgs
  simp only [h1, h2, h3, h4, h5, h6, List.map_nil, List.nil_append, List.append_nil, List.zip_nil_right, List.length_nil]
  rw [forIn_kw (ps := ps) (fun x a hx ha => ?_) l [] nd sub]
  · rw [sem_bind]
    have sq : seqItems? Value.none = (pure none : Sem _) := rfl
    rw [sq, sem_bind]
    have e0 : ((none : Option (Array Value)).getD #[]).toList = [] := rfl
    have z1 : decide (0 > ps.length) = false := decide_eq_false (Nat.not_lt_zero _)
    simp only [e0, z1, Bool.false_and, List.nil_append, List.drop_nil, List.length_nil, Nat.zero_sub, Nat.sub_zero, List.take_length, miss, List.drop_length, List.zip_nil_right, List.isEmpty_nil, Bool.not_true]
    rfl
  · have c : ps.contains x.1 = true := by simpa using hx
    simp only [c, ha]
    rfl
theorem lookup_zip {α : Type} : ∀ {ks : List Str} {ws : List α} {i : Nat} {k : Str} {v : α}, ks.Nodup → ks[i]? = some k → ws[i]? = some v → (ks.zip ws).lookup k = some v
  | [], _, _, _, _, _, e, _ => by simp at e
  | _ :: _, [], _, _, _, _, _, e => by simp at e
  | a :: ks, w :: ws, 0, k, v, _, e1, e2 => by
    simp only [List.getElem?_cons_zero, Option.some.injEq] at e1 e2
    subst e1 e2
    rw [List.zip_cons_cons, List.lookup_cons_self]
  | a :: ks, w :: ws, i + 1, k, v, nd, e1, e2 => by
    rw [List.getElem?_cons_succ] at e1 e2
    have m : k ∈ ks := List.mem_of_getElem? e1
    have ne : (k == a) = false := by
      have := (List.nodup_cons.mp nd).1
      simpa using fun e : k = a => this (e ▸ m)
    rw [List.zip_cons_cons]
    show (match k == a with | true => some w | false => (ks.zip ws).lookup k) = _
    rw [ne]
    exact lookup_zip (List.nodup_cons.mp nd).2 e1 e2
def kwChk (kp : List Str × List Nat) (ps : List Str) : Bool := decide kp.1.Nodup && decide (kp.2.length = ps.length) && decide (atPl kp.2 kp.1 = ps) && kp.1.all fun k => decide (k ∈ ps)
theorem atPl_all {α : Type} : ∀ {pl : List Nat} {ws : List α}, (atPl pl ws).length = pl.length → ∀ i ∈ pl, i < ws.length
  | [], _, _, _, m => nomatch m
  | j :: pl, ws, e, i, m => by
    have le : (atPl pl ws).length ≤ pl.length := List.length_filterMap_le _ _
    have c : (atPl (j :: pl) ws) = (match ws[j]? with | some v => v :: atPl pl ws | none => atPl pl ws) := by
      show (j :: pl).filterMap _ = _
      rw [List.filterMap_cons]
      cases ws[j]? <;> rfl
    by_cases lj : j < ws.length
    · rw [c, List.getElem?_eq_getElem lj] at e
      rcases List.mem_cons.mp m with rfl | m
      · exact lj
      · exact atPl_all (by simpa using e) i m
    · rw [c, List.getElem?_eq_none (by omega)] at e
      simp only [List.length_cons] at e
      omega
theorem kw_zip {ks : List Str} {ws : List Value} (nd : ks.Nodup) : ∀ {pl : List Nat}, (∀ i ∈ pl, i < ks.length) → (∀ i ∈ pl, i < ws.length) → ((atPl pl ks).filterMap fun n => ((ks.zip ws).lookup n).map fun v => (n, v)) = (atPl pl ks).zip (atPl pl ws)
  | [], _, _ => rfl
  | i :: pl, h1, h2 => by
    have l1 := h1 i List.mem_cons_self
    have l2 := h2 i List.mem_cons_self
    have e1 := List.getElem?_eq_getElem l1
    have e2 := List.getElem?_eq_getElem l2
    have ih := kw_zip nd (pl := pl) (fun j hj => h1 j (List.mem_cons_of_mem _ hj)) fun j hj => h2 j (List.mem_cons_of_mem _ hj)
    have a1 : atPl (i :: pl) ks = ks[i] :: atPl pl ks := by unfold atPl; rw [List.filterMap_cons, e1]
    have a2 : atPl (i :: pl) ws = ws[i] :: atPl pl ws := by unfold atPl; rw [List.filterMap_cons, e2]
    rw [a1, a2, List.zip_cons_cons, ← ih, List.filterMap_cons, lookup_zip nd e1 e2]
    rfl
theorem zip_nd {α : Type} : ∀ {ks : List Str} {ws : List α}, ks.Nodup → ((ks.zip ws).map (·.1)).Nodup
  | [], _, _ => List.nodup_nil
  | _ :: _, [], _ => List.nodup_nil
  | k :: ks, w :: ws, h => by
    rw [List.zip_cons_cons, List.map_cons]
    obtain ⟨h1, h2⟩ := List.nodup_cons.mp h
    refine List.nodup_cons.mpr ⟨fun m => h1 ?_, zip_nd h2⟩
    obtain ⟨p, hp, e⟩ := List.mem_map.mp m
    have e2 : p.1 = k := e
    rw [← e2]
    exact (List.of_mem_zip hp).1
theorem kwOk_of {K : PySem.W.Frag} {fd : FuncData} {ps : List Str} {kws : Kws} (h1 : fd.params.posonlyargs = []) (h2 : fd.params.args.map (·.arg) = ps) (h3 : fd.params.kwonlyargs = []) (h4 : fd.params.vararg = none) (h5 : fd.params.kwarg = none) (h6 : fd.defaults = .none)
    (ck : (kws.all fun kp => kwChk kp ps) = true) : KwOk K fd ps kws := by
  intro kp hk s ws _ hl
  have c := List.all_eq_true.mp ck kp hk
  unfold kwChk at c
  simp only [Bool.and_eq_true, decide_eq_true_eq, List.all_eq_true] at c
  obtain ⟨⟨⟨nd, pn⟩, pe⟩, sub⟩ := c
  have lw := atPl_all (hl.trans pn.symm)
  have lk : ∀ i ∈ kp.2, i < kp.1.length := atPl_all (by rw [pe, pn])
  have B := bind_kw (fd := fd) (ps := ps) (l := kp.1.zip ws) h1 h2 h3 h4 h5 h6 ?_ ?_ ?_
  · rw [← pe, kw_zip nd lk lw, pe] at B
    exact .of_eq B
  · exact zip_nd nd
  · intro p hp
    exact sub p.1 (List.of_mem_zip hp).1
  · intro n hn
    rw [← pe] at hn
    unfold atPl at hn
    obtain ⟨i, hi, e⟩ := List.mem_filterMap.mp hn
    rw [lookup_zip nd e (List.getElem?_eq_getElem (lw i hi))]
    rfl
end Dn
namespace Dn
open PySem PySem.Spec PyProof.Rows L2 PySem.SeqAt GxR
/-! ### a dict of the module, texts to texts -/
def eTab (tab : List (Str × Str)) (e : DE) : DE := fun s h => (e s h).bind fun x h => match x with
  | .str z => (match tab.lookup z with
    | some v => .ok (.str v) h
    | none => .no)
  | _ => .no
def eInTab (tab : List (Str × Str)) (e : DE) : DE := fun s h => (e s h).bind fun x h => match x with
  | .str z => .ok (.bl (tab.lookup z).isSome) h
  | _ => .no
section
variable {tbs : List Addr} {W : WX} {X : Cx} {x : Str} {tab : List (Str × Str)} {e : Expr} {fe : DE} {p pos : Pos}
end
/-! ### such a dict as it is written -/
end Dn
namespace Dn
open PySem PySem.Spec PyProof.Rows L2 PySem.SeqAt GxR

/-! ### suites that set a name of their own, with and, or, not of what they hold -/
section
variable {tbs : List Addr} {X : Cx} {a : Addr} {cls : Value} {d : Option Addr} {i : Nat} {pos : Pos} {oe : Obj} {pn : List (Addr × Obj)}
end
end Dn
namespace Dn
open PySem PySem.Spec PyProof.Rows L2 PySem.SeqAt GxR

/-! ### reversed of a tuple; defs without arguments; dicts of the module, texts to defs -/
section
variable {K : PySem.W.Frag} {tbs : List Addr} {μ0 : List Addr} {H0 : Hp} {a : Addr} {vs : List V} {xs : List PV}
theorem wk_rtup (h : SqT K H0 a vs) (r : Rls K H0 μ0 xs vs) : WkP K tbs (RT.ItvT K a vs.length) [] xs.reverse μ0 H0 where
  goes := fun i H μ ph lt e _ _ => by
    rw [List.length_reverse, r.len] at lt
    exact ⟨lt, vs, vs[vs.length - 1 - i], e.sqt h, List.getElem?_eq_getElem (by omega)⟩
  stops := fun H μ ph e _ _ => by
    rw [List.length_reverse, r.len]
    exact Nat.le_refl _
  yields := fun i H μ ph v H' lt e w _ y => by
    obtain ⟨rfl, hv⟩ := y
    rw [List.length_reverse] at lt
    have hv := hv vs (e.sqt h)
    have lt2 : xs.length - 1 - i < xs.length := by omega
    obtain ⟨v', h1, h2⟩ := (r.mono e).at (List.getElem?_eq_getElem lt2)
    rw [← r.len] at hv
    rw [hv] at h1
    cases h1
    refine ⟨_, ?_, Ex.refl, w, h2⟩
    rw [List.getElem?_reverse lt]
    exact List.getElem?_eq_getElem lt2
end
def iRev (f : DE) : DI := fun s h => (f s h).bind fun v h => match v with
  | .tup xs => .ok ([], xs.reverse) h
  | _ => .no
section
variable {tbs : List Addr} {W : WX} {X : Cx} {tg e : Expr} {p pos : Pos}
theorem ji_rev {f : DE} (hg : Gl X "reversed") (hm : X.mg "reversed" = none) (h : JE (bs X tbs) W X e f) (hs : starEach [e] X.env = (false, eval e X.env) :: starEach [] X.env := by rfl) : JI (bs X tbs) W X tg (.Call (.Name "reversed" p) [e] [] pos) (iRev f) :=
  PI_imp (RT.pi_revA hg hm h hs) fun σ H R hd => by
    refine tDI.of_tD (k := fun v h => match v with | .tup xs => .ok ([], xs.reverse) h | _ => .no) rfl hd fun x ph μ' H' v w1 r1 ok1 => ?_
    cases x with
    | tup xs =>
      cases r1 with
      | @tup a vs _ ht ra => exact ⟨a, vs, rfl, .inr ⟨SqT.of ht, ok1 μ' H' _ Ex.refl w1 (wk_rtup (SqT.of ht) ra)⟩⟩
    | _ => exact ok1.elim
end
/-! a call without arguments -/
section
variable {tbs : List Addr} {W : WX} {X : Cx} {p pos : Pos} {k : Nat} {x : Str} {m : DF}
theorem j_fd0 (F : Fd X.prog X.w X.base (bs X tbs) k x 0 m) (pl : Pl X k) (tk : Takes X W) (hg : Gl X x) (hdb : (x == ("__debug__" : Str)) = false := by decide) : JE (bs X tbs) W X (.Call (.Name x p) [] [] pos) (eCallF m eNil) := by
  obtain ⟨f, fd, ps, hm, hk, hn, hb, run⟩ := F.ex
  refine ⟨fun pins s σ H Q I ⟨μ, ps, ph, sr, wd, ok⟩ => ?_⟩
  refine wpAny_Call_Name_kw (ld_glob I hg hm ?_ hdb)
  refine PySem.W.callWith_K0 I.kIn hk ?_
  have ok2 : OutOk (bs X tbs) W (fun H' μ' => Rl X.K H' μ') μ H σ (m [] ph) Q := ok
  refine run_fd (us := []) (vs := []) pl tk hb hn run I .nil ⟨rfl, μ, [], ph, .nil, wd, ?_⟩
  cases em : m [] ph with
  | ok v h => rw [em] at ok2; exact ok2
  | err v h => rw [em] at ok2; exact ok2
  | no => rw [em] at ok2; exact ok2
end
/-- a dict of the module, texts to defs of the module -/
def FnTab (K : PySem.W.Frag) (w : World) (mg : Str → Option Value) (x : Str) (tab : List (Str × Str)) : Prop :=
  ∃ d es n, mg x = some (.ref d) ∧ KDict K w d es n ∧ (∀ z y, tab.lookup z = some y → ∃ f : Addr, mg y = some (.ref f) ∧ PySem.W.nsIn K d z = some (some (.ref f))) ∧ ∀ z, tab.lookup z = none → PySem.W.nsIn K d z = some none
def eNotInTab (tab : List (Str × Str)) (e : DE) : DE := fun s h => (e s h).bind fun x h => match x with
  | .str z => .ok (.bl (!(tab.lookup z).isSome)) h
  | _ => .no
def rNotInTab (K : PySem.W.Frag) (d : Addr) : R2 := fun x y H Q => ∃ (z : Str) (r : Option Value), x = .str z ∧ y = .ref d ∧ PySem.W.nsIn K d z = some r ∧ Q (.bl (!r.isSome)) H
section
variable {tbs : List Addr} {W : WX} {X : Cx} {x : Str} {tab : List (Str × Str)} {e : Expr} {fe : DE} {p pos : Pos}
theorem notInF_op {d : Addr} {σ : L2.St} {H : Hp} {Q : VK} (h1 : ∀ z y, tab.lookup z = some y → ∃ f : Addr, X.mg y = some (.ref f) ∧ PySem.W.nsIn X.K d z = some (some (.ref f))) (h2 : ∀ z, tab.lookup z = none → PySem.W.nsIn X.K d z = some none) (h : tD (bs X tbs) W (eNotInTab tab fe) σ H Q) : tOp (rNotInTab X.K d) (tD (bs X tbs) W fe) (tC (.ref d)) σ H Q := by
  obtain ⟨μ, ps, ph, sr, wd, ok⟩ := h
  refine ⟨μ, ps, ph, sr, wd, OutOk.bind ok fun y ph1 μ1 H1 v e1 w1 r1 ok1 => ?_⟩
  cases y with
  | str z =>
    dsimp only at ok1
    cases r1
    have q : ∀ b : Bool, (tab.lookup z).isSome = b → Q (.bl (!b)) H1 := fun b eb => by
      rw [eb] at ok1
      exact ok1 μ1 H1 (.bl (!b)) Ex.refl w1 (.bl (!b))
    cases el : tab.lookup z with
    | none => exact ⟨z, none, rfl, rfl, h2 z el, q false (by rw [el]; rfl)⟩
    | some u =>
      obtain ⟨f, _, hu⟩ := h1 z u el
      exact ⟨z, some (.ref f), rfl, rfl, hu, q true (by rw [el]; rfl)⟩
  | _ => exact ok1.elim
theorem j_tnotInF (T : FnTab X.K X.w X.mg x tab) (hg : Gl X x) (he : JE (bs X tbs) W X e fe) (hm : behindInMarks .NotIn (.Name x p) = false := by first | exact nomark _ | rfl) (hd : (x == ("__debug__" : Str)) = false := by decide) : JT (bs X tbs) W X (.Compare e [.NotIn] [.Name x p] pos) (tV (eNotInTab tab fe)) := by
  obtain ⟨d, es, n, hmg, D, h1, h2⟩ := T
  refine PT_imp (pt_cmpR (r := rNotInTab X.K d) (op_notIn_kd D) he (pe_glob hg hmg (show RelV (.ref d) (.ref d) from rfl) hd) hm) fun σ H Q ⟨μ, ps, ph, sr, wd, ok⟩ => ?_
  show tOp _ _ _ _ _ _
  refine notInF_op (W := W) h1 h2 ⟨μ, ps, ph, sr, wd, ?_⟩
  refine OutOk.bind (k := fun x h => match x with | .bl b => .ok b h | _ => .no) ok fun x ph1 μ1 H1 v e1 w1 r1 ok1 => ?_
  cases r1 with
  | bl b => exact ⟨b, rfl, ok1 μ1 H1 b Ex.refl w1 rfl⟩
  | _ => exact ok1.elim
end
/-- y = T[e]; return y(..): T a dict of defs; dfs: what the defs come to -/
def sMaker (i : Nat) (tab : List (Str × Str)) (dfs : List (Str × DF)) (fe : DE) (ga : DA) : DS := fun s h => match fe s h with
  | .ok (.str z) h1 => (match tab.lookup z with
    | some y => (match dfs.lookup y with
      | some m => if i < s.length then (match ga (s.set i none) h1 with
        | .ok xs h2 => (match m xs h2 with
          | .ok v h3 => .rt v h3
          | _ => .no)
        | _ => .no) else .no
      | none => .no)
    | none => .no)
  | _ => .no
section
variable {tbs : List Addr} {W : WX} {X : Cx} {x y : Str} {tab : List (Str × Str)} {dfs : List (Str × DF)} {e a : Expr} {as : List Expr} {fe : DE} {ga : DA} {k n i : Nat} {p p1 p2 p3 p4 p5 p6 : Pos}
/-- the call of a slot that holds a def -/
theorem pe_fdL {f : Addr} {m : DF} (F : Fd X.prog X.w X.base (bs X tbs) k x n m) (hm : X.mg x = some (.ref f)) (pl : Pl X k) (tk : Takes X W) (hN : X.N[i]? = some y) (hv : Vis X.env.scope y) (ha : JA (bs X tbs) W X (a :: as) ga) (hlen : (a :: as).length = n)
    (hdb : (y == ("__debug__" : Str)) = false) (hcd : (y == ("__classdict__" : Str)) = false) (he : starEach (a :: as) X.env = (false, eval a X.env) :: starEach as X.env) (hpl : (backTo p1 (starEach as X.env)).any (·.1) = false) :
    PE X (.Call (.Name y p) (a :: as) [] p1) (fun σ H Q => σ[i]? = some (some (.ref f)) ∧ tD (bs X tbs) W (eCallF m ga) σ H Q) := by
  obtain ⟨f', fd, ps, hm', hk, hn, hb, run⟩ := F.ex
  have hm' : X.mg x = some (.ref f') := hm'
  rw [hm] at hm'
  cases hm'
  refine ⟨fun pins s σ H Q I ⟨hs, μ, ps, ph, sr, wd, ok⟩ => ?_⟩
  refine wpAny_Call_Name_kw (thn ((pe_var (pos := p) hN hv hdb hcd).run pins s σ H (fun v H1 => v = .ref f ∧ H1 = H) I ⟨.ref f, hs, rfl, rfl⟩) fun u s1 ⟨v, H1, I1, r1, q1⟩ => ?_)
  obtain ⟨rfl, rfl⟩ := q1
  cases r1
  refine PySem.W.callWith_K (h₀ := X.base) I1.ok.mod.kin hk (thn (ha.run p1 pins s1 σ _ (fun vs H1 => spD (bs X tbs) n m vs H1 Q fun cls d H' => W cls d σ H') I1 ⟨μ, ps, ph, sr, wd, ?_⟩) fun us s2 ⟨vs, H2, I2, r, q⟩ => ⟨I2.kIn, run_fd pl tk hb hn run I2 r q⟩) he hpl
  unfold eCallF at ok
  cases eg : ga ps ph with
  | no => rw [eg] at ok; exact ok
  | err x h => rw [eg] at ok; exact ok
  | ok xs ph1 =>
    rw [eg] at ok
    simp only [Out.bind_ok] at ok
    by_cases hx : xs.length = n
    · refine fun μ1 H1 vs e1 w1 r1 => ⟨by rw [← r1.len]; exact hx, μ1, xs, ph1, r1, w1, ?_⟩
      have ok2 := OutOk.ext ok e1
      cases em : m xs ph1 with
      | ok v h => rw [em] at ok2; exact ok2
      | err v h => rw [em] at ok2; exact ok2
      | no => rw [em] at ok2; exact ok2
    · rw [F.len xs ph1 hx] at ok
      exact ok.elim
theorem jss_maker (T : FnTab X.K X.w X.mg x tab) (FS : ∀ (q : Str) (m : DF), dfs.lookup q = some m → Fd X.prog X.w X.base (bs X tbs) k q n m) (pl : Pl X k) (tk : Takes X W) (hN : X.N.Nodup) (hg : Gl X x) (he : JE (bs X tbs) W X e fe) (ha : JA (bs X tbs) W X (a :: as) ga)
    (hlen : (a :: as).length = n := by rfl) (hi : X.N[i]? = some y := by rfl) (hx : Loc X.env.scope y := by first | exact Or.inl rfl | exact Or.inr rfl) (hv : Vis X.env.scope y := by first | exact Or.inl rfl | exact Or.inr (Or.inl rfl) | exact Or.inr (Or.inr rfl))
    (hs : PlainIx e := by exact fun _ _ => rfl) (hsw : swapsWith (.Subscript (.Name x p) e p1) (some (.Name y p2)) p3.line X.env = pure false := by rfl) (hf : X.fn y = true ∨ X.env.scope.names.lookup y = some .local := by first | exact .inl rfl | exact .inr rfl | assumption)
    (hd : (x == ("__debug__" : Str)) = false := by decide) (hdb : (y == ("__debug__" : Str)) = false := by decide) (hcd : (y == ("__classdict__" : Str)) = false := by decide)
    (hst : starEach (a :: as) X.env = (false, eval a X.env) :: starEach as X.env := by rfl) (hpl : (backTo p5 (starEach as X.env)).any (·.1) = false := by rfl) :
    JSs (bs X tbs) W X [.Assign [.Name y p2] (.Subscript (.Name x p) e p1) p3, .Return (some (.Call (.Name y p4) (a :: as) [] p5)) p6] (sMaker i tab dfs fe ga) := by
  obtain ⟨d, es, nn, hm, D, h1, h2⟩ := T
  have call : PE X (.Call (.Name y p4) (a :: as) [] p5) (fun σ H Q => ∃ (q : Str) (f : Addr) (m : DF), dfs.lookup q = some m ∧ X.mg q = some (.ref f) ∧ σ[i]? = some (some (.ref f)) ∧ tD (bs X tbs) W (eCallF m ga) σ H Q) :=
    ⟨fun pins s σ H Q I ⟨q, f, m, hq, hmq, hσ, t⟩ => (pe_fdL (FS q m hq) hmq pl tk hi hv ha hlen hdb hcd hst hpl).run pins s σ H Q I ⟨hσ, t⟩⟩
  refine PSs_imp (pss_cons (ps_set hN hi hx (pe_ix ix_kdict (pe_glob hg hm (show RelV (.ref d) (.ref d) from rfl) hd) he hs) hsw hf) (pss_one (ps_ret call))) fun D' σ H ⟨μ, ps, ph, sr, wd, ok⟩ => ?_
  unfold sMaker at ok
  cases ef : fe ps ph with
  | no => rw [ef] at ok; exact ok.elim
  | err z h => rw [ef] at ok; exact ok.elim
  | ok v h1' =>
    rw [ef] at ok
    cases v with
    | str z =>
      dsimp only at ok
      cases el : tab.lookup z with
      | none => rw [el] at ok; exact ok.elim
      | some q =>
        rw [el] at ok
        dsimp only at ok
        cases em : dfs.lookup q with
        | none => rw [em] at ok; exact ok.elim
        | some m =>
          rw [em] at ok
          dsimp only at ok
          by_cases lp : i < ps.length
          case neg => rw [if_neg lp] at ok; exact ok.elim
          rw [if_pos lp] at ok
          obtain ⟨f, hmf, hu⟩ := h1 z q el
          refine ⟨μ, ps, ph, sr, wd, ?_⟩
          rw [ef]
          intro μ1 H1 v1 e1 w1 r1
          cases r1
          refine ⟨d, z, .ref f, rfl, rfl, ⟨es, nn, _, D.at_, D.lit, hu, rfl⟩, ?_⟩
          have li : i < σ.length := by rw [← sr.len]; exact lp
          refine ⟨q, f, m, em, hmf, List.getElem?_set_self li, μ1, ps.set i none, h1', (sr.mono e1).unset i, w1, ?_⟩
          unfold eCallF
          cases eg : ga (ps.set i none) h1' with
          | no => rw [eg] at ok; exact ok.elim
          | err z h => rw [eg] at ok; exact ok.elim
          | ok xs h2' =>
            rw [eg] at ok
            dsimp only at ok
            show OutOk (bs X tbs) W (fun H' μ' => Rl X.K H' μ') μ1 H1 _ (m xs h2') _
            cases emm : m xs h2' with
            | no => rw [emm] at ok; exact ok.elim
            | err z h => rw [emm] at ok; exact ok.elim
            | ok v h3 =>
              rw [emm] at ok
              intro μ2 H2 v2 e2 w2 r2
              exact ok μ2 H2 v2 (e1.trans e2) w2 r2
    | _ => exact ok.elim
end
end Dn
namespace L2
open PySem PySem.Spec PyProof.Rows
/-! ### sorted of a dict of the module, texts to defs -/
theorem ltT_not {a b : Str} : ltCps a.cps.toList b.cps.toList = false ↔ b.cps.toList ≤ a.cps.toList := by
  rw [ltCps_eq, decide_eq_false_iff_not]
  exact Iff.rfl
theorem rising_all : ∀ (l : List Str) (p : Str), risingS p l = true → (p :: l).Pairwise fun a b => ltCps b.cps.toList a.cps.toList = false
  | [], p, _ => List.pairwise_singleton _ _
  | x :: r, p, h => by
    unfold risingS at h
    rw [Bool.and_eq_true, Bool.not_eq_true'] at h
    have ih := rising_all r x h.2
    refine List.pairwise_cons.mpr ⟨fun y hy => ?_, ih⟩
    have px := ltT_not.mp h.1
    rcases List.mem_cons.mp hy with rfl | hy
    · exact h.1
    · have xy := ltT_not.mp ((List.pairwise_cons.mp ih).1 y hy)
      exact ltT_not.mpr (List.le_trans px xy)
theorem sortedS_pairwise : ∀ {l : List Str}, sortedS l = true → l.Pairwise fun a b => ltCps b.cps.toList a.cps.toList = false
  | [], _ => .nil
  | x :: r, h => rising_all r x h
theorem sortedS_unique {a b : List Str} (p : a.Perm b) (ha : sortedS a = true) (hb : sortedS b = true) : a = b := by
  refine List.Perm.eq_of_pairwise (le := fun a b => ltCps b.cps.toList a.cps.toList = false) (fun x y _ _ h1 h2 => ?_) (sortedS_pairwise ha) (sortedS_pairwise hb) p
  have e := List.le_antisymm (ltT_not.mp h1) (ltT_not.mp h2)
  obtain ⟨⟨x⟩⟩ := x
  obtain ⟨⟨y⟩⟩ := y
  exact congrArg (fun l => (⟨⟨l⟩⟩ : Str)) e
abbrev FEnt := Str × Str × Addr × Nat
def entF (P : Params) (q : FEnt) : DictEntry := ⟨PyData.keyHash P q.1, .str q.1 q.2.2.2, .ref q.2.2.1⟩
/-- the dict d as it is written -/
def FnLay (K : PySem.W.Frag) (w : World) (d : Addr) (l : List FEnt) (n : Nat) : Prop := K.lookup d = some ⟨.type "dict", none, .dict (l.map (entF w.params)).toArray n, #[]⟩ ∧ (d == sysModules) = false ∧ (l.map (·.1)).Nodup ∧ l.length < 64
section
variable {X : Cx}
theorem dictAt_F {s : Shared} {d : Addr} {l : List FEnt} {n : Nat} (kin : X.K.In s.heap) (F : FnLay X.K X.w d l n) : s.heap.DictAt (strKind X.prog X.w) d (l.map fun q => (q.1, Value.ref q.2.2.1)) n := by
  obtain ⟨lk, low, nd, _⟩ := F
  refine ⟨_, _, kin _ _ lk, ⟨rfl, rfl, rfl⟩, rfl, fun e he => ?_, ?_, ?_⟩
  · have he : e ∈ l.map (entF X.w.params) := by simpa using he
    obtain ⟨q, _, rfl⟩ := List.mem_map.mp he
    exact ⟨q.1, PySem.strKind_is X.prog X.w q.1 q.2.2.2, rfl⟩
  · show Pairs (strKind X.prog X.w) (l.map (entF X.w.params)) _
    clear lk nd
    have key : ∀ l : List FEnt, Pairs (strKind X.prog X.w) (l.map (entF X.w.params)) (l.map fun q => (q.1, Value.ref q.2.2.1)) := fun l => by
      induction l with
      | nil => exact .nil
      | cons q l ih => exact .cons (PySem.strKind_is X.prog X.w q.1 q.2.2.2) rfl ih
    exact key l
  · rw [List.map_map]
    exact nd
theorem call_sortedF (hcalm : X.calm = true) : CallR X (.builtin "sorted") (fun xs H Q => ∃ (d : Addr) (l : List FEnt) (n : Nat), xs = [.ref d] ∧ FnLay X.K X.w d l n ∧ sortedS (l.map (·.1)) = true ∧ ∀ p, H p = none → Q (.ref p) (upd H p (.lst ((l.map (·.1)).map V.str)))) := by
  intro pins s σ H xs us Q I r q
  obtain ⟨a, l, n, ex, F, srt, q⟩ := q
  subst ex
  obtain ⟨u, eu, rx⟩ := vals1 r
  subst eu
  cases rx
  have hat := dictAt_F I.kIn F
  obtain ⟨lk, lo, nd, h64⟩ := F
  have h16 : (l.map fun q => (q.1, Value.ref q.2.2.1)).length ≤ sizeLine := by rw [List.length_map, sizeLine_eq]; omega
  refine Calls.call_function_entry PyProof.Rows.kind_sorted PyProof.Rows.plain_sorted PyProof.Rows.entry_sorted (PyProof.Rows.args_sorted1 _) ?_
  unfold Builtin.«sorted»
  refine wpAny_bind (m := checkCount "sorted" 1 1 _) (wpAny_pure ?_)
  refine wpAny_bind (PySem.W.kdu_collect (A := X.A.in1) (PySem.W.kdl_dict (knd := strKind X.prog X.w) (kvs := l.map fun q => (q.1, Value.ref q.2.2.1)) (ep := n) lo) (I.ok.hd hcalm) hat h16 fun h' tk acc hk hacc => ?_)
  have hal : acc.toList.length = (l.map (·.1)).length := by rw [Array.length_toList, hacc.1, List.length_map, List.length_map]
  have hS : StrsAre acc.toList (l.map (·.1)) := strs_at hal fun j v e => by
    obtain ⟨k, x, e1, e2⟩ := hacc.2 j v (by rw [← Array.getElem?_toList]; exact e)
    rw [List.getElem?_map] at e1
    cases e4 : l[j]? with
    | none => rw [e4] at e1; cases e1
    | some y =>
      rw [e4] at e1
      cases e1
      obtain ⟨t, ev⟩ := Value.isStrOf_shape (x := y.1) (v := v) e2
      exact ⟨y.1, t, by rw [List.getElem?_map, e4]; rfl, ev⟩
  have I1 : Inv X pins σ H { s with heap := h', toks := tk } := I.kept hk
  have h64' : (l.map (·.1)).length < 64 := by rw [List.length_map]; exact h64
  refine wpAny_bind (wpAny_newList ?_ (by rw [hal, sizeLine_eq]; omega))
  have hoL : (h'.push (seqObj "list" acc.toList.toArray 0)).get? h'.objs.size = some (seqObj "list" acc.toList.toArray 0) := Heap.get?_push_size _ rfl
  show wpAny _ _ _ _ _ { s with heap := h'.push (seqObj "list" acc.toList.toArray 0), toks := tk }
  refine wpAny_bind (wpAny_holding (wpAny_call_entry PyProof.Rows.slot_list_sort ⟨_, hoL, rfl⟩ PyProof.Rows.entry_list_sort
    (list_sort_treeK strKind_oneLt (s := { s with heap := h'.push (seqObj "list" acc.toList.toArray 0), toks := tk }) hoL hS.keysOf (fun v₁ v₂ rest e => keyKind_strs (by rw [← e]; exact hS)) (by rw [hal]; exact h64') fun st' hp hs => ⟨_, rfl, ?_⟩)
    (PyProof.Rows.args_list_sort _)))
  obtain ⟨ys, g1, g2, g3⟩ := sorted_out_str hS hp hs
  obtain rfl : ys = l.map (·.1) := sortedS_unique g2 g3 srt
  obtain ⟨e', he'⟩ := PyProof.Rows.sortedHeap_at (vs := acc.toList) (out := (arrOf st').map (·.2)) hoL
  have hlen : ((l.map (·.1)).map V.str).length ≤ sizeLine := by
    rw [List.length_map]
    exact Nat.le_trans (Nat.le_of_lt h64') (by decide)
  refine wpAny_pure ⟨_, rfl, .ref h'.objs.size, upd H h'.objs.size (.lst ((l.map (·.1)).map V.str)), I1.laid (t' := tk) (fun b u e => ?_) (Nat.le_refl _)
    (show ObjOk X.prog X.w _ _ _ (.lst ((l.map (·.1)).map V.str)) from ⟨hlen, ((arrOf st').map (·.2)).toList, e', vals_of_strs g1, by rw [Array.toArray_toList]; exact he'⟩), rfl, q _ (I1.hok.fresh (Nat.le_refl _))⟩
  have hb : b < h'.objs.size := Heap.lt_size e
  rw [PyProof.Rows.sortedHeap_old (Nat.ne_of_lt hb) (by rw [size_push']; exact Nat.lt_succ_of_lt hb)]
  exact Heap.get?_push_of_some _ e
end
end L2
namespace Dn
open PySem PySem.Spec PyProof.Rows L2 PySem.SeqAt GxR
/-- such a dict of the module, with its keys in order -/
def FnSrt (K : PySem.W.Frag) (w : World) (mg : Str → Option Value) (x : Str) (ks : List Str) : Prop := ∃ d l n, mg x = some (.ref d) ∧ FnLay K w d l n ∧ l.map (·.1) = ks ∧ sortedS ks = true
def eSortedF (ks : List Str) : DE := fun _ h => .ok (.ref h.length) (h ++ [.lst (ks.map PV.str)])
section
variable {tbs : List Addr} {W : WX} {X : Cx} {x : Str} {ks : List Str} {p1 p2 pos : Pos}
theorem rls_strsF {K : PySem.W.Frag} {H : Hp} {μ : List Addr} : ∀ ks : List Str, Rls K H μ (ks.map PV.str) (ks.map V.str)
  | [] => .nil
  | k :: ks => .cons (.str k) (rls_strsF ks)
theorem j_sortedF (hc : X.calm = true) (T : FnSrt X.K X.w X.mg x ks) (hg : Gl X ("sorted" : Str)) (hm : X.mg ("sorted" : Str) = none) (hv : bootBuiltins ("sorted" : Str) = some (.builtin "sorted")) (hgx : Gl X x) (hd : (x == ("__debug__" : Str)) = false := by decide)
    (he : starEach [.Name x p2] X.env = (false, eval (.Name x p2) X.env) :: starEach [] X.env := by rfl) (hpl : (backTo pos (starEach [] X.env)).any (·.1) = false := by rfl) :
    JE (bs X tbs) W X (.Call (.Name ("sorted" : Str) p1) [.Name x p2] [] pos) (eSortedF ks) := by
  obtain ⟨d, l, n, hmx, F, ek, srt⟩ := T
  subst ek
  refine PE_imp (pe_callB (call_sortedF hc) hg hm hv (pa_cons (pe_glob hgx hmx (show RelV (.ref d) (.ref d) from rfl) hd) pa_nil he) (by decide) (by decide) he hpl) fun σ H Q ⟨μ, ps, ph, sr, wd, ok⟩ => ?_
  refine ⟨d, l, n, rfl, F, srt, fun p hp => ?_⟩
  obtain ⟨x1, x2, x3⟩ := wd.newLst (rls_strsF (l.map (·.1))) hp
  exact ok _ _ _ x1 x2 x3
theorem fn_find (P : Params) (z : Str) : ∀ l : List FEnt, ((l.map (entF P)).find? (·.key.isStr z) = none ∧ (l.map fun q : FEnt => (q.1, q.2.1)).lookup z = none) ∨ ∃ e q, q ∈ l ∧ (l.map (entF P)).find? (·.key.isStr z) = some e ∧ (l.map fun q : FEnt => (q.1, q.2.1)).lookup z = some q.2.1 ∧ e.val = .ref q.2.2.1
  | [] => .inl ⟨rfl, rfl⟩
  | q :: l => by
    have hk : (entF P q).key.isStr z = (q.1 == z) := rfl
    by_cases eq : q.1 = z
    · refine .inr ⟨entF P q, q, List.mem_cons_self, ?_, ?_, rfl⟩
      · rw [List.map_cons, List.find?_cons_of_pos (by rw [hk]; simpa using eq)]
      · rw [List.map_cons, eq, List.lookup_cons_self]
    · have e1 : ((q :: l).map (entF P)).find? (·.key.isStr z) = (l.map (entF P)).find? (·.key.isStr z) := by rw [List.map_cons, List.find?_cons_of_neg (by rw [hk]; simpa using eq)]
      have e2 : ((q :: l).map fun q : FEnt => (q.1, q.2.1)).lookup z = (l.map fun q : FEnt => (q.1, q.2.1)).lookup z := by
        have nb : (z == q.1) = false := by simpa using fun h : z = q.1 => eq h.symm
        show (match z == q.1 with | true => some q.2.1 | false => (l.map fun q : FEnt => (q.1, q.2.1)).lookup z) = _
        rw [nb]
      rw [e1, e2]
      rcases fn_find P z l with h | ⟨e, q', m, h⟩
      · exact .inl h
      · exact .inr ⟨e, q', List.mem_cons_of_mem _ m, h⟩
theorem fn_keys (P : Params) : ∀ l : List FEnt, PySem.W.KeysLit P (l.map (entF P))
  | [] => trivial
  | q :: l => ⟨⟨_, _, rfl, rfl⟩, fn_keys P l⟩
theorem fn_refs (P : Params) : ∀ l : List FEnt, (l.map (entF P)).any (·.refKey) = false
  | [] => rfl
  | q :: l => by
    rw [List.map_cons, List.any_cons, fn_refs P l]
    rfl
theorem fnTab_of {K : PySem.W.Frag} {w : World} {mg : Str → Option Value} {x : Str} {d : Addr} {n : Nat} {l : List FEnt} (hm : mg x = some (.ref d)) (F : FnLay K w d l n) (fs : ∀ q ∈ l, mg q.2.1 = some (.ref q.2.2.1)) : FnTab K w mg x (l.map fun q : FEnt => (q.1, q.2.1)) := by
  obtain ⟨lk, low, nd, l64⟩ := F
  refine ⟨d, _, n, hm, ⟨lk, by simpa using fn_keys w.params l, low⟩, fun z y e => ?_, fun z e => ?_⟩
  · rcases fn_find w.params z l with ⟨_, e2⟩ | ⟨e0, q, mq, e1, e2, ev⟩
    · rw [e] at e2; cases e2
    · rw [e] at e2
      cases e2
      refine ⟨q.2.2.1, fs q mq, ?_⟩
      unfold PySem.W.nsIn
      rw [lk]
      show (match (l.map (entF w.params)).find? (·.key.isStr z) with | some e => some (some e.val) | none => _) = _
      rw [e1]
      exact congrArg (some ∘ some) ev
  · rcases fn_find w.params z l with ⟨e1, _⟩ | ⟨e0, q, mq, e1, e2, _⟩
    · unfold PySem.W.nsIn
      rw [lk]
      show (match (l.map (entF w.params)).find? (·.key.isStr z) with | some e => some (some e.val) | none => if (l.map (entF w.params)).any (·.refKey) then none else some none) = _
      rw [e1]
      dsimp only
      rw [if_neg]
      rw [fn_refs]
      exact Bool.false_ne_true
    · rw [e] at e2; cases e2
end
end Dn
namespace Dn
open PySem
theorem lookup_memG {α : Type} {tab : List (Str × α)} {y : Str} {b : α} (h : tab.lookup y = some b) : (y, b) ∈ tab := by
  induction tab with
  | nil => cases h
  | cons p r ih =>
    obtain ⟨k, c⟩ := p
    by_cases e : y = k
    · subst e
      rw [List.lookup_cons_self] at h
      cases h
      exact List.mem_cons_self
    · have hb : (y == k) = false := by simpa using e
      have : ((k, c) :: r).lookup y = r.lookup y := by simp [List.lookup, hb]
      rw [this] at h
      exact List.mem_cons_of_mem _ (ih h)
end Dn

namespace Dn
open PySem PySem.Spec PyProof.Rows L2 PySem.SeqAt

/-! ### how a def is evaluated by simp only [, ...]: each rule stands for a combinator at given slots and objects; of a bind only its first part is looked at until it is done -/
def OutS.seq (o : OutS) (b : DS) : OutS := match o with
  | .nx s h => b s h
  | o => o
theorem OutS.seq_nx (s : Sl) (h : PH) (b : DS) : (OutS.nx s h).seq b = b s h := rfl
theorem OutS.seq_rt (v : PV) (h : PH) (b : DS) : (OutS.rt v h).seq b = .rt v h := rfl
theorem OutS.seq_bk (s : Sl) (h : PH) (b : DS) : (OutS.bk s h).seq b = .bk s h := rfl
theorem OutS.seq_ct (s : Sl) (h : PH) (b : DS) : (OutS.ct s h).seq b = .ct s h := rfl
theorem OutS.seq_err (e : PErr) (s : Sl) (h : PH) (b : DS) : (OutS.err e s h).seq b = .err e s h := rfl
theorem Out.then_ok' {α : Type} (a : α) (h : PH) (s : Sl) (k : α → PH → OutS) : (Out.ok a h).then s k = k a h := rfl
theorem Out.then_err' {α : Type} (e : PErr) (h : PH) (s : Sl) (k : α → PH → OutS) : (Out.err e h : Out α).then s k = .err e s h := rfl
theorem Out.of_some' {α : Type} (a : α) (h : PH) : Out.of (some (a, h)) = Out.ok a h := rfl
theorem eC_ap (x : PV) (s : Sl) (h : PH) : eC x s h = .ok x h := rfl
def varO (o : Option (Option PV)) (h : PH) : Out PV := match o with
  | some (some v) => .ok v h
  | _ => .no
theorem eVar_ap (i : Nat) (s : Sl) (h : PH) : eVar i s h = varO s[i]? h := rfl
theorem varO_some (v : PV) (h : PH) : varO (some (some v)) h = .ok v h := rfl
theorem eOp_ap (f : F2) (a b : DE) (s : Sl) (h : PH) : eOp f a b s h = (a s h).bind fun x h => (b s h).bind fun y h => Out.of (f x y h) := rfl
theorem eUn_ap (f : F1) (a : DE) (s : Sl) (h : PH) : eUn f a s h = (a s h).bind fun x h => Out.of (f x h) := rfl
theorem eCall_ap (f : FN) (a : DA) (s : Sl) (h : PH) : eCall f a s h = (a s h).bind fun xs h => Out.of (f xs h) := rfl
theorem eCallF_ap (m : DF) (a : DA) (s : Sl) (h : PH) : eCallF m a s h = (a s h).bind fun xs h => m xs h := rfl
theorem eNil_ap (s : Sl) (h : PH) : eNil s h = .ok [] h := rfl
theorem eCons_ap (a : DE) (r : DA) (s : Sl) (h : PH) : eCons a r s h = (a s h).bind fun x h => (r s h).bind fun xs h => .ok (x :: xs) h := rfl
def tupO (xs : List PV) (h : PH) : Out PV := if xs.length ≤ sizeLine then .ok (.tup xs) h else .no
theorem eTup_ap (a : DA) (s : Sl) (h : PH) : eTup a s h = (a s h).bind fun xs h => tupO xs h := rfl
def lstO (xs : List PV) (h : PH) : Out PV := if xs.length ≤ sizeLine then .ok (.ref h.length) (h ++ [.lst xs]) else .no
theorem eLst_ap (a : DA) (s : Sl) (h : PH) : eLst a s h = (a s h).bind fun xs h => lstO xs h := rfl
theorem lstO_nil (h : PH) : lstO [] h = .ok (.ref h.length) (h ++ [.lst []]) := if_pos (Nat.zero_le _)
def blO (x : PV) (h : PH) : Out Bool := match x with
  | .bl b => .ok b h
  | _ => .no
theorem blO_bl (b : Bool) (h : PH) : blO (.bl b) h = .ok b h := rfl
theorem tV_ap (a : DE) (s : Sl) (h : PH) : tV a s h = (a s h).bind fun x h => blO x h := by
  rfl
def iteO {α : Type} (c : Bool) (a b : α) : α := if c = true then a else b
theorem iteO_true {α : Type} (a b : α) : iteO true a b = a := rfl
theorem iteO_false {α : Type} (a b : α) : iteO false a b = b := rfl
theorem tAndD_ap (a b : DT) (s : Sl) (h : PH) : tAndD a b s h = (a s h).bind fun c h => iteO c (b s h) (.ok false h) := rfl
theorem tOrD_ap (a b : DT) (s : Sl) (h : PH) : tOrD a b s h = (a s h).bind fun c h => iteO c (.ok true h) (b s h) := rfl
theorem tNotD_ap (a : DT) (s : Sl) (h : PH) : tNotD a s h = (a s h).bind fun c h => .ok (!c) h := rfl
theorem eIf_ap (c : DT) (a b : DE) (s : Sl) (h : PH) : eIf c a b s h = (c s h).bind fun c h => iteO c (a s h) (b s h) := rfl
theorem tYesD_ap (s : Sl) (h : PH) : tYesD s h = .ok true h := rfl
theorem sNx_ap (s : Sl) (h : PH) : sNx s h = .nx s h := rfl
theorem sSeq_ap (a b : DS) (s : Sl) (h : PH) : sSeq a b s h = (a s h).seq b := by
  unfold sSeq OutS.seq
  cases a s h <;> rfl
theorem sDrop_ap (f : DE) (s : Sl) (h : PH) : sDrop f s h = (f s h).then s fun _ h => .nx s h := rfl
theorem sRet_ap (f : DE) (s : Sl) (h : PH) : sRet f s h = (f s h).then s fun v h => .rt v h := rfl
theorem sIf_ap (c : DT) (a b : DS) (s : Sl) (h : PH) : sIf c a b s h = (c s h).then s fun k h => iteO k (a s h) (b s h) := rfl
def asgO (o : Option (List (Nat × PV))) (s : Sl) (h : PH) : OutS := match o with
  | some as => .nx (setP as s) h
  | none => .no
theorem asgO_some (as : List (Nat × PV)) (s : Sl) (h : PH) : asgO (some as) s h = .nx (setP as s) h := rfl
theorem sAsg_ap (g : GP) (f : DE) (s : Sl) (h : PH) : sAsg g f s h = (f s h).then s fun v h => asgO (g v) s h := by
  unfold sAsg asgO
  congr 1
theorem gNm_ap (i : Nat) (v : PV) : gNm i v = some [(i, v)] := rfl
def hO (o : Option (Sl × PH)) : OutS := match o with
  | some (s', h') => .nx s' h'
  | none => .no
theorem hO_some (s : Sl) (h : PH) : hO (some (s, h)) = .nx s h := rfl
theorem sAsgH_ap (g : GH) (f : DE) (s : Sl) (h : PH) : sAsgH g f s h = (f s h).then s fun v h => hO (g v s h) := rfl
theorem opLt_ap (i j : Int) (h : PH) : opLt (.int i) (.int j) h = some (.bl (decide (i < j)), h) := rfl
theorem opLe_ap (i j : Int) (h : PH) : opLe (.int i) (.int j) h = some (.bl (decide (i ≤ j)), h) := rfl
theorem opGt_ap (i j : Int) (h : PH) : opGt (.int i) (.int j) h = some (.bl (decide (j < i)), h) := rfl
theorem opGe_ap (i j : Int) (h : PH) : opGe (.int i) (.int j) h = some (.bl (decide (j ≤ i)), h) := rfl
theorem opAdd_ap (i j : Int) (h : PH) : opAdd (.int i) (.int j) h = some (.int (i + j), h) := rfl
theorem opSub_ap (i j : Int) (h : PH) : opSub (.int i) (.int j) h = some (.int (i - j), h) := rfl
def ixO (o : Option MO) (y : PV) (h : PH) : Option (PV × PH) := match o, y with
  | some (.lst xs), .int i => (atI xs i).map fun v => (v, h)
  | some (.dK kvs), y => match keyOf y with
    | some k => (getG kvs k).map fun v => (v, h)
    | none => none
  | some (.dT kvs), .tup ks => match keysOf ks with
    | some k => (getG kvs k).map fun v => (v, h)
    | none => none
  | _, _ => none
theorem opIx_ref (n : Nat) (y : PV) (h : PH) : opIx (.ref n) y h = ixO h[n]? y h := rfl
theorem ixO_lst (xs : List PV) (i : Int) (h : PH) : ixO (some (.lst xs)) (.int i) h = (atI xs i).map fun v => (v, h) := rfl
theorem ixO_str (kvs : List (L2.Key × PV)) (x : Str) (h : PH) : ixO (some (.dK kvs)) (.str x) h = (getG kvs (.inr x)).map fun v => (v, h) := rfl
theorem opIx_tup (xs : List PV) (i : Int) (h : PH) : opIx (.tup xs) (.int i) h = (atI xs i).map fun v => (v, h) := rfl
theorem map_some' {α β : Type} (f : α → β) (a : α) : (some a).map f = some (f a) := rfl
end Dn
namespace Dn
open PySem PySem.Spec PyProof.Rows L2 PySem.SeqAt

/-! ### what a def gives back: the objects of the start, or new ones -/
theorem gcN_len {h h' : PH} {v : PV} (e : h'.length = h.length) : gcN h (.ok v h') = .ok v h' := by
  unfold gcN
  dsimp only
  split
  · rw [← e, List.take_length]
  · rfl
theorem gcN_cut {h h' : PH} {v : PV} (l : h.length ≤ h'.length) (a : v.lowr h.length = true) (b : phLowr h.length (h'.take h.length) = true) : gcN h (.ok v h') = .ok v (h'.take h.length) := by
  unfold gcN
  dsimp only
  rw [if_pos (by rw [a, b, decide_eq_true l]; rfl)]
theorem mk_at {n N : Nat} {g : DS} {xs : List PV} {h : PH} (e : xs.length = n) : mk n N g xs h = gcN h (runB g N xs h) := by unfold mk; exact if_pos e
/-- no object refers beyond the last -/
def Cl (n : Nat) (h : PH) : Prop := phLowr n h = true
theorem Cl.set {n : Nat} {o : MO} (ho : o.lowr n = true) : ∀ {h : PH} (i : Nat), Cl n h → Cl n (h.set i o)
  | [], _, c => c
  | x :: r, 0, c => by
    unfold Cl at c ⊢
    simp only [List.set_cons_zero, phLowr, Bool.and_eq_true] at c ⊢
    exact ⟨ho, c.2⟩
  | x :: r, i + 1, c => by
    unfold Cl at c ⊢
    simp only [List.set_cons_succ, phLowr, Bool.and_eq_true] at c ⊢
    exact ⟨c.1, Cl.set ho i c.2⟩
theorem lowrs_ints (n : Nat) : ∀ gs : List Int, PV.lowrs n (gs.map PV.int) = true
  | [] => rfl
  | x :: r => by
    simp only [List.map_cons, PV.lowrs, PV.lowr, Bool.true_and]
    exact lowrs_ints n r
/-- the entries of the deck's dict; a law may have set one more -/
def deckP (g a t : PV) (w : Bool) : List (L2.Key × PV) := [(.inr "great", g), (.inr "seal", a), (.inr "turn", t)] ++ if w then [(.inr "widest", .bl true)] else []
/-- the deck: its dict, the list of its great numbers -/
structure Deck (d g : Nat) (gs : List Int) (a t : Int) (w : Bool) (h : PH) : Prop where
  dic : h[d]? = some (.dK (deckP (.ref g) (.int a) (.int t) w))
  gre : h[g]? = some (.lst (gs.map PV.int))
  pos : ∀ x ∈ gs, 0 ≤ x
  few : gs.length < 100
  cl : Cl h.length h
theorem Deck.ne {d g : Nat} {gs : List Int} {a t : Int} {w : Bool} {h : PH} (D : Deck d g gs a t w h) : d ≠ g := by
  intro e
  have := D.dic
  rw [e, D.gre] at this
  cases this

/-! ### values and the deck's dict -/
theorem toD_nil {h : PH} {m k : Nat} (e : h[m]? = some (.lst [])) : toD h (k + 1) (.ref m) = some (.list []) := by
  unfold toD
  dsimp only
  rw [e]
  rfl
theorem ne_nil {h : PH} {m n : Nat} {xs : List PV} (e1 : h[m]? = some (.lst xs)) (e2 : h[n]? = some (.lst [])) : opNe (.ref m) (.ref n) h = some (.bl (decide (xs ≠ [])), h) := by
  have q : neB h (.ref m) (.ref n) = (eqB h (.ref m) (.ref n)).map fun b => !b := by
    unfold neB
    cases toD h 50 (.ref m) <;> rfl
  unfold opNe
  rw [q]
  cases xs with
  | cons x r =>
    have : eqB h (.ref m) (.ref n) = some false := by
      unfold eqB lenB
      dsimp only
      rw [e1, e2]
      rfl
    rw [this]
    simp
  | nil =>
    have l : lenB h (.ref m) (.ref n) = none := by
      unfold lenB
      dsimp only
      rw [e1, e2]
      rfl
    have st : strB h (.ref m) (.ref n) = none := by
      unfold strB
      cases toD h 50 (.ref m) <;> rfl
    have : eqB h (.ref m) (.ref n) = some true := by
      unfold eqB
      rw [l, st]
      unfold eqV
      dsimp only
      rw [toD_nil (k := 49) e1, toD_nil (k := 49) e2]
      rfl
    rw [this]
    simp
theorem dk_great (g : PV) (a t : PV) (w : Bool) : getG (deckP g a t w) (.inr "great" : L2.Key) = some g := by cases w <;> rfl
theorem dk_seal (g : PV) (a t : PV) (w : Bool) : getG (deckP g a t w) (.inr "seal" : L2.Key) = some a := by cases w <;> rfl
theorem dk_turn (g : PV) (a t : PV) (w : Bool) : getG (deckP g a t w) (.inr "turn" : L2.Key) = some t := by cases w <;> rfl
theorem dk_put (g : PV) (a t u : PV) (w : Bool) : putG (deckP g a t w) (.inr "turn" : L2.Key) u = deckP g a u w := by cases w <;> rfl
theorem lowr_deck {n g : Nat} {a t : Int} {w : Bool} (l : g < n) : MO.lowr n (.dK (deckP (.ref g) (.int a) (.int t) w)) = true := by cases w <;> simp [deckP, MO.lowr, kvLowr, PV.lowr, l]
theorem fInt_ap (i : Int) (h : PH) : fInt [.int i] h = some (.int i, h) := rfl
theorem opMul_r {i j : Int} {h : PH} (e : smallB j = true) : opMul (.int i) (.int j) h = some (.int (i * j), h) := if_pos (by rw [e, Bool.or_true])
theorem opMod_ap {i j : Int} {h : PH} (e : j ≠ 0) : opMod (.int i) (.int j) h = some (.int (i.fmod j), h) := if_pos (decide_eq_true e)
theorem opFdiv_ap {i j : Int} {h : PH} (e : j ≠ 0) (e2 : j.natAbs < 1073741824) : opFdiv (.int i) (.int j) h = some (.int (i.fdiv j), h) := if_pos (decide_eq_true ⟨e, e2⟩)
theorem smallB_of {i : Int} (h : -18446744073709551616 < i) (h2 : i < 18446744073709551616) : smallB i = true := decide_eq_true ⟨h, h2⟩
theorem fm (i : Int) {b : Int} (hb : 0 < b) : 0 ≤ i.fmod b ∧ i.fmod b < b := by
  rw [Int.fmod_eq_emod_of_nonneg _ (by omega)]
  exact ⟨Int.emod_nonneg _ (by omega), Int.emod_lt_of_pos _ hb⟩
end Dn
namespace Dn
open PySem PySem.Spec PyProof.Rows L2 PySem.SeqAt GxR
def top (i : Nat) : Stmt := PySem.Challenge.pw_roomways_k07_whole_known_houses.main.body.getD i (.Pass ⟨0, 0, 0, 0⟩)
theorem Pl.u1 {X : Cx} {k : Nat} (p : Pl X k) : X.A.units + 1 < cLine := by have := p.room.un; omega
theorem Pl.u64 {X : Cx} {k : Nat} (p : Pl X k) : X.A.units + 64 < cLine := by have := p.room.un; omega
theorem Pl.u65 {X : Cx} {k : Nat} (p : Pl X k) : X.A.units + 65 < cLine := by have := p.room.un; omega
theorem Pl.u102 {X : Cx} {k : Nat} (p : Pl X k) : X.A.units + 102 < cLine := by have := p.room.un; omega

structure BltG (mg : Str → Option Value) : Prop where
  b_abs : mg "abs" = none
  b_bool : mg "bool" = none
  b_enumerate : mg "enumerate" = none
  b_int : mg "int" = none
  b_isinstance : mg "isinstance" = none
  b_len : mg "len" = none
  b_range : mg "range" = none
  b_repr : mg "repr" = none
  b_reversed : mg "reversed" = none
  b_sorted : mg "sorted" = none
  b_str : mg "str" = none
  b_tuple : mg "tuple" = none

abbrev s_is_integer : Stmt := top 5
def g_is_integer : DS := (sRet (eAnd (eIsi "int" (eVar 0)) (eNot (eIsi "bool" (eVar 0)))))
def m_is_integer : DF := mk 1 1 g_is_integer
theorem fd_is_integer {P : Program} {w : World} {K : PySem.W.Frag} {mg : Str → Option Value} {base : Heap} {tbs : List Addr} (B : BltG mg) (D : DefP K mg "is_integer" s_is_integer ["value"] (none) []) : FdK P w base ⟨K, mg, tbs⟩ 2 "is_integer" 1 m_is_integer [] := by
  have nd : (["value"] : List Str).Nodup := by decide +kernel
  exact fd_ofP (N := ["value"]) D ⟨rfl, rfl, rfl, by decide +kernel, rfl, by decide +kernel, by decide +kernel⟩ (fun f cdv A outer s H E hcode pl tk hp => by exact (jss_one (js_ret (j_andV (j_isi (n := "int") (by simp) (j_var 0) B.b_isinstance B.b_int (by decide +kernel)) (j_one (j_notV (j_isi (n := "bool") (by simp) (j_var 0) B.b_isinstance B.b_bool (by decide +kernel))))))))
abbrev s_nested_way : Stmt := top 7
def g_nested_way : DS := (sRet (eCall fTuple (eCons (eOp opAdd (eLc (iSeq (eVar 0)) (gNm 1) tYesD (eTup (eCons (eC (.str "in")) (eCons (eVar 1) eNil))) [1]) (eLc (iRev (eVar 0)) (gNm 1) tYesD (eTup (eCons (eC (.str "out")) (eCons (eVar 1) eNil))) [1])) eNil)))
def m_nested_way : DF := mk 1 2 g_nested_way
theorem fd_nested_way {P : Program} {w : World} {K : PySem.W.Frag} {mg : Str → Option Value} {base : Heap} {tbs : List Addr} (B : BltG mg) (D : DefP K mg "nested_way" s_nested_way ["rooms"] (none) []) : FdK P w base ⟨K, mg, tbs⟩ 2 "nested_way" 1 m_nested_way [] := by
  have nd : (["rooms", "room"] : List Str).Nodup := by decide +kernel
  exact fd_ofP (N := ["rooms", "room"]) D ⟨rfl, rfl, rfl, by decide +kernel, rfl, by decide +kernel, by decide +kernel⟩ (fun f cdv A outer s H E hcode pl tk hp => by exact (jss_one (js_ret (j_callTy cl_tuple (by rfl) B.b_tuple (by decide +kernel) (j_cons (j_op or_add (j_lc (own := [("room", 1)]) (by rfl) nd (ji_seq (j_var 0)) (blkOk_by (N := ["rooms", "room"]) (sc := defScope s_nested_way) (by decide +kernel)) gok_nm (fun _ _ _ _ _ => by exact (g_nm 1 nd (hx := Or.inl rfl) (hf := Or.inr rfl))) (fun _ _ _ _ _ => by exact jts_nil) (fun _ _ _ _ _ => by exact (j_tup (j_cons j_str (j_cons (j_var 1) j_nil))))) (j_lc (own := [("room", 1)]) (by rfl) nd (ji_rev (by rfl) B.b_reversed (j_var 0)) (blkOk_by (N := ["rooms", "room"]) (sc := defScope s_nested_way) (by decide +kernel)) gok_nm (fun _ _ _ _ _ => by exact (g_nm 1 nd (hx := Or.inl rfl) (hf := Or.inr rfl))) (fun _ _ _ _ _ => by exact jts_nil) (fun _ _ _ _ _ => by exact (j_tup (j_cons j_str (j_cons (j_var 1) j_nil)))))) j_nil)))))
abbrev s_table_house : Stmt := top 8
def g_table_house : DS := (sSeq (sAsg (gNm 1) (eTupX (iRange1 (eVar 0)) (gNm 2) tYesD (eCallF (m_nested_way) (eCons (eTup (eCons (eVar 2) (eCons (eOp opMod (eOp opAdd (eVar 2) (eC (.int 1))) (eVar 0)) eNil))) eNil)) [2])) (sRet (eTup (eCons (eOp opMul (eTup (eCons (eC .non) eNil)) (eVar 0)) (eCons (eVar 1) eNil)))))
def m_table_house : DF := mk 1 3 g_table_house
theorem fd_table_house {P : Program} {w : World} {K : PySem.W.Frag} {mg : Str → Option Value} {base : Heap} {tbs : List Addr} (B : BltG mg) (F_nested_way : Fd P w base ⟨K, mg, tbs⟩ 2 "nested_way" 1 (m_nested_way)) {cT PT : Addr} (TB : TabB base mg cT PT) (hP : PT ∈ tbs) (D : DefP K mg "table_house" s_table_house ["many"] (some cT) []) : FdK P w base ⟨K, mg, tbs⟩ 13 "table_house" 1 m_table_house [] := by
  have nd : (["many", "ways", "hand"] : List Str).Nodup := by decide +kernel
  exact fd_ofP (N := ["many", "ways", "hand"]) D ⟨rfl, rfl, rfl, by decide +kernel, rfl, by decide +kernel, by decide +kernel⟩ (fun f cdv A outer s H E hcode pl tk hp => by exact (jss_cons (js_set (i := 1) nd (j_tupX (k := 2) (own := [("hand", 2)]) (P := PT) (c := cT) ⟨pl.room.mono (by first | decide | omega), pl.gd⟩ (by rfl) B.b_tuple TB hP (show _ = _ from hcode cT rfl) nd (genOk_by (N := ["many", "ways", "hand"]) (sc := defScope s_table_house) (by decide +kernel)) (ji_range (by rfl) B.b_range (j_var 0)) gok_nm (fun _ _ _ _ _ _ _ _ => by exact (g_nm 2 nd (hx := Or.inl rfl) (hf := Or.inr rfl))) (fun _ _ _ _ _ _ _ _ pl => by exact jts_nil) (fun _ _ _ _ _ _ _ _ pl => by exact (j_fd F_nested_way ⟨pl.room.mono (by first | decide | omega), pl.gd⟩ takes0 (by rfl) (j_cons (j_tup (j_cons (j_var 2) (j_cons (j_op or_mod (j_op or_add (j_var 2) j_int) (j_var 0)) j_nil))) j_nil))))) (jss_one (js_ret (j_tup (j_cons (j_op or_mul (j_tup (j_cons j_non j_nil)) (j_var 0)) (j_cons (j_var 1) j_nil)))))))
abbrev s_handed_house : Stmt := top 9
def g_handed_house : DS := (sSeq (sAsg (gTp 2 (gsCons (gNm 1) (gsCons (gNm 2) gsNil))) (eCallF (m_table_house) (eCons (eVar 0) eNil))) (sRet (eTup (eCons (eVar 1) (eCons (eOp opAdd (eSl opSl (eVar 2) oNone (oSome (eUn opNeg (eC (.int 1))))) (eTup (eCons (eCallF (m_nested_way) (eCons (eTup (eCons (eC (.int 0)) (eCons (eOp opSub (eVar 0) (eC (.int 1))) eNil))) eNil)) eNil))) eNil)))))
def m_handed_house : DF := mk 1 3 g_handed_house
theorem fd_handed_house {P : Program} {w : World} {K : PySem.W.Frag} {mg : Str → Option Value} {base : Heap} {tbs : List Addr} (B : BltG mg) (F_table_house : Fd P w base ⟨K, mg, tbs⟩ 13 "table_house" 1 (m_table_house)) (F_nested_way : Fd P w base ⟨K, mg, tbs⟩ 2 "nested_way" 1 (m_nested_way)) (D : DefP K mg "handed_house" s_handed_house ["many"] (none) []) : FdK P w base ⟨K, mg, tbs⟩ 14 "handed_house" 1 m_handed_house [] := by
  have nd : (["many", "rooms", "ways"] : List Str).Nodup := by decide +kernel
  exact fd_ofP (N := ["many", "rooms", "ways"]) D ⟨rfl, rfl, rfl, by decide +kernel, rfl, by decide +kernel, by decide +kernel⟩ (fun f cdv A outer s H E hcode pl tk hp => by exact (jss_cons (js_asg (j_fd F_table_house ⟨pl.room.mono (by first | decide | omega), pl.gd⟩ tk (by rfl) (j_cons (j_var 0) j_nil)) (g_tp (by rfl) (gs_cons (g_nm 1 nd) (gs_cons (g_nm 2 nd) gs_nil)))) (jss_one (js_ret (j_tup (j_cons (j_var 1) (j_cons (j_op or_add (j_sl sr_sl (j_var 2) jo_none (jo_some (j_un ur_neg j_int))) (j_tup (j_cons (j_fd F_nested_way ⟨pl.room.mono (by first | decide | omega), pl.gd⟩ tk (by rfl) (j_cons (j_tup (j_cons j_int (j_cons (j_op or_sub (j_var 0) j_int) j_nil))) j_nil)) j_nil))) j_nil)))))))
abbrev s_gated_house : Stmt := top 10
def g_gated_house : DS := (sSeq (sAsg (gTp 2 (gsCons (gNm 1) (gsCons (gNm 2) gsNil))) (eCallF (m_table_house) (eCons (eVar 0) eNil))) (sRet (eTup (eCons (eOp opAdd (eVar 1) (eTup (eCons (eC .non) eNil))) (eCons (eTupX (iSeq (eVar 2)) (gNm 3) tYesD (eOp opAdd (eOp opAdd (eTup (eCons (eTup (eCons (eC (.str "in")) (eCons (eVar 0) eNil))) eNil)) (eVar 3)) (eTup (eCons (eTup (eCons (eC (.str "out")) (eCons (eVar 0) eNil))) eNil))) [3]) eNil)))))
def m_gated_house : DF := mk 1 4 g_gated_house
theorem fd_gated_house {P : Program} {w : World} {K : PySem.W.Frag} {mg : Str → Option Value} {base : Heap} {tbs : List Addr} (B : BltG mg) (F_table_house : Fd P w base ⟨K, mg, tbs⟩ 13 "table_house" 1 (m_table_house)) {cT PT : Addr} (TB : TabB base mg cT PT) (hP : PT ∈ tbs) (D : DefP K mg "gated_house" s_gated_house ["many"] (some cT) []) : FdK P w base ⟨K, mg, tbs⟩ 14 "gated_house" 1 m_gated_house [] := by
  have nd : (["many", "rooms", "ways", "way"] : List Str).Nodup := by decide +kernel
  exact fd_ofP (N := ["many", "rooms", "ways", "way"]) D ⟨rfl, rfl, rfl, by decide +kernel, rfl, by decide +kernel, by decide +kernel⟩ (fun f cdv A outer s H E hcode pl tk hp => by exact (jss_cons (js_asg (j_fd F_table_house ⟨pl.room.mono (by first | decide | omega), pl.gd⟩ tk (by rfl) (j_cons (j_var 0) j_nil)) (g_tp (by rfl) (gs_cons (g_nm 1 nd) (gs_cons (g_nm 2 nd) gs_nil)))) (jss_one (js_ret (j_tup (j_cons (j_op or_add (j_var 1) (j_tup (j_cons j_non j_nil))) (j_cons (j_tupX (k := 1) (own := [("way", 3)]) (P := PT) (c := cT) ⟨pl.room.mono (by first | decide | omega), pl.gd⟩ (by rfl) B.b_tuple TB hP (show _ = _ from hcode cT rfl) nd (genOk_by (N := ["many", "rooms", "ways", "way"]) (sc := defScope s_gated_house) (by decide +kernel)) (ji_seq (j_var 2)) gok_nm (fun _ _ _ _ _ _ _ _ => by exact (g_nm 3 nd (hx := Or.inl rfl) (hf := Or.inr rfl))) (fun _ _ _ _ _ _ _ _ pl => by exact jts_nil) (fun _ _ _ _ _ _ _ _ pl => by exact (j_op or_add (j_op or_add (j_tup (j_cons (j_tup (j_cons j_str (j_cons (j_var 0) j_nil))) j_nil)) (j_var 3)) (j_tup (j_cons (j_tup (j_cons j_str (j_cons (j_var 0) j_nil))) j_nil))))) j_nil)))))))
abbrev s_row_house : Stmt := top 11
def g_row_house : DS := (sRet (eTup (eCons (eTup (eCons (eC .non) (eCons (eC .non) eNil))) (eCons (eOp opMul (eTup (eCons (eCallF (m_nested_way) (eCons (eTup (eCons (eC (.int 0)) (eCons (eC (.int 1)) eNil))) eNil)) eNil)) (eVar 0)) eNil))))
def m_row_house : DF := mk 1 1 g_row_house
theorem fd_row_house {P : Program} {w : World} {K : PySem.W.Frag} {mg : Str → Option Value} {base : Heap} {tbs : List Addr} (B : BltG mg) (F_nested_way : Fd P w base ⟨K, mg, tbs⟩ 2 "nested_way" 1 (m_nested_way)) (D : DefP K mg "row_house" s_row_house ["many"] (none) []) : FdK P w base ⟨K, mg, tbs⟩ 3 "row_house" 1 m_row_house [] := by
  have nd : (["many"] : List Str).Nodup := by decide +kernel
  exact fd_ofP (N := ["many"]) D ⟨rfl, rfl, rfl, by decide +kernel, rfl, by decide +kernel, by decide +kernel⟩ (fun f cdv A outer s H E hcode pl tk hp => by exact (jss_one (js_ret (j_tup (j_cons (j_tup (j_cons j_non (j_cons j_non j_nil))) (j_cons (j_op or_mul (j_tup (j_cons (j_fd F_nested_way ⟨pl.room.mono (by first | decide | omega), pl.gd⟩ tk (by rfl) (j_cons (j_tup (j_cons j_int (j_cons j_int j_nil))) j_nil)) j_nil)) (j_var 0)) j_nil))))))
abbrev s_crossed_house : Stmt := top 12
def g_crossed_house : DS := (sRet (eTup (eCons (eTup (eCons (eC .non) (eCons (eC .non) eNil))) (eCons (eTupX (iRange1 (eVar 0)) (gNm 1) tYesD (eCallF (m_nested_way) (eCons (eTup (eCons (eOp opAnd (eVar 1) (eC (.int 1))) (eCons (eOp opSub (eC (.int 1)) (eOp opAnd (eVar 1) (eC (.int 1)))) eNil))) eNil)) [1]) eNil))))
def m_crossed_house : DF := mk 1 2 g_crossed_house
theorem fd_crossed_house {P : Program} {w : World} {K : PySem.W.Frag} {mg : Str → Option Value} {base : Heap} {tbs : List Addr} (B : BltG mg) (F_nested_way : Fd P w base ⟨K, mg, tbs⟩ 2 "nested_way" 1 (m_nested_way)) {cT PT : Addr} (TB : TabB base mg cT PT) (hP : PT ∈ tbs) (D : DefP K mg "crossed_house" s_crossed_house ["many"] (some cT) []) : FdK P w base ⟨K, mg, tbs⟩ 13 "crossed_house" 1 m_crossed_house [] := by
  have nd : (["many", "hand"] : List Str).Nodup := by decide +kernel
  exact fd_ofP (N := ["many", "hand"]) D ⟨rfl, rfl, rfl, by decide +kernel, rfl, by decide +kernel, by decide +kernel⟩ (fun f cdv A outer s H E hcode pl tk hp => by exact (jss_one (js_ret (j_tup (j_cons (j_tup (j_cons j_non (j_cons j_non j_nil))) (j_cons (j_tupX (k := 2) (own := [("hand", 1)]) (P := PT) (c := cT) ⟨pl.room.mono (by first | decide | omega), pl.gd⟩ (by rfl) B.b_tuple TB hP (show _ = _ from hcode cT rfl) nd (genOk_by (N := ["many", "hand"]) (sc := defScope s_crossed_house) (by decide +kernel)) (ji_range (by rfl) B.b_range (j_var 0)) gok_nm (fun _ _ _ _ _ _ _ _ => by exact (g_nm 1 nd (hx := Or.inl rfl) (hf := Or.inr rfl))) (fun _ _ _ _ _ _ _ _ pl => by exact jts_nil) (fun _ _ _ _ _ _ _ _ pl => by exact (j_fd F_nested_way ⟨pl.room.mono (by first | decide | omega), pl.gd⟩ takes0 (by rfl) (j_cons (j_tup (j_cons (j_op or_and (j_var 1) j_int) (j_cons (j_op or_sub j_int (j_op or_and (j_var 1) j_int)) j_nil))) j_nil)))) j_nil))))))
abbrev s_row_of_words : Stmt := top 13
def g_row_of_words : DS := (sRet (eOp opAdd (eOp opAdd (eOp opMul (eTup (eCons (eVar 2) eNil)) (eVar 1)) (eTup (eCons (eC (.str "-")) eNil))) (eOp opMul (eTup (eCons (eVar 3) eNil)) (eOp opSub (eOp opSub (eVar 0) (eVar 1)) (eC (.int 1))))))
def m_row_of_words : DF := mk 4 4 g_row_of_words
theorem fd_row_of_words {P : Program} {w : World} {K : PySem.W.Frag} {mg : Str → Option Value} {base : Heap} {tbs : List Addr} (B : BltG mg) (D : DefP K mg "row_of_words" s_row_of_words ["many", "hand", "to_lesser", "to_greater"] (none) []) : FdK P w base ⟨K, mg, tbs⟩ 2 "row_of_words" 4 m_row_of_words [] := by
  have nd : (["many", "hand", "to_lesser", "to_greater"] : List Str).Nodup := by decide +kernel
  exact fd_ofP (N := ["many", "hand", "to_lesser", "to_greater"]) D ⟨rfl, rfl, rfl, by decide +kernel, rfl, by decide +kernel, by decide +kernel⟩ (fun f cdv A outer s H E hcode pl tk hp => by exact (jss_one (js_ret (j_op or_add (j_op or_add (j_op or_mul (j_tup (j_cons (j_var 2) j_nil)) (j_var 1)) (j_tup (j_cons j_str j_nil))) (j_op or_mul (j_tup (j_cons (j_var 3) j_nil)) (j_op or_sub (j_op or_sub (j_var 0) (j_var 1)) j_int))))))
abbrev s_others : Stmt := top 14
def g_others : DS := (sRet (eTupX (iRange1 (eVar 0)) (gNm 2) (tV (eOp opNe (eVar 2) (eVar 1))) (eVar 2) [2]))
def m_others : DF := mk 2 3 g_others
theorem fd_others {P : Program} {w : World} {K : PySem.W.Frag} {mg : Str → Option Value} {base : Heap} {tbs : List Addr} (B : BltG mg) {cT PT : Addr} (TB : TabB base mg cT PT) (hP : PT ∈ tbs) (D : DefP K mg "others" s_others ["many", "hand"] (some cT) []) : FdK P w base ⟨K, mg, tbs⟩ 12 "others" 2 m_others [] := by
  have nd : (["many", "hand", "other"] : List Str).Nodup := by decide +kernel
  exact fd_ofP (N := ["many", "hand", "other"]) D ⟨rfl, rfl, rfl, by decide +kernel, rfl, by decide +kernel, by decide +kernel⟩ (fun f cdv A outer s H E hcode pl tk hp => by exact (jss_one (js_ret (j_tupX (k := 1) (own := [("other", 2)]) (P := PT) (c := cT) ⟨pl.room.mono (by first | decide | omega), pl.gd⟩ (by rfl) B.b_tuple TB hP (show _ = _ from hcode cT rfl) nd (genOk_by (N := ["many", "hand", "other"]) (sc := defScope s_others) (by decide +kernel)) (ji_range (by rfl) B.b_range (j_var 0)) gok_nm (fun _ _ _ _ _ _ _ _ => by exact (g_nm 2 nd (hx := Or.inl rfl) (hf := Or.inr rfl))) (fun _ _ _ _ _ _ _ _ pl => by exact (jts_one (j_tcmp (or_ne (by exact pl.u64)) (j_var 2) (j_var 1)))) (fun _ _ _ _ _ _ _ _ pl => by exact (j_var 2))))))
abbrev s_door_house : Stmt := top 15
def g_door_house : DS := (sSeq (sAsg (gNm 3) (eTupX (iRange1 (eVar 0)) (gNm 5) tYesD (eCallF (m_row_of_words) (eCons (eVar 0) (eCons (eVar 5) (eCons (eVar 1) (eCons (eVar 2) eNil))))) [5])) (sSeq (sAsg (gNm 4) (eTupX (iRange1 (eVar 0)) (gNm 5) tYesD (eCallF (m_others) (eCons (eVar 0) (eCons (eVar 5) eNil))) [5])) (sRet (eTup (eCons (eTup (eCons (eTup (eCons (eVar 3) (eCons (eVar 4) eNil))) eNil)) (eCons (eOp opMul (eTup (eCons (eCallF (m_nested_way) (eCons (eTup (eCons (eC (.int 0)) eNil)) eNil)) eNil)) (eVar 0)) eNil))))))
def m_door_house : DF := mk 3 6 g_door_house
theorem fd_door_house {P : Program} {w : World} {K : PySem.W.Frag} {mg : Str → Option Value} {base : Heap} {tbs : List Addr} (B : BltG mg) (F_row_of_words : Fd P w base ⟨K, mg, tbs⟩ 2 "row_of_words" 4 (m_row_of_words)) (F_others : Fd P w base ⟨K, mg, tbs⟩ 12 "others" 2 (m_others)) (F_nested_way : Fd P w base ⟨K, mg, tbs⟩ 2 "nested_way" 1 (m_nested_way)) {cT PT : Addr} (TB : TabB base mg cT PT) (hP : PT ∈ tbs) (D : DefP K mg "door_house" s_door_house ["many", "to_lesser", "to_greater"] (some cT) []) : FdK P w base ⟨K, mg, tbs⟩ 23 "door_house" 3 m_door_house [] := by
  have nd : (["many", "to_lesser", "to_greater", "table", "orders", "hand"] : List Str).Nodup := by decide +kernel
  exact fd_ofP (N := ["many", "to_lesser", "to_greater", "table", "orders", "hand"]) D ⟨rfl, rfl, rfl, by decide +kernel, rfl, by decide +kernel, by decide +kernel⟩ (fun f cdv A outer s H E hcode pl tk hp => by exact (jss_cons (js_set (i := 3) nd (j_tupX (k := 2) (own := [("hand", 5)]) (P := PT) (c := cT) ⟨pl.room.mono (by first | decide | omega), pl.gd⟩ (by rfl) B.b_tuple TB hP (show _ = _ from hcode cT rfl) nd (genOk_by (N := ["many", "to_lesser", "to_greater", "table", "orders", "hand"]) (sc := defScope s_door_house) (by decide +kernel)) (ji_range (by rfl) B.b_range (j_var 0)) gok_nm (fun _ _ _ _ _ _ _ _ => by exact (g_nm 5 nd (hx := Or.inl rfl) (hf := Or.inr rfl))) (fun _ _ _ _ _ _ _ _ pl => by exact jts_nil) (fun _ _ _ _ _ _ _ _ pl => by exact (j_fd F_row_of_words ⟨pl.room.mono (by first | decide | omega), pl.gd⟩ takes0 (by rfl) (j_cons (j_var 0) (j_cons (j_var 5) (j_cons (j_var 1) (j_cons (j_var 2) j_nil)))))))) (jss_cons (js_set (i := 4) nd (j_tupX (k := 12) (own := [("hand", 5)]) (P := PT) (c := cT) ⟨pl.room.mono (by first | decide | omega), pl.gd⟩ (by rfl) B.b_tuple TB hP (show _ = _ from hcode cT rfl) nd (genOk_by (N := ["many", "to_lesser", "to_greater", "table", "orders", "hand"]) (sc := defScope s_door_house) (by decide +kernel)) (ji_range (by rfl) B.b_range (j_var 0)) gok_nm (fun _ _ _ _ _ _ _ _ => by exact (g_nm 5 nd (hx := Or.inl rfl) (hf := Or.inr rfl))) (fun _ _ _ _ _ _ _ _ pl => by exact jts_nil) (fun _ _ _ _ _ _ _ _ pl => by exact (j_fd F_others ⟨pl.room.mono (by first | decide | omega), pl.gd⟩ takes0 (by rfl) (j_cons (j_var 0) (j_cons (j_var 5) j_nil)))))) (jss_one (js_ret (j_tup (j_cons (j_tup (j_cons (j_tup (j_cons (j_var 3) (j_cons (j_var 4) j_nil))) j_nil)) (j_cons (j_op or_mul (j_tup (j_cons (j_fd F_nested_way ⟨pl.room.mono (by first | decide | omega), pl.gd⟩ tk (by rfl) (j_cons (j_tup (j_cons j_int j_nil)) j_nil)) j_nil)) (j_var 0)) j_nil))))))))
abbrev s_ranked_house : Stmt := top 16
def g_ranked_house : DS := (sRet (eCallF (m_door_house) (eCons (eVar 0) (eCons (eC (.str "bow")) (eCons (eC (.str "stand")) eNil)))))
def m_ranked_house : DF := mk 1 1 g_ranked_house
theorem fd_ranked_house {P : Program} {w : World} {K : PySem.W.Frag} {mg : Str → Option Value} {base : Heap} {tbs : List Addr} (B : BltG mg) (F_door_house : Fd P w base ⟨K, mg, tbs⟩ 23 "door_house" 3 (m_door_house)) (D : DefP K mg "ranked_house" s_ranked_house ["many"] (none) []) : FdK P w base ⟨K, mg, tbs⟩ 24 "ranked_house" 1 m_ranked_house [] := by
  have nd : (["many"] : List Str).Nodup := by decide +kernel
  exact fd_ofP (N := ["many"]) D ⟨rfl, rfl, rfl, by decide +kernel, rfl, by decide +kernel, by decide +kernel⟩ (fun f cdv A outer s H E hcode pl tk hp => by exact (jss_one (js_ret (j_fd F_door_house ⟨pl.room.mono (by first | decide | omega), pl.gd⟩ tk (by rfl) (j_cons (j_var 0) (j_cons j_str (j_cons j_str j_nil)))))))
abbrev s_level_house : Stmt := top 17
def g_level_house : DS := (sRet (eCallF (m_door_house) (eCons (eVar 0) (eCons (eC (.str "even")) (eCons (eC (.str "even")) eNil)))))
def m_level_house : DF := mk 1 1 g_level_house
theorem fd_level_house {P : Program} {w : World} {K : PySem.W.Frag} {mg : Str → Option Value} {base : Heap} {tbs : List Addr} (B : BltG mg) (F_door_house : Fd P w base ⟨K, mg, tbs⟩ 23 "door_house" 3 (m_door_house)) (D : DefP K mg "level_house" s_level_house ["many"] (none) []) : FdK P w base ⟨K, mg, tbs⟩ 24 "level_house" 1 m_level_house [] := by
  have nd : (["many"] : List Str).Nodup := by decide +kernel
  exact fd_ofP (N := ["many"]) D ⟨rfl, rfl, rfl, by decide +kernel, rfl, by decide +kernel, by decide +kernel⟩ (fun f cdv A outer s H E hcode pl tk hp => by exact (jss_one (js_ret (j_fd F_door_house ⟨pl.room.mono (by first | decide | omega), pl.gd⟩ tk (by rfl) (j_cons (j_var 0) (j_cons j_str (j_cons j_str j_nil)))))))
abbrev s_meek_house : Stmt := top 18
def g_meek_house : DS := (sRet (eCallF (m_door_house) (eCons (eVar 0) (eCons (eC (.str "bow")) (eCons (eC (.str "bow")) eNil)))))
def m_meek_house : DF := mk 1 1 g_meek_house
theorem fd_meek_house {P : Program} {w : World} {K : PySem.W.Frag} {mg : Str → Option Value} {base : Heap} {tbs : List Addr} (B : BltG mg) (F_door_house : Fd P w base ⟨K, mg, tbs⟩ 23 "door_house" 3 (m_door_house)) (D : DefP K mg "meek_house" s_meek_house ["many"] (none) []) : FdK P w base ⟨K, mg, tbs⟩ 24 "meek_house" 1 m_meek_house [] := by
  have nd : (["many"] : List Str).Nodup := by decide +kernel
  exact fd_ofP (N := ["many"]) D ⟨rfl, rfl, rfl, by decide +kernel, rfl, by decide +kernel, by decide +kernel⟩ (fun f cdv A outer s H E hcode pl tk hp => by exact (jss_one (js_ret (j_fd F_door_house ⟨pl.room.mono (by first | decide | omega), pl.gd⟩ tk (by rfl) (j_cons (j_var 0) (j_cons j_str (j_cons j_str j_nil)))))))
abbrev s_proud_house : Stmt := top 19
def g_proud_house : DS := (sRet (eCallF (m_door_house) (eCons (eVar 0) (eCons (eC (.str "stand")) (eCons (eC (.str "stand")) eNil)))))
def m_proud_house : DF := mk 1 1 g_proud_house
theorem fd_proud_house {P : Program} {w : World} {K : PySem.W.Frag} {mg : Str → Option Value} {base : Heap} {tbs : List Addr} (B : BltG mg) (F_door_house : Fd P w base ⟨K, mg, tbs⟩ 23 "door_house" 3 (m_door_house)) (D : DefP K mg "proud_house" s_proud_house ["many"] (none) []) : FdK P w base ⟨K, mg, tbs⟩ 24 "proud_house" 1 m_proud_house [] := by
  have nd : (["many"] : List Str).Nodup := by decide +kernel
  exact fd_ofP (N := ["many"]) D ⟨rfl, rfl, rfl, by decide +kernel, rfl, by decide +kernel, by decide +kernel⟩ (fun f cdv A outer s H E hcode pl tk hp => by exact (jss_one (js_ret (j_fd F_door_house ⟨pl.room.mono (by first | decide | omega), pl.gd⟩ tk (by rfl) (j_cons (j_var 0) (j_cons j_str (j_cons j_str j_nil)))))))
abbrev s_known_names : Stmt := top 21
def g_known_names : DS := (sRet (eCall fTuple (eCons (eSortedF ["crossed", "gated", "handed", "level", "meek", "proud", "ranked", "row", "table"]) eNil)))
def m_known_names : DF := mk 0 0 g_known_names
theorem fd_known_names {P : Program} {w : World} {K : PySem.W.Frag} {mg : Str → Option Value} {base : Heap} {tbs : List Addr} (B : BltG mg) (FS_MAKERS : FnSrt K w mg "MAKERS" ["crossed", "gated", "handed", "level", "meek", "proud", "ranked", "row", "table"]) (D : DefP K mg "known_names" s_known_names [] (none) []) : FdK P w base ⟨K, mg, tbs⟩ 2 "known_names" 0 m_known_names [] := by
  have nd : ([] : List Str).Nodup := by decide +kernel
  exact fd_ofP (N := []) D ⟨rfl, rfl, rfl, by decide +kernel, rfl, by decide +kernel, by decide +kernel⟩ (fun f cdv A outer s H E hcode pl tk hp => by exact (jss_one (js_ret (j_callTy cl_tuple (by rfl) B.b_tuple (by decide +kernel) (j_cons (j_sortedF (by rfl) FS_MAKERS (by rfl) B.b_sorted (by decide +kernel) (by rfl)) j_nil)))))
abbrev s_known : Stmt := top 22
def g_known : DS := (sSeq (sIf (tOrD (tNotD (tTru (eIsi "str" (eVar 0)))) (tV (eNotInTab [("crossed", "crossed_house"), ("gated", "gated_house"), ("handed", "handed_house"), ("level", "level_house"), ("meek", "meek_house"), ("proud", "proud_house"), ("ranked", "ranked_house"), ("row", "row_house"), ("table", "table_house")] (eVar 0)))) (sRaise0 "Unfit") sNx) (sSeq (sIf (tOrD (tNotD (tTru (eCallF (m_is_integer) (eCons (eVar 1) eNil)))) (tNotD (tV (eChain opLe opLe (eC (.int 2)) (eVar 1) (eC (.int 5)))))) (sRaise0 "Unfit") sNx) (sMaker 2 [("crossed", "crossed_house"), ("gated", "gated_house"), ("handed", "handed_house"), ("level", "level_house"), ("meek", "meek_house"), ("proud", "proud_house"), ("ranked", "ranked_house"), ("row", "row_house"), ("table", "table_house")] [("crossed_house", m_crossed_house), ("gated_house", m_gated_house), ("handed_house", m_handed_house), ("level_house", m_level_house), ("meek_house", m_meek_house), ("proud_house", m_proud_house), ("ranked_house", m_ranked_house), ("row_house", m_row_house), ("table_house", m_table_house)] (eVar 0) (eCons (eVar 1) eNil))))
def m_known : DF := mk 2 3 g_known
theorem fd_known {P : Program} {w : World} {K : PySem.W.Frag} {mg : Str → Option Value} {base : Heap} {tbs : List Addr} (B : BltG mg) (h_MAX_HANDS : ∃ t, mg "MAX_HANDS" = some (.int 5 t)) (F_crossed_house : Fd P w base ⟨K, mg, tbs⟩ 13 "crossed_house" 1 (m_crossed_house)) (F_gated_house : Fd P w base ⟨K, mg, tbs⟩ 14 "gated_house" 1 (m_gated_house)) (F_handed_house : Fd P w base ⟨K, mg, tbs⟩ 14 "handed_house" 1 (m_handed_house)) (F_level_house : Fd P w base ⟨K, mg, tbs⟩ 24 "level_house" 1 (m_level_house)) (F_meek_house : Fd P w base ⟨K, mg, tbs⟩ 24 "meek_house" 1 (m_meek_house)) (F_proud_house : Fd P w base ⟨K, mg, tbs⟩ 24 "proud_house" 1 (m_proud_house)) (F_ranked_house : Fd P w base ⟨K, mg, tbs⟩ 24 "ranked_house" 1 (m_ranked_house)) (F_row_house : Fd P w base ⟨K, mg, tbs⟩ 3 "row_house" 1 (m_row_house)) (F_table_house : Fd P w base ⟨K, mg, tbs⟩ 13 "table_house" 1 (m_table_house)) (F_is_integer : Fd P w base ⟨K, mg, tbs⟩ 2 "is_integer" 1 (m_is_integer)) (FT_MAKERS : FnTab K w mg "MAKERS" [("crossed", "crossed_house"), ("gated", "gated_house"), ("handed", "handed_house"), ("level", "level_house"), ("meek", "meek_house"), ("proud", "proud_house"), ("ranked", "ranked_house"), ("row", "row_house"), ("table", "table_house")]) (E_Unfit : ExcP K mg "Unfit") (D : DefP K mg "known" s_known ["name", "many"] (none) [(["many", "name"], [1, 0])]) : FdK P w base ⟨K, mg, tbs⟩ 25 "known" 2 m_known [(["many", "name"], [1, 0])] := by
  obtain ⟨t_MAX_HANDS, e_MAX_HANDS⟩ := h_MAX_HANDS
  have nd : (["name", "many", "maker"] : List Str).Nodup := by decide +kernel
  exact fd_ofP (N := ["name", "many", "maker"]) D ⟨rfl, rfl, rfl, by decide +kernel, rfl, by decide +kernel, by decide +kernel⟩ (fun f cdv A outer s H E hcode pl tk hp => by exact (jss_cons (js_if (j_wt (j_or (j_not (j_tru (j_isi (n := "str") (by simp) (j_var 0) B.b_isinstance B.b_str (by decide +kernel)))) (j_or1 (j_tnotInF FT_MAKERS (by rfl) (j_var 0))))) (jss_one (js_raise0 E_Unfit (by rfl) tk (by rfl))) jss_nil) (jss_cons (js_if (j_wt (j_or (j_not (j_tru (j_fd F_is_integer ⟨pl.room.mono (by first | decide | omega), pl.gd⟩ tk (by rfl) (j_cons (j_var 1) j_nil)))) (j_or1 (j_not (j_tchain or_le or_le j_int (j_var 1) (j_glob (px := .int 5) (v := .int 5) (by rfl) e_MAX_HANDS ⟨t_MAX_HANDS, rfl⟩ (fun _ _ => .int _))))))) (jss_one (js_raise0 E_Unfit (by rfl) tk (by rfl))) jss_nil) (jss_maker (k := 24) FT_MAKERS (fun q m hq => by
      have z := lookup_memG hq
      simp only [List.mem_cons, List.not_mem_nil, or_false, Prod.mk.injEq] at z
      rcases z with ⟨rfl, rfl⟩ | ⟨rfl, rfl⟩ | ⟨rfl, rfl⟩ | ⟨rfl, rfl⟩ | ⟨rfl, rfl⟩ | ⟨rfl, rfl⟩ | ⟨rfl, rfl⟩ | ⟨rfl, rfl⟩ | ⟨rfl, rfl⟩
      · exact F_crossed_house.up (by decide)
      · exact F_gated_house.up (by decide)
      · exact F_handed_house.up (by decide)
      · exact F_level_house.up (by decide)
      · exact F_meek_house.up (by decide)
      · exact F_proud_house.up (by decide)
      · exact F_ranked_house.up (by decide)
      · exact F_row_house.up (by decide)
      · exact F_table_house.up (by decide)
      ) ⟨pl.room.mono (by first | decide | omega), pl.gd⟩ tk nd (by rfl) (j_var 0) (j_cons (j_var 1) j_nil)))))
abbrev s__law_deck : Stmt := top 24
def g__law_deck : DS := (sSeq (sPar 1 2 (eCons (eLc (iSeq (eSl opSl (eVar 0) oNone (oSome (eC (.int 63))))) (gNm 4) tYesD (eOp opAdd (eOp opMul (eC (.int 2)) (eCall fAbs (eCons (eVar 4) eNil))) (eCall fInt (eCons (eOp opLt (eVar 4) (eC (.int 0))) eNil))) [4]) (eCons (eOp opAdd (eC (.int 15910)) (eOp opMul (eC (.int 7)) (eCall fLen (eCons (eVar 0) eNil)))) eNil))) (sSeq (sFor (iSeq (eVar 1)) (gNm 3) (sAsg (gNm 2) (eOp opMod (eCall fInt (eCons (eOp opAdd (eOp opAdd (eOp opMul (eVar 2) (eC (.int 48271))) (eVar 3)) (eC (.int 1))) eNil)) (eC (.int 4294967291))))) (sRet (eDisp (((eC (.str "great")), (eRev (eLc (iSeq (eVar 1)) (gNm 3) (tV (eOp opGe (eVar 3) (eOp opPow (eC (.int 10)) (eC (.int 18))))) (eVar 3) [3]))) :: (((eC (.str "seal")), (eVar 2)) :: (((eC (.str "turn")), (eC (.int 0))) :: [])))))))
def m__law_deck : DF := mk 1 5 g__law_deck
theorem fd__law_deck {P : Program} {w : World} {K : PySem.W.Frag} {mg : Str → Option Value} {base : Heap} {tbs : List Addr} (B : BltG mg) (D : DefP K mg "_law_deck" s__law_deck ["script"] (none) []) : FdK P w base ⟨K, mg, tbs⟩ 2 "_law_deck" 1 m__law_deck [] := by
  have nd : (["script", "cells", "seal", "cell", "own"] : List Str).Nodup := by decide +kernel
  exact fd_ofP (N := ["script", "cells", "seal", "cell", "own"]) D ⟨rfl, rfl, rfl, by decide +kernel, rfl, by decide +kernel, by decide +kernel⟩ (fun f cdv A outer s H E hcode pl tk hp => by exact (jss_cons (js_par (i := 1) (j := 2) (by rfl) nd (j_cons (j_lc (own := [("own", 4)]) (by rfl) nd (ji_seq (j_sl sr_sl (j_var 0) jo_none (jo_some j_int))) (blkOk_by (N := ["script", "cells", "seal", "cell", "own"]) (sc := defScope s__law_deck) (by decide +kernel)) gok_nm (fun _ _ _ _ _ => by exact (g_nm 4 nd (hx := Or.inl rfl) (hf := Or.inr rfl))) (fun _ _ _ _ _ => by exact jts_nil) (fun _ _ _ _ _ => by exact (j_op or_add (j_op or_mul j_int (j_callB cl_abs (by rfl) B.b_abs (by decide +kernel) (j_cons (j_var 4) j_nil))) (j_callTy cl_int (by rfl) B.b_int (by decide +kernel) (j_cons (j_cmp or_lt (j_var 4) j_int) j_nil))))) (j_cons (j_op or_add j_int (j_op or_mul j_int (j_callB cl_len (by rfl) B.b_len (by decide +kernel) (j_cons (j_var 0) j_nil)))) j_nil))) (jss_cons (js_for hp (by rfl) (ji_seq (j_var 1)) (g_nm 3 nd) (jss_one (js_set (i := 2) nd (j_op or_mod (j_callTy cl_int (by rfl) B.b_int (by decide +kernel) (j_cons (j_op or_add (j_op or_add (j_op or_mul (j_var 2) j_int) (j_var 3)) j_int) j_nil)) j_int)))) (jss_one (js_ret (j_disp (.cons j_str (j_rev (j_lc (own := [("cell", 3)]) (by rfl) nd (ji_seq (j_var 1)) (blkOk_by (N := ["script", "cells", "seal", "cell", "own"]) (sc := defScope s__law_deck) (by decide +kernel)) gok_nm (fun _ _ _ _ _ => by exact (g_nm 3 nd (hx := Or.inl rfl) (hf := Or.inr rfl))) (fun _ _ _ _ _ => by exact (jts_one (j_tcmp or_ge (j_var 3) (j_op or_pow j_int j_int)))) (fun _ _ _ _ _ => by exact (j_var 3)))) (.cons j_str (j_var 2) (.cons j_str j_int .nil)))))))))
abbrev s__law_draw : Stmt := top 25
def g__law_draw : DS := (sSeq (sIf (tV (eOp opLt (eVar 1) (eC (.int 2)))) (sRet (eC (.int 0))) sNx) (sSeq (sIf (tV (eOp opNe (eOp opIx (eVar 0) (eC (.str "great"))) (eLst eNil))) (sSeq (sAsg (gNm 2) (eMt "list" mPop (eOp opIx (eVar 0) (eC (.str "great"))) eNil)) (sSeq (sIf (tV (eOp opGe (eVar 2) (eVar 1))) (sDrop (eMt "list" mAppend (eOp opIx (eVar 0) (eC (.str "great"))) (eCons (eOp opFdiv (eVar 2) (eVar 1)) eNil))) sNx) (sRet (eOp opMod (eCall fInt (eCons (eVar 2) eNil)) (eVar 1))))) sNx) (sSeq (sAsgH (hSub fSet (eVar 0) (eC (.str "turn"))) (eOp opAdd (eOp opIx (eVar 0) (eC (.str "turn"))) (eC (.int 1)))) (sSeq (sAsg (gNm 3) (eOp opMod (eCall fInt (eCons (eOp opAdd (eOp opIx (eVar 0) (eC (.str "seal"))) (eOp opMul (eOp opIx (eVar 0) (eC (.str "turn"))) (eC (.int 2654435761)))) eNil)) (eC (.int 4294967291)))) (sSeq (sAsg (gNm 4) (eOp opMod (eCall fInt (eCons (eOp opAdd (eOp opAdd (eOp opMul (eVar 3) (eVar 3)) (eOp opMul (eOp opIx (eVar 0) (eC (.str "turn"))) (eC (.int 362437)))) (eC (.int 5))) eNil)) (eC (.int 4294967279)))) (sRet (eOp opMod (eCall fInt (eCons (eOp opFdiv (eOp opMod (eCall fInt (eCons (eOp opAdd (eOp opMul (eVar 4) (eVar 4)) (eVar 3)) eNil)) (eC (.int 4294967231))) (eC (.int 4096))) eNil)) (eVar 1))))))))
def m__law_draw : DF := mk 2 5 g__law_draw
theorem fd__law_draw {P : Program} {w : World} {K : PySem.W.Frag} {mg : Str → Option Value} {base : Heap} {tbs : List Addr} (B : BltG mg) (D : DefP K mg "_law_draw" s__law_draw ["deck", "many"] (none) []) : FdK P w base ⟨K, mg, tbs⟩ 2 "_law_draw" 2 m__law_draw [] := by
  have nd : (["deck", "many", "cell", "one", "two"] : List Str).Nodup := by decide +kernel
  exact fd_ofP (N := ["deck", "many", "cell", "one", "two"]) D ⟨rfl, rfl, rfl, by decide +kernel, rfl, by decide +kernel, by decide +kernel⟩ (fun f cdv A outer s H E hcode pl tk hp => by exact (jss_cons (js_if (j_tcmp or_lt (j_var 1) j_int) (jss_one (js_ret j_int)) jss_nil) (jss_cons (js_if (j_tcmp (or_ne (by exact pl.u64)) (j_ix (ir_ix (by exact pl.u1)) (j_var 0) j_str) (j_lst j_nil)) (jss_cons (js_set (i := 2) nd (j_mt0 PySem.F.plainAttrs_list PySem.F.slot_list_pop PySem.F.type_list_pop mr_pop (j_ix (ir_ix (by exact pl.u1)) (j_var 0) j_str))) (jss_cons (js_if (j_tcmp or_ge (j_var 2) (j_var 1)) (jss_one (js_expr (j_mt PySem.F.plainAttrs_list PySem.F.slot_list_append PySem.F.type_list_append mr_append (j_ix (ir_ix (by exact pl.u1)) (j_var 0) j_str) (j_cons (j_op or_fdiv (j_var 2) (j_var 1)) j_nil)))) jss_nil) (jss_one (js_ret (j_op or_mod (j_callTy cl_int (by rfl) B.b_int (by decide +kernel) (j_cons (j_var 2) j_nil)) (j_var 1)))))) jss_nil) (jss_cons (js_asgH (j_op or_add (j_ix (ir_ix (by exact pl.u1)) (j_var 0) j_str) j_int) (h_sub (st_set (by exact pl.u1)) (j_var 0) j_str)) (jss_cons (js_set (i := 3) nd (j_op or_mod (j_callTy cl_int (by rfl) B.b_int (by decide +kernel) (j_cons (j_op or_add (j_ix (ir_ix (by exact pl.u1)) (j_var 0) j_str) (j_op or_mul (j_ix (ir_ix (by exact pl.u1)) (j_var 0) j_str) j_int)) j_nil)) j_int)) (jss_cons (js_set (i := 4) nd (j_op or_mod (j_callTy cl_int (by rfl) B.b_int (by decide +kernel) (j_cons (j_op or_add (j_op or_add (j_op or_mul (j_var 3) (j_var 3)) (j_op or_mul (j_ix (ir_ix (by exact pl.u1)) (j_var 0) j_str) j_int)) j_int) j_nil)) j_int)) (jss_one (js_ret (j_op or_mod (j_callTy cl_int (by rfl) B.b_int (by decide +kernel) (j_cons (j_op or_fdiv (j_op or_mod (j_callTy cl_int (by rfl) B.b_int (by decide +kernel) (j_cons (j_op or_add (j_op or_mul (j_var 4) (j_var 4)) (j_var 3)) j_nil)) j_int) j_int) j_nil)) (j_var 1))))))))))
abbrev s__law_pick : Stmt := top 26
def g__law_pick : DS := (sRet (eOp opIx (eVar 1) (eCallF (m__law_draw) (eCons (eVar 0) (eCons (eCall fLen (eCons (eVar 1) eNil)) eNil)))))
def m__law_pick : DF := mk 2 2 g__law_pick
theorem fd__law_pick {P : Program} {w : World} {K : PySem.W.Frag} {mg : Str → Option Value} {base : Heap} {tbs : List Addr} (B : BltG mg) (F__law_draw : Fd P w base ⟨K, mg, tbs⟩ 2 "_law_draw" 2 (m__law_draw)) (D : DefP K mg "_law_pick" s__law_pick ["deck", "items"] (none) []) : FdK P w base ⟨K, mg, tbs⟩ 3 "_law_pick" 2 m__law_pick [] := by
  have nd : (["deck", "items"] : List Str).Nodup := by decide +kernel
  exact fd_ofP (N := ["deck", "items"]) D ⟨rfl, rfl, rfl, by decide +kernel, rfl, by decide +kernel, by decide +kernel⟩ (fun f cdv A outer s H E hcode pl tk hp => by exact (jss_one (js_ret (j_ix (ir_ix (by exact pl.u1)) (j_var 1) (j_fd F__law_draw ⟨pl.room.mono (by first | decide | omega), pl.gd⟩ tk (by rfl) (j_cons (j_var 0) (j_cons (j_callB cl_len (by rfl) B.b_len (by decide +kernel) (j_cons (j_var 1) j_nil)) j_nil)))))))
abbrev s__law_whole : Stmt := top 27
def g__law_whole : DS := (sRet (eAnd (eIsi "int" (eVar 0)) (eAnd (eNot (eIsi "bool" (eVar 0))) (eChain opLe opLe (eVar 1) (eVar 0) (eVar 2)))))
def m__law_whole : DF := mk 3 3 g__law_whole
theorem fd__law_whole {P : Program} {w : World} {K : PySem.W.Frag} {mg : Str → Option Value} {base : Heap} {tbs : List Addr} (B : BltG mg) (D : DefP K mg "_law_whole" s__law_whole ["value", "least", "most"] (none) []) : FdK P w base ⟨K, mg, tbs⟩ 2 "_law_whole" 3 m__law_whole [] := by
  have nd : (["value", "least", "most"] : List Str).Nodup := by decide +kernel
  exact fd_ofP (N := ["value", "least", "most"]) D ⟨rfl, rfl, rfl, by decide +kernel, rfl, by decide +kernel, by decide +kernel⟩ (fun f cdv A outer s H E hcode pl tk hp => by exact (jss_one (js_ret (j_andV (j_isi (n := "int") (by simp) (j_var 0) B.b_isinstance B.b_int (by decide +kernel)) (j_andV (j_notV (j_isi (n := "bool") (by simp) (j_var 0) B.b_isinstance B.b_bool (by decide +kernel))) (j_one (j_chain or_le or_le (j_var 1) (j_var 0) (j_var 2))))))))
abbrev s__law_same : Stmt := top 28
def g__law_same (rec : DF) : DS := (sSeq (sIf (tTru (eIsi "tuple" (eVar 1))) (sSeq (sIf (tOrD (tNotD (tTru (eIsi "tuple" (eVar 0)))) (tV (eOp opNe (eCall fLen (eCons (eVar 0) eNil)) (eCall fLen (eCons (eVar 1) eNil))))) (sRet (eC (.bl false))) sNx) (sSeq (sFor (iEnumP (eVar 1)) (gTp 2 (gsCons (gNm 2) (gsCons (gNm 3) gsNil))) (sIf (tNotD (tTru (eCallF rec (eCons (eOp opIx (eVar 0) (eVar 2)) (eCons (eVar 3) eNil))))) (sRet (eC (.bl false))) sNx)) (sRet (eC (.bl true))))) sNx) (sSeq (sIf (tV (eOp opIs (eVar 1) (eC .non))) (sRet (eOp opIs (eVar 0) (eC .non))) sNx) (sSeq (sIf (tTru (eIsi "bool" (eVar 1))) (sRet (eIf (tTru (eVar 1)) (eOp opIs (eVar 0) (eC (.bl true))) (eOp opIs (eVar 0) (eC (.bl false))))) sNx) (sSeq (sIf (tTru (eIsi "int" (eVar 1))) (sRet (eAnd (eIsi "int" (eVar 0)) (eAnd (eNot (eIsi "bool" (eVar 0))) (eOp opEq (eVar 0) (eVar 1))))) sNx) (sRet (eAnd (eIsi "str" (eVar 0)) (eOp opEq (eVar 0) (eVar 1))))))))
def m__law_same : Nat → DF
  | 0 => mNo
  | n + 1 => mk 2 4 (g__law_same (m__law_same n))
theorem fd__law_same {P : Program} {w : World} {K : PySem.W.Frag} {mg : Str → Option Value} {base : Heap} {tbs : List Addr} (B : BltG mg) (D : DefP K mg "_law_same" s__law_same ["found", "due"] (none) []) : ∀ n : Nat, FdK P w base ⟨K, mg, tbs⟩ (n + 2) "_law_same" 2 (m__law_same n) []
  | 0 => fd_no D
  | n + 1 => by
    have R := (fd__law_same (P := P) (w := w) (base := base) (tbs := tbs) B D n).fd
    have nd : (["found", "due", "spot", "own"] : List Str).Nodup := by decide +kernel
    exact fd_ofP (N := ["found", "due", "spot", "own"]) D ⟨rfl, rfl, rfl, by decide +kernel, rfl, by decide +kernel, by decide +kernel⟩ (fun f cdv A outer s H E hcode pl tk hp => by exact (jss_cons (js_if (j_tru (j_isi (n := "tuple") (by simp) (j_var 1) B.b_isinstance B.b_tuple (by decide +kernel))) (jss_cons (js_if (j_wt (j_or (j_not (j_tru (j_isi (n := "tuple") (by simp) (j_var 0) B.b_isinstance B.b_tuple (by decide +kernel)))) (j_or1 (j_tcmp (or_ne (by exact pl.u64)) (j_callB cl_len (by rfl) B.b_len (by decide +kernel) (j_cons (j_var 0) j_nil)) (j_callB cl_len (by rfl) B.b_len (by decide +kernel) (j_cons (j_var 1) j_nil)))))) (jss_one (js_ret j_bl)) jss_nil) (jss_cons (js_for hp (by rfl) (ji_enum (by rfl) B.b_enumerate (j_var 1)) (g_tp (by rfl) (gs_cons (g_nm 2 nd) (gs_cons (g_nm 3 nd) gs_nil))) (jss_one (js_if (j_not (j_tru (j_fd R ⟨pl.room.mono (by first | decide | omega), pl.gd⟩ tk (by rfl) (j_cons (j_ix (ir_ix (by exact pl.u1)) (j_var 0) (j_var 2)) (j_cons (j_var 3) j_nil))))) (jss_one (js_ret j_bl)) jss_nil))) (jss_one (js_ret j_bl)))) jss_nil) (jss_cons (js_if (j_tcmp or_is (j_var 1) j_non) (jss_one (js_ret (j_cmp or_is (j_var 0) j_non))) jss_nil) (jss_cons (js_if (j_tru (j_isi (n := "bool") (by simp) (j_var 1) B.b_isinstance B.b_bool (by decide +kernel))) (jss_one (js_ret (j_if (j_tru (j_var 1)) (j_cmp or_is (j_var 0) j_bl) (j_cmp or_is (j_var 0) j_bl)))) jss_nil) (jss_cons (js_if (j_tru (j_isi (n := "int") (by simp) (j_var 1) B.b_isinstance B.b_int (by decide +kernel))) (jss_one (js_ret (j_andV (j_isi (n := "int") (by simp) (j_var 0) B.b_isinstance B.b_int (by decide +kernel)) (j_andV (j_notV (j_isi (n := "bool") (by simp) (j_var 0) B.b_isinstance B.b_bool (by decide +kernel))) (j_one (j_cmp (or_eq (by exact pl.u64)) (j_var 0) (j_var 1))))))) jss_nil) (jss_one (js_ret (j_andV (j_isi (n := "str") (by simp) (j_var 0) B.b_isinstance B.b_str (by decide +kernel)) (j_one (j_cmp (or_eq (by exact pl.u64)) (j_var 0) (j_var 1)))))))))))
abbrev s__law_any : Stmt := top 29
def g__law_any (rec : DF) : DS := (sSeq (sAsg (gNm 2) (eCallF (m__law_draw) (eCons (eVar 0) (eCons (eIf (tV (eOp opGt (eVar 1) (eC (.int 0)))) (eC (.int 16)) (eC (.int 10))) eNil)))) (sSeq (sIf (tV (eOp opLt (eVar 2) (eC (.int 3)))) (sRet (eOp opIx (eLst (eCons (eC .non) (eCons (eC (.bl true)) (eCons (eC (.bl false)) eNil)))) (eVar 2))) sNx) (sSeq (sIf (tV (eOp opLt (eVar 2) (eC (.int 6)))) (sRet (eCallF (m__law_pick) (eCons (eVar 0) (eCons (eLst (eCons (eUn opNeg (eC (.int 1))) (eCons (eC (.int 0)) (eCons (eC (.int 1)) (eCons (eC (.int 2)) (eCons (eC (.int 4)) (eCons (eC (.int 5)) (eCons (eC (.int 6)) (eCons (eC (.int 23)) (eCons (eC (.int 24)) (eCons (eOp opAdd (eOp opPow (eC (.int 10)) (eC (.int 18))) (eC (.int 7))) eNil))))))))))) eNil)))) sNx) (sSeq (sIf (tV (eOp opLt (eVar 2) (eC (.int 10)))) (sRet (eCallF (m__law_pick) (eCons (eVar 0) (eCons (eLst (eCons (eC (.str "in")) (eCons (eC (.str "out")) (eCons (eC (.str "")) (eCons (eC (.str "-")) (eCons (eC (.str "stand")) (eCons (eC (.str "bow")) (eCons (eC (.str "even")) (eCons (eC (.str "rest")) (eCons (eC (.str "go")) (eCons (eC (.str "plain")) (eCons (eC (.str "way +0 -0")) eNil)))))))))))) eNil)))) sNx) (sSeq (sAsg (gNm 3) (eLc (iRange1 (eCallF (m__law_draw) (eCons (eVar 0) (eCons (eC (.int 4)) eNil)))) (gNm 4) tYesD (eCallF rec (eCons (eVar 0) (eCons (eOp opSub (eVar 1) (eC (.int 1))) eNil))) [4])) (sSeq (sIf (tV (eOp opLt (eVar 2) (eC (.int 12)))) (sRet (eVar 3)) sNx) (sRet (eIf (tV (eOp opEq (eVar 2) (eC (.int 12)))) (eDisp (((eC (.str "0")), (eVar 3)) :: [])) (eCall fTuple (eCons (eVar 3) eNil))))))))))
def m__law_any : Nat → DF
  | 0 => mNo
  | n + 1 => mk 2 5 (g__law_any (m__law_any n))
theorem fd__law_any {P : Program} {w : World} {K : PySem.W.Frag} {mg : Str → Option Value} {base : Heap} {tbs : List Addr} (B : BltG mg) (F__law_draw : Fd P w base ⟨K, mg, tbs⟩ 2 "_law_draw" 2 (m__law_draw)) (F__law_pick : Fd P w base ⟨K, mg, tbs⟩ 3 "_law_pick" 2 (m__law_pick)) (D : DefP K mg "_law_any" s__law_any ["deck", "deep"] (none) []) : ∀ n : Nat, FdK P w base ⟨K, mg, tbs⟩ (n + 4) "_law_any" 2 (m__law_any n) []
  | 0 => fd_no D
  | n + 1 => by
    have R := (fd__law_any (P := P) (w := w) (base := base) (tbs := tbs) B F__law_draw F__law_pick D n).fd
    have nd : (["deck", "deep", "sort", "items", "turn"] : List Str).Nodup := by decide +kernel
    exact fd_ofP (N := ["deck", "deep", "sort", "items", "turn"]) D ⟨rfl, rfl, rfl, by decide +kernel, rfl, by decide +kernel, by decide +kernel⟩ (fun f cdv A outer s H E hcode pl tk hp => by exact (jss_cons (js_set (i := 2) nd (j_fd F__law_draw ⟨pl.room.mono (by first | decide | omega), pl.gd⟩ tk (by rfl) (j_cons (j_var 0) (j_cons (j_if (j_tcmp or_gt (j_var 1) j_int) j_int j_int) j_nil)))) (jss_cons (js_if (j_tcmp or_lt (j_var 2) j_int) (jss_one (js_ret (j_ix (ir_ix (by exact pl.u1)) (j_lst (j_cons j_non (j_cons j_bl (j_cons j_bl j_nil)))) (j_var 2)))) jss_nil) (jss_cons (js_if (j_tcmp or_lt (j_var 2) j_int) (jss_one (js_ret (j_fd F__law_pick ⟨pl.room.mono (by first | decide | omega), pl.gd⟩ tk (by rfl) (j_cons (j_var 0) (j_cons (j_lst (j_cons (j_un ur_neg j_int) (j_cons j_int (j_cons j_int (j_cons j_int (j_cons j_int (j_cons j_int (j_cons j_int (j_cons j_int (j_cons j_int (j_cons (j_op or_add (j_op or_pow j_int j_int) j_int) j_nil))))))))))) j_nil))))) jss_nil) (jss_cons (js_if (j_tcmp or_lt (j_var 2) j_int) (jss_one (js_ret (j_fd F__law_pick ⟨pl.room.mono (by first | decide | omega), pl.gd⟩ tk (by rfl) (j_cons (j_var 0) (j_cons (j_lst (j_cons j_str (j_cons j_str (j_cons j_str (j_cons j_str (j_cons j_str (j_cons j_str (j_cons j_str (j_cons j_str (j_cons j_str (j_cons j_str (j_cons j_str j_nil)))))))))))) j_nil))))) jss_nil) (jss_cons (js_setLc (i := 3) (own := [("turn", 4)]) (by rfl) nd (ji_range (by rfl) B.b_range (j_fd F__law_draw ⟨pl.room.mono (by first | decide | omega), pl.gd⟩ tk (by rfl) (j_cons (j_var 0) (j_cons j_int j_nil)))) (blkOk_by (N := ["deck", "deep", "sort", "items", "turn"]) (sc := defScope s__law_any) (by decide +kernel)) gok_nm (fun _ _ _ _ _ => by exact (g_nm 4 nd (hx := Or.inl rfl) (hf := Or.inr rfl))) (fun _ _ _ _ _ => by exact jts_nil) (fun _ _ _ _ _ => by exact (j_fd R ⟨pl.room.mono (by first | decide | omega), pl.gd⟩ takes0 (by rfl) (j_cons (j_var 0) (j_cons (j_op or_sub (j_var 1) j_int) j_nil))))) (jss_cons (js_if (j_tcmp or_lt (j_var 2) j_int) (jss_one (js_ret (j_var 3))) jss_nil) (jss_one (js_ret (j_if (j_tcmp (or_eq (by exact pl.u64)) (j_var 2) j_int) (j_disp (.cons j_str (j_var 3) .nil)) (j_callTy cl_tuple (by rfl) B.b_tuple (by decide +kernel) (j_cons (j_var 3) j_nil))))))))))))
abbrev s__law_around : Stmt := top 30
def g__law_around : DS := (sRet (eTup (eCons (eTup (eCons (eC (.str "in")) (eCons (eVar 0) eNil))) (eCons (eTup (eCons (eC (.str "in")) (eCons (eVar 1) eNil))) (eCons (eTup (eCons (eC (.str "out")) (eCons (eVar 1) eNil))) (eCons (eTup (eCons (eC (.str "out")) (eCons (eVar 0) eNil))) eNil))))))
def m__law_around : DF := mk 2 2 g__law_around
theorem fd__law_around {P : Program} {w : World} {K : PySem.W.Frag} {mg : Str → Option Value} {base : Heap} {tbs : List Addr} (B : BltG mg) (D : DefP K mg "_law_around" s__law_around ["one", "other"] (none) []) : FdK P w base ⟨K, mg, tbs⟩ 2 "_law_around" 2 m__law_around [] := by
  have nd : (["one", "other"] : List Str).Nodup := by decide +kernel
  exact fd_ofP (N := ["one", "other"]) D ⟨rfl, rfl, rfl, by decide +kernel, rfl, by decide +kernel, by decide +kernel⟩ (fun f cdv A outer s H E hcode pl tk hp => by exact (jss_one (js_ret (j_tup (j_cons (j_tup (j_cons j_str (j_cons (j_var 0) j_nil))) (j_cons (j_tup (j_cons j_str (j_cons (j_var 1) j_nil))) (j_cons (j_tup (j_cons j_str (j_cons (j_var 1) j_nil))) (j_cons (j_tup (j_cons j_str (j_cons (j_var 0) j_nil))) j_nil))))))))
abbrev s__law_one_door : Stmt := top 31
def g__law_one_door : DS := (sSeq (sAsg (gNm 2) (eLst eNil)) (sSeq (sFor (iRange1 (eVar 1)) (gNm 3) (sSeq (sAsg (gNm 4) (eDisp (((eC (.str "ranked")), (eOp opAdd (eOp opAdd (eOp opMul (eLst (eCons (eC (.str "bow")) eNil)) (eVar 3)) (eLst (eCons (eC (.str "-")) eNil))) (eOp opMul (eLst (eCons (eC (.str "stand")) eNil)) (eOp opSub (eOp opSub (eVar 1) (eVar 3)) (eC (.int 1)))))) :: (((eC (.str "level")), (eOp opMul (eLst (eCons (eC (.str "even")) eNil)) (eVar 1))) :: [])))) (sSeq (sAsgH (hTp 2 (hsCons (hSub fSet (eVar 4) (eC (.str "meek"))) (hsCons (hSub fSet (eVar 4) (eC (.str "proud"))) hsNil))) (eTup (eCons (eOp opMul (eLst (eCons (eC (.str "bow")) eNil)) (eVar 1)) (eCons (eOp opMul (eLst (eCons (eC (.str "stand")) eNil)) (eVar 1)) eNil)))) (sSeq (sAsg (gNm 5) (eOp opIx (eVar 4) (eVar 0))) (sSeq (sAsgH (hSub fSet (eVar 5) (eVar 3)) (eC (.str "-"))) (sDrop (eMt "list" mAppend (eVar 2) (eCons (eCall fTuple (eCons (eVar 5) eNil)) eNil)))))))) (sSeq (sAsg (gNm 6) (eCall fTuple (eCons (eLc (iRange1 (eVar 1)) (gNm 3) tYesD (eCall fTuple (eCons (eLc (iRange1 (eVar 1)) (gNm 7) (tV (eOp opNe (eVar 7) (eVar 3))) (eVar 7) [7]) eNil)) [3]) eNil))) (sRet (eTup (eCons (eTup (eCons (eTup (eCons (eCall fTuple (eCons (eVar 2) eNil)) (eCons (eVar 6) eNil))) eNil)) (eCons (eOp opMul (eTup (eCons (eTup (eCons (eTup (eCons (eC (.str "in")) (eCons (eC (.int 0)) eNil))) (eCons (eTup (eCons (eC (.str "out")) (eCons (eC (.int 0)) eNil))) eNil))) eNil)) (eVar 1)) eNil)))))))
def m__law_one_door : DF := mk 2 8 g__law_one_door
theorem fd__law_one_door {P : Program} {w : World} {K : PySem.W.Frag} {mg : Str → Option Value} {base : Heap} {tbs : List Addr} (B : BltG mg) (D : DefP K mg "_law_one_door" s__law_one_door ["name", "hands"] (none) []) : FdK P w base ⟨K, mg, tbs⟩ 2 "_law_one_door" 2 m__law_one_door [] := by
  have nd : (["name", "hands", "rows", "i", "words", "row", "orders", "j"] : List Str).Nodup := by decide +kernel
  exact fd_ofP (N := ["name", "hands", "rows", "i", "words", "row", "orders", "j"]) D ⟨rfl, rfl, rfl, by decide +kernel, rfl, by decide +kernel, by decide +kernel⟩ (fun f cdv A outer s H E hcode pl tk hp => by exact (jss_cons (js_set (i := 2) nd (j_lst j_nil)) (jss_cons (js_for hp (by rfl) (ji_range (by rfl) B.b_range (j_var 1)) (g_nm 3 nd) (jss_cons (js_set (i := 4) nd (j_disp (.cons j_str (j_op or_add (j_op or_add (j_op or_mul (j_lst (j_cons j_str j_nil)) (j_var 3)) (j_lst (j_cons j_str j_nil))) (j_op or_mul (j_lst (j_cons j_str j_nil)) (j_op or_sub (j_op or_sub (j_var 1) (j_var 3)) j_int))) (.cons j_str (j_op or_mul (j_lst (j_cons j_str j_nil)) (j_var 1)) .nil)))) (jss_cons (js_asgH (j_tup (j_cons (j_op or_mul (j_lst (j_cons j_str j_nil)) (j_var 1)) (j_cons (j_op or_mul (j_lst (j_cons j_str j_nil)) (j_var 1)) j_nil))) (h_tp (by rfl) (hs_cons (h_sub (st_set (by exact pl.u1)) (j_var 4) j_str) (hs_cons (h_sub (st_set (by exact pl.u1)) (j_var 4) j_str) hs_nil)))) (jss_cons (js_set (i := 5) nd (j_ix (ir_ix (by exact pl.u1)) (j_var 4) (j_var 0))) (jss_cons (js_asgH j_str (h_sub (st_set (by exact pl.u1)) (j_var 5) (j_var 3))) (jss_one (js_expr (j_mt PySem.F.plainAttrs_list PySem.F.slot_list_append PySem.F.type_list_append mr_append (j_var 2) (j_cons (j_callTy cl_tuple (by rfl) B.b_tuple (by decide +kernel) (j_cons (j_var 5) j_nil)) j_nil))))))))) (jss_cons (js_set (i := 6) nd (j_callTy cl_tuple (by rfl) B.b_tuple (by decide +kernel) (j_cons (j_lc (own := [("i", 3)]) (by rfl) nd (ji_range (by rfl) B.b_range (j_var 1)) (blkOk_by (N := ["name", "hands", "rows", "i", "words", "row", "orders", "j"]) (sc := defScope s__law_one_door) (by decide +kernel)) gok_nm (fun _ _ _ _ _ => by exact (g_nm 3 nd (hx := Or.inr rfl) (hf := Or.inl rfl))) (fun _ _ _ _ _ => by exact jts_nil) (fun _ _ _ _ _ => by exact (j_callTy cl_tuple (by rfl) B.b_tuple (by decide +kernel) (j_cons (j_lc (own := [("j", 7)]) (by rfl) nd (ji_range (by rfl) B.b_range (j_var 1)) (blkOk_by (N := ["name", "hands", "rows", "i", "words", "row", "orders", "j"]) (by rfl)) gok_nm (fun _ _ _ _ _ => by exact (g_nm 7 nd (hx := Or.inl rfl) (hf := Or.inr rfl))) (fun _ _ _ _ _ => by exact (jts_one (j_tcmp (or_ne (by exact pl.u64)) (j_var 7) (j_var 3)))) (fun _ _ _ _ _ => by exact (j_var 7))) j_nil)))) j_nil))) (jss_one (js_ret (j_tup (j_cons (j_tup (j_cons (j_tup (j_cons (j_callTy cl_tuple (by rfl) B.b_tuple (by decide +kernel) (j_cons (j_var 2) j_nil)) (j_cons (j_var 6) j_nil))) j_nil)) (j_cons (j_op or_mul (j_tup (j_cons (j_tup (j_cons (j_tup (j_cons j_str (j_cons j_int j_nil))) (j_cons (j_tup (j_cons j_str (j_cons j_int j_nil))) j_nil))) j_nil)) (j_var 1)) j_nil)))))))))
abbrev s__law_known : Stmt := top 32
def g__law_known : DS := (sSeq (sIf (tV (eOp opIn (eVar 0) (eTup (eCons (eC (.str "ranked")) (eCons (eC (.str "level")) (eCons (eC (.str "meek")) (eCons (eC (.str "proud")) eNil))))))) (sRet (eCallF (m__law_one_door) (eCons (eVar 0) (eCons (eVar 1) eNil)))) sNx) (sSeq (sIf (tV (eOp opEq (eVar 0) (eC (.str "row")))) (sRet (eTup (eCons (eTup (eCons (eC .non) (eCons (eC .non) eNil))) (eCons (eOp opMul (eTup (eCons (eCallF (m__law_around) (eCons (eC (.int 0)) (eCons (eC (.int 1)) eNil))) eNil)) (eVar 1)) eNil)))) sNx) (sSeq (sIf (tV (eOp opEq (eVar 0) (eC (.str "crossed")))) (sSeq (sAsg (gNm 2) (eOp opMul (eLst (eCons (eCallF (m__law_around) (eCons (eC (.int 0)) (eCons (eC (.int 1)) eNil))) (eCons (eCallF (m__law_around) (eCons (eC (.int 1)) (eCons (eC (.int 0)) eNil))) eNil))) (eC (.int 3)))) (sRet (eTup (eCons (eTup (eCons (eC .non) (eCons (eC .non) eNil))) (eCons (eCall fTuple (eCons (eSl opSl (eVar 2) oNone (oSome (eVar 1))) eNil)) eNil))))) sNx) (sSeq (sAsg (gNm 3) (eLc (iRange1 (eVar 1)) (gNm 4) tYesD (eCallF (m__law_around) (eCons (eVar 4) (eCons (eOp opMod (eCall fInt (eCons (eOp opAdd (eVar 4) (eC (.int 1))) eNil)) (eVar 1)) eNil))) [4])) (sSeq (sIf (tV (eOp opEq (eVar 0) (eC (.str "handed")))) (sAsgH (hSub fSet (eVar 3) (eUn opNeg (eC (.int 1)))) (eCallF (m__law_around) (eCons (eC (.int 0)) (eCons (eOp opSub (eVar 1) (eC (.int 1))) eNil)))) sNx) (sSeq (sIf (tV (eOp opEq (eVar 0) (eC (.str "gated")))) (sAsg (gNm 3) (eLc (iSeq (eVar 3)) (gNm 5) tYesD (eOp opAdd (eOp opAdd (eTup (eCons (eTup (eCons (eC (.str "in")) (eCons (eVar 1) eNil))) eNil)) (eVar 5)) (eTup (eCons (eTup (eCons (eC (.str "out")) (eCons (eVar 1) eNil))) eNil))) [5])) sNx) (sRet (eTup (eCons (eOp opMul (eTup (eCons (eC .non) eNil)) (eOp opAdd (eVar 1) (eCall fInt (eCons (eOp opEq (eVar 0) (eC (.str "gated"))) eNil)))) (eCons (eCall fTuple (eCons (eVar 3) eNil)) eNil))))))))))
def m__law_known : DF := mk 2 6 g__law_known
theorem fd__law_known {P : Program} {w : World} {K : PySem.W.Frag} {mg : Str → Option Value} {base : Heap} {tbs : List Addr} (B : BltG mg) (F__law_one_door : Fd P w base ⟨K, mg, tbs⟩ 2 "_law_one_door" 2 (m__law_one_door)) (F__law_around : Fd P w base ⟨K, mg, tbs⟩ 2 "_law_around" 2 (m__law_around)) (D : DefP K mg "_law_known" s__law_known ["name", "hands"] (none) []) : FdK P w base ⟨K, mg, tbs⟩ 3 "_law_known" 2 m__law_known [] := by
  have nd : (["name", "hands", "rows", "ways", "hand", "way"] : List Str).Nodup := by decide +kernel
  exact fd_ofP (N := ["name", "hands", "rows", "ways", "hand", "way"]) D ⟨rfl, rfl, rfl, by decide +kernel, rfl, by decide +kernel, by decide +kernel⟩ (fun f cdv A outer s H E hcode pl tk hp => by exact (jss_cons (js_if (j_tcmp (or_in (by exact pl.u65)) (j_var 0) (j_tup (j_cons j_str (j_cons j_str (j_cons j_str (j_cons j_str j_nil)))))) (jss_one (js_ret (j_fd F__law_one_door ⟨pl.room.mono (by first | decide | omega), pl.gd⟩ tk (by rfl) (j_cons (j_var 0) (j_cons (j_var 1) j_nil))))) jss_nil) (jss_cons (js_if (j_tcmp (or_eq (by exact pl.u64)) (j_var 0) j_str) (jss_one (js_ret (j_tup (j_cons (j_tup (j_cons j_non (j_cons j_non j_nil))) (j_cons (j_op or_mul (j_tup (j_cons (j_fd F__law_around ⟨pl.room.mono (by first | decide | omega), pl.gd⟩ tk (by rfl) (j_cons j_int (j_cons j_int j_nil))) j_nil)) (j_var 1)) j_nil))))) jss_nil) (jss_cons (js_if (j_tcmp (or_eq (by exact pl.u64)) (j_var 0) j_str) (jss_cons (js_set (i := 2) nd (j_op or_mul (j_lst (j_cons (j_fd F__law_around ⟨pl.room.mono (by first | decide | omega), pl.gd⟩ tk (by rfl) (j_cons j_int (j_cons j_int j_nil))) (j_cons (j_fd F__law_around ⟨pl.room.mono (by first | decide | omega), pl.gd⟩ tk (by rfl) (j_cons j_int (j_cons j_int j_nil))) j_nil))) j_int)) (jss_one (js_ret (j_tup (j_cons (j_tup (j_cons j_non (j_cons j_non j_nil))) (j_cons (j_callTy cl_tuple (by rfl) B.b_tuple (by decide +kernel) (j_cons (j_sl sr_sl (j_var 2) jo_none (jo_some (j_var 1))) j_nil)) j_nil)))))) jss_nil) (jss_cons (js_setLc (i := 3) (own := [("hand", 4)]) (by rfl) nd (ji_range (by rfl) B.b_range (j_var 1)) (blkOk_by (N := ["name", "hands", "rows", "ways", "hand", "way"]) (sc := defScope s__law_known) (by decide +kernel)) gok_nm (fun _ _ _ _ _ => by exact (g_nm 4 nd (hx := Or.inl rfl) (hf := Or.inr rfl))) (fun _ _ _ _ _ => by exact jts_nil) (fun _ _ _ _ _ => by exact (j_fd F__law_around ⟨pl.room.mono (by first | decide | omega), pl.gd⟩ takes0 (by rfl) (j_cons (j_var 4) (j_cons (j_op or_mod (j_callTy cl_int (by rfl) B.b_int (by decide +kernel) (j_cons (j_op or_add (j_var 4) j_int) j_nil)) (j_var 1)) j_nil))))) (jss_cons (js_if (j_tcmp (or_eq (by exact pl.u64)) (j_var 0) j_str) (jss_one (js_asgH (j_fd F__law_around ⟨pl.room.mono (by first | decide | omega), pl.gd⟩ tk (by rfl) (j_cons j_int (j_cons (j_op or_sub (j_var 1) j_int) j_nil))) (h_sub (st_set (by exact pl.u1)) (j_var 3) (j_un ur_neg j_int)))) jss_nil) (jss_cons (js_if (j_tcmp (or_eq (by exact pl.u64)) (j_var 0) j_str) (jss_one (js_setLc (i := 3) (own := [("way", 5)]) (by rfl) nd (ji_seq (j_var 3)) (blkOk_by (N := ["name", "hands", "rows", "ways", "hand", "way"]) (sc := defScope s__law_known) (by decide +kernel)) gok_nm (fun _ _ _ _ _ => by exact (g_nm 5 nd (hx := Or.inl rfl) (hf := Or.inr rfl))) (fun _ _ _ _ _ => by exact jts_nil) (fun _ _ _ _ _ => by exact (j_op or_add (j_op or_add (j_tup (j_cons (j_tup (j_cons j_str (j_cons (j_var 1) j_nil))) j_nil)) (j_var 5)) (j_tup (j_cons (j_tup (j_cons j_str (j_cons (j_var 1) j_nil))) j_nil)))))) jss_nil) (jss_one (js_ret (j_tup (j_cons (j_op or_mul (j_tup (j_cons j_non j_nil)) (j_op or_add (j_var 1) (j_callTy cl_int (by rfl) B.b_int (by decide +kernel) (j_cons (j_cmp (or_eq (by exact pl.u64)) (j_var 0) j_str) j_nil)))) (j_cons (j_callTy cl_tuple (by rfl) B.b_tuple (by decide +kernel) (j_cons (j_var 3) j_nil)) j_nil))))))))))))
abbrev s__law_heard : Stmt := top 33
def g__law_heard : DS := (sTry 3 [("WayError", false), ("Unfit", true)] (sRet (eTup (eCons (eC (.str "told")) (eCons (eIf (tTru (eVar 2)) (eCallK (m_known) [1, 0] (eCons (eVar 1) (eCons (eVar 0) eNil))) (eCallF (m_known) (eCons (eVar 0) (eCons (eVar 1) eNil)))) eNil)))) (xRetT (qCons (qC (.str "unfit")) (qCons (qIsi [("WayError", true), ("Unfit", true)]) qNil))))
def m__law_heard : DF := mk 3 4 g__law_heard
theorem fd__law_heard {P : Program} {w : World} {K : PySem.W.Frag} {mg : Str → Option Value} {base : Heap} {tbs : List Addr} (B : BltG mg) (F_known : Fd P w base ⟨K, mg, tbs⟩ 25 "known" 2 (m_known)) (K_known : Kd P w base ⟨K, mg, tbs⟩ 25 "known" 2 (m_known) ["many", "name"] [1, 0]) (T_Unfit : ExmTab K mg "Unfit" [("WayError", false), ("Unfit", true)]) (I_WayError : IsiTab K mg "WayError" [("WayError", true), ("Unfit", true)]) (D : DefP K mg "_law_heard" s__law_heard ["name", "many", "is_named"] (none) []) : FdK P w base ⟨K, mg, tbs⟩ 26 "_law_heard" 3 m__law_heard [] := by
  have nd : (["name", "many", "is_named", "slip"] : List Str).Nodup := by decide +kernel
  exact fd_ofP (N := ["name", "many", "is_named", "slip"]) D ⟨rfl, rfl, rfl, by decide +kernel, rfl, by decide +kernel, by decide +kernel⟩ (fun f cdv A outer s H E hcode pl tk hp => by exact (jss_one (js_try_as (i := 3) T_Unfit (by rfl) rfl rfl nd tk (fun _ _ _ tk hp => by exact (jss_one (js_ret (j_tup (j_cons j_str (j_cons (j_if (j_tru (j_var 2)) (j_kd (ks := ["many", "name"]) K_known ⟨pl.room.mono (by first | decide | omega), pl.gd⟩ tk (by rfl) (jk_cons (j_var 1) (jk_cons (j_var 0) jk_nil))) (j_fd F_known ⟨pl.room.mono (by first | decide | omega), pl.gd⟩ tk (by rfl) (j_cons (j_var 0) (j_cons (j_var 1) j_nil)))) j_nil)))))) (fun _ _ _ _ _ hz hf => by exact (x_retT (q_cons q_str (q_cons (q_isi I_WayError hz hf B.b_isinstance) q_nil)))))))
abbrev s_law : Stmt := top 34
def g_law : DS := (sSeq (sAsg (gNm 1) (eCallF (m__law_deck) (eCons (eVar 0) eNil))) (sSeq (sAsg (gNm 2) (eLst (eCons (eC (.str "crossed")) (eCons (eC (.str "gated")) (eCons (eC (.str "handed")) (eCons (eC (.str "level")) (eCons (eC (.str "meek")) (eCons (eC (.str "proud")) (eCons (eC (.str "ranked")) (eCons (eC (.str "row")) (eCons (eC (.str "table")) eNil))))))))))) (sSeq (sIf (tNotD (tTru (eCallF (m__law_same 8) (eCons (eCallF (m_known_names) eNil) (eCons (eCall fTuple (eCons (eVar 2) eNil)) eNil))))) (sRet (eC (.bl false))) sNx) (sSeq (sAsg (gNm 3) (eLst eNil)) (sSeq (sFor (iSeq (eVar 2)) (gNm 4) (sDrop (eMt "list" mExtend (eVar 3) (eCons (eLc (iSeq (eTup (eCons (eC (.int 2)) (eCons (eC (.int 3)) (eCons (eC (.int 4)) (eCons (eC (.int 5)) eNil)))))) (gNm 6) tYesD (eTup (eCons (eVar 4) (eCons (eVar 6) eNil))) [6]) eNil)))) (sSeq (sFor (iRange1 (eC (.int 14))) (gNm 5) (sSeq (sAsg (gNm 4) (eCallF (m__law_pick) (eCons (eVar 1) (eCons (eOp opAdd (eVar 2) (eLst (eCons (eC (.str "Table")) (eCons (eC (.str "")) (eCons (eC (.str "tables")) (eCons (eC (.str "none")) (eCons (eC .non) (eCons (eC (.int 3)) (eCons (eLst (eCons (eC (.str "table")) eNil)) (eCons (eTup (eCons (eC (.str "table")) eNil)) (eCons (eC (.bl true)) eNil))))))))))) eNil)))) (sSeq (sAsg (gNm 4) (eIf (tV (eOp opEq (eCallF (m__law_draw) (eCons (eVar 1) (eCons (eC (.int 8)) eNil))) (eC (.int 0)))) (eCallF (m__law_any 8) (eCons (eVar 1) (eCons (eC (.int 2)) eNil))) (eVar 4))) (sSeq (sAsg (gNm 6) (eCallF (m__law_pick) (eCons (eVar 1) (eCons (eLst (eCons (eC (.int 2)) (eCons (eC (.int 5)) (eCons (eC (.int 1)) (eCons (eC (.int 6)) (eCons (eC (.int 0)) (eCons (eUn opNeg (eC (.int 2))) (eCons (eOp opPow (eC (.int 10)) (eC (.int 18))) (eCons (eC (.bl true)) (eCons (eC .non) (eCons (eC (.str "2")) (eCons (eLst (eCons (eC (.int 2)) eNil)) (eCons (eTup (eCons (eC (.int 2)) eNil)) eNil))))))))))))) eNil)))) (sDrop (eMt "list" mAppend (eVar 3) (eCons (eTup (eCons (eVar 4) (eCons (eIf (tV (eOp opEq (eCallF (m__law_draw) (eCons (eVar 1) (eCons (eC (.int 8)) eNil))) (eC (.int 0)))) (eCallF (m__law_any 8) (eCons (eVar 1) (eCons (eC (.int 2)) eNil))) (eVar 6)) eNil))) eNil))))))) (sSeq (sFor (iEnumP (eVar 3)) (gTp 2 (gsCons (gNm 5) (gsCons (gNm 7) gsNil))) (sSeq (sAsg (gTp 2 (gsCons (gNm 4) (gsCons (gNm 6) gsNil))) (eVar 7)) (sSeq (sAsg (gNm 8) (eAnd (eIsi "str" (eVar 4)) (eAnd (eOp opIn (eVar 4) (eVar 2)) (eCallF (m__law_whole) (eCons (eVar 6) (eCons (eC (.int 2)) (eCons (eC (.int 5)) eNil))))))) (sSeq (sPar 9 10 (eCons (eIf (tTru (eVar 8)) (eTup (eCons (eC (.str "told")) (eCons (eCallF (m__law_known) (eCons (eVar 4) (eCons (eVar 6) eNil))) eNil))) (eTup (eCons (eC (.str "unfit")) (eCons (eC (.bl true)) eNil)))) (eCons (eCall fRepr (eCons (eVar 7) eNil)) eNil))) (sSeq (sIf (tNotD (tTru (eCallF (m__law_same 8) (eCons (eCallF (m__law_heard) (eCons (eVar 4) (eCons (eVar 6) (eCons (eOp opEq (eCallF (m__law_draw) (eCons (eVar 1) (eCons (eC (.int 3)) eNil))) (eC (.int 0))) eNil)))) (eCons (eVar 9) eNil))))) (sRet (eC (.bl false))) sNx) (sIf (tOrD (tNotD (tTru (eCallF (m__law_same 8) (eCons (eCallF (m__law_heard) (eCons (eVar 4) (eCons (eVar 6) (eCons (eC (.bl false)) eNil)))) (eCons (eVar 9) eNil))))) (tV (eOp opNe (eCall fRepr (eCons (eVar 7) eNil)) (eVar 10)))) (sRet (eC (.bl false))) sNx)))))) (sRet (eCallF (m__law_same 8) (eCons (eCallF (m_known_names) eNil) (eCons (eCall fTuple (eCons (eVar 2) eNil)) eNil)))))))))))
def m_law : DF := mk 1 11 g_law
theorem fd_law {P : Program} {w : World} {K : PySem.W.Frag} {mg : Str → Option Value} {base : Heap} {tbs : List Addr} (B : BltG mg) (F__law_deck : Fd P w base ⟨K, mg, tbs⟩ 2 "_law_deck" 1 (m__law_deck)) (F__law_same : Fd P w base ⟨K, mg, tbs⟩ 10 "_law_same" 2 (m__law_same 8)) (F_known_names : Fd P w base ⟨K, mg, tbs⟩ 2 "known_names" 0 (m_known_names)) (F__law_pick : Fd P w base ⟨K, mg, tbs⟩ 3 "_law_pick" 2 (m__law_pick)) (F__law_draw : Fd P w base ⟨K, mg, tbs⟩ 2 "_law_draw" 2 (m__law_draw)) (F__law_any : Fd P w base ⟨K, mg, tbs⟩ 12 "_law_any" 2 (m__law_any 8)) (F__law_whole : Fd P w base ⟨K, mg, tbs⟩ 2 "_law_whole" 3 (m__law_whole)) (F__law_known : Fd P w base ⟨K, mg, tbs⟩ 3 "_law_known" 2 (m__law_known)) (F__law_heard : Fd P w base ⟨K, mg, tbs⟩ 26 "_law_heard" 3 (m__law_heard)) (sys : ∃ o, base.get? sysModules = some o) (D : DefP K mg "law" s_law ["script"] (none) []) : FdK P w base ⟨K, mg, tbs⟩ 27 "law" 1 m_law [] := by
  have nd : (["script", "deck", "names", "pairs", "name", "turn", "many", "pair", "is_known", "due", "kept"] : List Str).Nodup := by decide +kernel
  exact fd_ofP (N := ["script", "deck", "names", "pairs", "name", "turn", "many", "pair", "is_known", "due", "kept"]) D ⟨rfl, rfl, rfl, by decide +kernel, rfl, by decide +kernel, by decide +kernel⟩ (fun f cdv A outer s H E hcode pl tk hp => by exact (jss_cons (js_set (i := 1) nd (j_fd F__law_deck ⟨pl.room.mono (by first | decide | omega), pl.gd⟩ tk (by rfl) (j_cons (j_var 0) j_nil))) (jss_cons (js_set (i := 2) nd (j_lst (j_cons j_str (j_cons j_str (j_cons j_str (j_cons j_str (j_cons j_str (j_cons j_str (j_cons j_str (j_cons j_str (j_cons j_str j_nil))))))))))) (jss_cons (js_if (j_not (j_tru (j_fd F__law_same ⟨pl.room.mono (by first | decide | omega), pl.gd⟩ tk (by rfl) (j_cons (j_fd0 F_known_names ⟨pl.room.mono (by first | decide | omega), pl.gd⟩ tk (by rfl)) (j_cons (j_callTy cl_tuple (by rfl) B.b_tuple (by decide +kernel) (j_cons (j_var 2) j_nil)) j_nil))))) (jss_one (js_ret j_bl)) jss_nil) (jss_cons (js_set (i := 3) nd (j_lst j_nil)) (jss_cons (js_for hp (by rfl) (ji_seq (j_var 2)) (g_nm 4 nd) (jss_one (js_expr (j_mt PySem.F.plainAttrs_list PySem.F.slot_list_extend PySem.F.type_list_extend mr_extend (j_var 3) (j_cons (j_lc (own := [("many", 6)]) (by rfl) nd (ji_seq (j_tup (j_cons j_int (j_cons j_int (j_cons j_int (j_cons j_int j_nil)))))) (blkOk_by (N := ["script", "deck", "names", "pairs", "name", "turn", "many", "pair", "is_known", "due", "kept"]) (sc := defScope s_law) (by decide +kernel)) gok_nm (fun _ _ _ _ _ => by exact (g_nm 6 nd (hx := Or.inl rfl) (hf := Or.inr rfl))) (fun _ _ _ _ _ => by exact jts_nil) (fun _ _ _ _ _ => by exact (j_tup (j_cons (j_var 4) (j_cons (j_var 6) j_nil))))) j_nil))))) (jss_cons (js_for hp (by rfl) (ji_range (by rfl) B.b_range j_int) (g_nm 5 nd) (jss_cons (js_set (i := 4) nd (j_fd F__law_pick ⟨pl.room.mono (by first | decide | omega), pl.gd⟩ tk (by rfl) (j_cons (j_var 1) (j_cons (j_op or_add (j_var 2) (j_lst (j_cons j_str (j_cons j_str (j_cons j_str (j_cons j_str (j_cons j_non (j_cons j_int (j_cons (j_lst (j_cons j_str j_nil)) (j_cons (j_tup (j_cons j_str j_nil)) (j_cons j_bl j_nil))))))))))) j_nil)))) (jss_cons (js_set (i := 4) nd (j_if (j_tcmp (or_eq (by exact pl.u64)) (j_fd F__law_draw ⟨pl.room.mono (by first | decide | omega), pl.gd⟩ tk (by rfl) (j_cons (j_var 1) (j_cons j_int j_nil))) j_int) (j_fd F__law_any ⟨pl.room.mono (by first | decide | omega), pl.gd⟩ tk (by rfl) (j_cons (j_var 1) (j_cons j_int j_nil))) (j_var 4))) (jss_cons (js_set (i := 6) nd (j_fd F__law_pick ⟨pl.room.mono (by first | decide | omega), pl.gd⟩ tk (by rfl) (j_cons (j_var 1) (j_cons (j_lst (j_cons j_int (j_cons j_int (j_cons j_int (j_cons j_int (j_cons j_int (j_cons (j_un ur_neg j_int) (j_cons (j_op or_pow j_int j_int) (j_cons j_bl (j_cons j_non (j_cons j_str (j_cons (j_lst (j_cons j_int j_nil)) (j_cons (j_tup (j_cons j_int j_nil)) j_nil))))))))))))) j_nil)))) (jss_one (js_expr (j_mt PySem.F.plainAttrs_list PySem.F.slot_list_append PySem.F.type_list_append mr_append (j_var 3) (j_cons (j_tup (j_cons (j_var 4) (j_cons (j_if (j_tcmp (or_eq (by exact pl.u64)) (j_fd F__law_draw ⟨pl.room.mono (by first | decide | omega), pl.gd⟩ tk (by rfl) (j_cons (j_var 1) (j_cons j_int j_nil))) j_int) (j_fd F__law_any ⟨pl.room.mono (by first | decide | omega), pl.gd⟩ tk (by rfl) (j_cons (j_var 1) (j_cons j_int j_nil))) (j_var 6)) j_nil))) j_nil)))))))) (jss_cons (js_for hp (by rfl) (ji_enum (by rfl) B.b_enumerate (j_var 3)) (g_tp (by rfl) (gs_cons (g_nm 5 nd) (gs_cons (g_nm 7 nd) gs_nil))) (jss_cons (js_asg (j_var 7) (g_tp (by rfl) (gs_cons (g_nm 4 nd) (gs_cons (g_nm 6 nd) gs_nil)))) (jss_cons (js_set (i := 8) nd (j_andV (j_isi (n := "str") (by simp) (j_var 4) B.b_isinstance B.b_str (by decide +kernel)) (j_andV (j_cmp (or_in (by exact pl.u65)) (j_var 4) (j_var 2)) (j_one (j_fd F__law_whole ⟨pl.room.mono (by first | decide | omega), pl.gd⟩ tk (by rfl) (j_cons (j_var 6) (j_cons j_int (j_cons j_int j_nil)))))))) (jss_cons (js_par (i := 9) (j := 10) (by rfl) nd (j_cons (j_if (j_tru (j_var 8)) (j_tup (j_cons j_str (j_cons (j_fd F__law_known ⟨pl.room.mono (by first | decide | omega), pl.gd⟩ tk (by rfl) (j_cons (j_var 4) (j_cons (j_var 6) j_nil))) j_nil))) (j_tup (j_cons j_str (j_cons j_bl j_nil)))) (j_cons (j_callB (cl_repr (by exact pl.gd) (by exact pl.u102) sys) (by rfl) B.b_repr (by decide +kernel) (j_cons (j_var 7) j_nil)) j_nil))) (jss_cons (js_if (j_not (j_tru (j_fd F__law_same ⟨pl.room.mono (by first | decide | omega), pl.gd⟩ tk (by rfl) (j_cons (j_fd F__law_heard ⟨pl.room.mono (by first | decide | omega), pl.gd⟩ tk (by rfl) (j_cons (j_var 4) (j_cons (j_var 6) (j_cons (j_cmp (or_eq (by exact pl.u64)) (j_fd F__law_draw ⟨pl.room.mono (by first | decide | omega), pl.gd⟩ tk (by rfl) (j_cons (j_var 1) (j_cons j_int j_nil))) j_int) j_nil)))) (j_cons (j_var 9) j_nil))))) (jss_one (js_ret j_bl)) jss_nil) (jss_one (js_if (j_wt (j_or (j_not (j_tru (j_fd F__law_same ⟨pl.room.mono (by first | decide | omega), pl.gd⟩ tk (by rfl) (j_cons (j_fd F__law_heard ⟨pl.room.mono (by first | decide | omega), pl.gd⟩ tk (by rfl) (j_cons (j_var 4) (j_cons (j_var 6) (j_cons j_bl j_nil)))) (j_cons (j_var 9) j_nil))))) (j_or1 (j_tcmp (or_ne (by exact pl.u64)) (j_callB (cl_repr (by exact pl.gd) (by exact pl.u102) sys) (by rfl) B.b_repr (by decide +kernel) (j_cons (j_var 7) j_nil)) (j_var 10))))) (jss_one (js_ret j_bl)) jss_nil))))))) (jss_one (js_ret (j_fd F__law_same ⟨pl.room.mono (by first | decide | omega), pl.gd⟩ tk (by rfl) (j_cons (j_fd0 F_known_names ⟨pl.room.mono (by first | decide | omega), pl.gd⟩ tk (by rfl)) (j_cons (j_callTy cl_tuple (by rfl) B.b_tuple (by decide +kernel) (j_cons (j_var 2) j_nil)) j_nil)))))))))))))
end Dn
namespace Dn
open PySem PySem.Spec PyProof.Rows L2 PySem.SeqAt

theorem draw_small {d : Nat} {n : Int} {h : PH} (hn : n < 2) : m__law_draw [.ref d, .int n] h = .ok (.int 0) h := by
  refine (mk_at (show [PV.ref d, PV.int n].length = 2 from rfl)).trans ?_
  have e : runB g__law_draw 5 [.ref d, .int n] h = .ok (.int 0) h := by
    simp [runB, args0, g__law_draw, sSeq, sIf, tV, eOp, eVar, eC, opLt, cmpI, Out.of, Out.then, sRet, hn]
  rw [e]
  exact gcN_len rfl
/-- the turns after the great numbers -/
def seal1 (a t : Int) : Int := (a + t * 2654435761).fmod 4294967291
def seal2 (a t : Int) : Int := (seal1 a t * seal1 a t + t * 362437 + 5).fmod 4294967279
def seal3 (a t n : Int) : Int := (((seal2 a t * seal2 a t + seal1 a t).fmod 4294967231).fdiv 4096).fmod n
def dnev_1 := And.intro @OutS.seq_nx (And.intro @OutS.seq_rt (And.intro @OutS.seq_bk (And.intro @OutS.seq_ct (And.intro @OutS.seq_err (And.intro @Out.bind_ok (And.intro @Out.bind_err (And.intro @Out.bind_no (And.intro @Out.then_ok' (And.intro @Out.then_err' (And.intro @Out.of_some' (And.intro @eC_ap (And.intro @eVar_ap (And.intro @varO_some (And.intro @eOp_ap (And.intro @eUn_ap (And.intro @eCall_ap (And.intro @eCallF_ap (And.intro @eNil_ap (And.intro @eCons_ap (And.intro @eTup_ap (And.intro @eLst_ap (And.intro @lstO_nil (And.intro @blO_bl (And.intro @tV_ap (And.intro @iteO_true (And.intro @iteO_false (And.intro @tAndD_ap (And.intro @tOrD_ap (And.intro @tNotD_ap (And.intro @eIf_ap (And.intro @tYesD_ap (And.intro @sNx_ap (And.intro @sSeq_ap (And.intro @sDrop_ap (And.intro @sRet_ap (And.intro @asgO_some (And.intro @sAsg_ap (And.intro @gNm_ap (And.intro @hO_some (And.intro @sAsgH_ap (And.intro @opLt_ap (And.intro @opLe_ap (And.intro @opGt_ap (And.intro @opGe_ap (And.intro @opAdd_ap (And.intro @opSub_ap (And.intro @opIx_ref (And.intro @ixO_lst (And.intro @ixO_str (And.intro @opIx_tup (And.intro @map_some' (@fInt_ap))))))))))))))))))))))))))))))))))))))))))))))))))))
def dnif_1 := @sIf_ap
theorem draw_turn {d g : Nat} {a t n : Int} {w : Bool} {h : PH} (D : Deck d g [] a t w h) (hn : ¬ n < 2) :
    m__law_draw [.ref d, .int n] h = .ok (.int (seal3 a (t + 1) n)) (h.set d (.dK (deckP (.ref g) (.int a) (.int (t + 1)) w))) := by
  refine (mk_at (show [PV.ref d, PV.int n].length = 2 from rfl)).trans ?_
  have ld : d < h.length := (List.getElem?_eq_some_iff.mp D.dic).1
  have lg : g < h.length := (List.getElem?_eq_some_iff.mp D.gre).1
  have e1 : (h ++ [MO.lst []])[d]? = h[d]? := List.getElem?_append_left ld
  have e2 : (h ++ [MO.lst []])[g]? = h[g]? := List.getElem?_append_left lg
  have e3 : (h ++ [MO.lst []])[h.length]? = some (MO.lst []) := by simp
  have e : runB g__law_draw 5 [.ref d, .int n] h = .ok (.int (seal3 a (t + 1) n)) ((h ++ [MO.lst []]).set d (.dK (deckP (.ref g) (.int a) (.int (t + 1)) w))) := by
    have hg := D.gre
    have hd := D.dic
    have a0 : args0 5 [PV.ref d, PV.int n] = [some (.ref d), some (.int n), none, none, none] := rfl
    have hne := ne_nil (h := h ++ [MO.lst []]) (e2.trans hg) e3
    have dn : decide (List.map PV.int [] ≠ []) = false := rfl
    rw [dn] at hne
    have hd2 := e1.trans hd
    have ld2 : d < (h ++ [MO.lst []]).length := by simp; omega
    have hd3 : ((h ++ [MO.lst []]).set d (.dK (deckP (.ref g) (.int a) (.int (t + 1)) w)))[d]? = some (.dK (deckP (.ref g) (.int a) (.int (t + 1)) w)) := List.getElem?_set_self ld2
    have m1 : ∀ (i : Int) (h : PH), opMul (.int i) (.int 2654435761) h = some (.int (i * 2654435761), h) := fun _ _ => opMul_r rfl
    have m2 : ∀ (i : Int) (h : PH), opMul (.int i) (.int 362437) h = some (.int (i * 362437), h) := fun _ _ => opMul_r rfl
    have r1 : ∀ (i : Int) (h : PH), opMod (.int i) (.int 4294967291) h = some (.int (i.fmod 4294967291), h) := fun _ _ => opMod_ap (by decide)
    have r2 : ∀ (i : Int) (h : PH), opMod (.int i) (.int 4294967279) h = some (.int (i.fmod 4294967279), h) := fun _ _ => opMod_ap (by decide)
    have r3 : ∀ (i : Int) (h : PH), opMod (.int i) (.int 4294967231) h = some (.int (i.fmod 4294967231), h) := fun _ _ => opMod_ap (by decide)
    have r4 : ∀ (i : Int) (h : PH), opFdiv (.int i) (.int 4096) h = some (.int (i.fdiv 4096), h) := fun _ _ => opFdiv_ap (by decide) (by decide)
    have r5 : ∀ (i : Int) (h : PH), opMod (.int i) (.int n) h = some (.int (i.fmod n), h) := fun _ _ => opMod_ap (by omega)
    have s1 : ∀ (i : Int) (h : PH), opMul (.int (i.fmod 4294967291)) (.int (i.fmod 4294967291)) h = some (.int (i.fmod 4294967291 * i.fmod 4294967291), h) := fun i _ => opMul_r (smallB_of (by have := fm i (b := 4294967291) (by decide); omega) (by have := fm i (b := 4294967291) (by decide); omega))
    have s2 : ∀ (i : Int) (h : PH), opMul (.int (i.fmod 4294967279)) (.int (i.fmod 4294967279)) h = some (.int (i.fmod 4294967279 * i.fmod 4294967279), h) := fun i _ => opMul_r (smallB_of (by have := fm i (b := 4294967279) (by decide); omega) (by have := fm i (b := 4294967279) (by decide); omega))
    have st : ∀ (v : PV), fSet (.ref d) (.str "turn") v (h ++ [MO.lst []]) = some ((h ++ [MO.lst []]).set d (.dK (putG (deckP (.ref g) (.int a) (.int t) w) (.inr "turn") v))) := fun v => by
      unfold fSet
      dsimp only
      rw [hd2]
      cases w <;> rfl
    unfold runB
    rw [a0]
    simp only [dnev_1, dnif_1, g__law_draw, List.getElem?_cons_zero, List.getElem?_cons_succ, decide_eq_false hn, hd, dk_great, dk_seal, dk_turn, hne, hd2, hSub, st, dk_put, hd3, m1, m2, r1, r2, r3, r4, r5, s1, s2, setP, List.set_cons_zero, List.set_cons_succ]
    rfl
  rw [e]
  have lt : ((h ++ [MO.lst []]).set d (.dK (deckP (.ref g) (.int a) (.int (t + 1)) w))).take h.length = h.set d (.dK (deckP (.ref g) (.int a) (.int (t + 1)) w)) := by
    rw [List.take_set, List.take_left']
    rfl
  have z := gcN_cut (h := h) (h' := (h ++ [MO.lst []]).set d (.dK (deckP (.ref g) (.int a) (.int (t + 1)) w))) (v := .int (seal3 a (t + 1) n)) (by simp) rfl (by
    rw [lt]
    exact Cl.set (lowr_deck lg) d D.cl)
  rw [z, lt]
theorem Deck.turn {d g : Nat} {gs : List Int} {a t u : Int} {w : Bool} {h : PH} (D : Deck d g gs a t w h) : Deck d g gs a u w (h.set d (.dK (deckP (.ref g) (.int a) (.int u) w))) := by
  have ld : d < h.length := (List.getElem?_eq_some_iff.mp D.dic).1
  have lg : g < h.length := (List.getElem?_eq_some_iff.mp D.gre).1
  exact ⟨List.getElem?_set_self ld, by rw [List.getElem?_set_ne D.ne]; exact D.gre, D.pos, D.few, by rw [List.length_set]; exact Cl.set (lowr_deck lg) d D.cl⟩
end Dn
namespace Dn
open PySem PySem.Spec PyProof.Rows L2 PySem.SeqAt
theorem eMt_ap (T : String) (f : FM) (o : DE) (as : DA) (s : Sl) (h : PH) : eMt T f o as s h = (o s h).bind fun x h => iteO (decide (kindP h x = some T)) ((as s h).bind fun xs h => Out.of (f x xs h)) .no := by
  unfold eMt
  congr 1
  funext x h
  unfold iteO
  by_cases c : kindP h x = some T
  · rw [if_pos c, if_pos (decide_eq_true c)]
  · rw [if_neg c, if_neg (by rw [decide_eq_false c]; exact Bool.false_ne_true)]
theorem kind_lst {h : PH} {n : Nat} {xs : List PV} (e : h[n]? = some (.lst xs)) : kindP h (.ref n) = some "list" := by
  unfold kindP
  dsimp only
  rw [e]
theorem mPop_ap {h : PH} {n : Nat} {xs : List PV} {x : PV} (e : h[n]? = some (.lst (xs ++ [x]))) : mPop (.ref n) [] h = some (x, h.set n (.lst xs)) := by
  unfold mPop lstAt
  dsimp only
  rw [e]
  simp
theorem mAppend_ap {h : PH} {n : Nat} {xs : List PV} {x : PV} (e : h[n]? = some (.lst xs)) (l : xs.length < 16777216) : mAppend (.ref n) [x] h = some (.non, h.set n (.lst (xs ++ [x]))) := by
  unfold mAppend lstAt
  dsimp only
  rw [e]
  simp [l]
def less (pre : List Int) (c n : Int) : List Int := if n ≤ c then pre ++ [c.fdiv n] else pre
def dnev_2 := And.intro @dnev_1 (@eMt_ap)
theorem draw_great {d g : Nat} {pre : List Int} {c a t n : Int} {w : Bool} {h : PH} (D : Deck d g (pre ++ [c]) a t w h) (hn : ¬ n < 2) (hn2 : n < 1073741824) :
    m__law_draw [.ref d, .int n] h = .ok (.int (c.fmod n)) (h.set g (.lst ((less pre c n).map PV.int))) := by
  refine (mk_at (show [PV.ref d, PV.int n].length = 2 from rfl)).trans ?_
  have ld : d < h.length := (List.getElem?_eq_some_iff.mp D.dic).1
  have lg : g < h.length := (List.getElem?_eq_some_iff.mp D.gre).1
  have hd := (List.getElem?_append_left (l₂ := [MO.lst []]) ld).trans D.dic
  have hg := (List.getElem?_append_left (l₂ := [MO.lst []]) lg).trans D.gre
  have hg' : (h ++ [MO.lst []])[g]? = some (.lst (pre.map PV.int ++ [.int c])) := by rw [hg]; simp
  have e3 : (h ++ [MO.lst []])[h.length]? = some (MO.lst []) := by simp
  have hne := ne_nil hg e3
  have dn : decide (List.map PV.int (pre ++ [c]) ≠ []) = true := by simp
  rw [dn] at hne
  have lg2 : g < (h ++ [MO.lst []]).length := by simp; omega
  have pop := mPop_ap hg'
  have hg3 : ((h ++ [MO.lst []]).set g (.lst (pre.map PV.int)))[g]? = some (.lst (pre.map PV.int)) := List.getElem?_set_self lg2
  have hd3 : ((h ++ [MO.lst []]).set g (.lst (pre.map PV.int)))[d]? = some (.dK (deckP (.ref g) (.int a) (.int t) w)) := by
    rw [List.getElem?_set_ne D.ne.symm]
    exact hd
  have lp : (pre.map PV.int).length < 16777216 := by
    have := D.few
    simp at this ⊢
    omega
  have app := mAppend_ap (x := .int (c.fdiv n)) hg3 lp
  have r4 : ∀ (i : Int) (h : PH), opFdiv (.int i) (.int n) h = some (.int (i.fdiv n), h) := fun _ _ => opFdiv_ap (by omega) (by omega)
  have r5 : ∀ (i : Int) (h : PH), opMod (.int i) (.int n) h = some (.int (i.fmod n), h) := fun _ _ => opMod_ap (by omega)
  have k1 := kind_lst hg
  have k3 := kind_lst hg3
  have e : runB g__law_draw 5 [.ref d, .int n] h = .ok (.int (c.fmod n)) ((h ++ [MO.lst []]).set g (.lst ((less pre c n).map PV.int))) := by
    have a0 : args0 5 [PV.ref d, PV.int n] = [some (.ref d), some (.int n), none, none, none] := rfl
    unfold runB
    rw [a0]
    by_cases cn : n ≤ c
    · have el : less pre c n = pre ++ [c.fdiv n] := if_pos cn
      rw [el, List.map_append]
      simp only [dnev_2, dnif_1, g__law_draw, List.getElem?_cons_zero, List.getElem?_cons_succ, decide_eq_false hn, D.dic, hd, dk_great, dk_seal, dk_turn, hne, k1, k3, pop, hd3, app, r4, r5, decide_eq_true cn, setP, List.set_cons_zero, List.set_cons_succ, decide_true, List.set_set]
      rfl
    · have el : less pre c n = pre := if_neg cn
      rw [el]
      simp only [dnev_2, dnif_1, g__law_draw, List.getElem?_cons_zero, List.getElem?_cons_succ, decide_eq_false hn, D.dic, hd, dk_great, dk_seal, dk_turn, hne, k1, k3, pop, hd3, app, r4, r5, decide_eq_false cn, setP, List.set_cons_zero, List.set_cons_succ, decide_true, List.set_set]
  rw [e]
  have lt : ((h ++ [MO.lst []]).set g (.lst ((less pre c n).map PV.int))).take h.length = h.set g (.lst ((less pre c n).map PV.int)) := by
    rw [List.take_set, List.take_left']
    rfl
  have z := gcN_cut (h := h) (h' := (h ++ [MO.lst []]).set g (.lst ((less pre c n).map PV.int))) (v := .int (c.fmod n)) (by simp) rfl (by
    rw [lt]
    exact Cl.set (o := .lst ((less pre c n).map PV.int)) (show MO.lowr h.length (.lst ((less pre c n).map PV.int)) = true from lowrs_ints _ _) g D.cl)
  rw [z, lt]
/-- h2 is h but for the deck's two objects -/
structure Like (d g : Nat) (h h2 : PH) : Prop where
  len : h2.length = h.length
  at_ : ∀ i, i ≠ d → i ≠ g → h2[i]? = h[i]?
theorem Like.refl {d g : Nat} {h : PH} : Like d g h h := ⟨rfl, fun _ _ _ => rfl⟩
theorem Like.trans {d g : Nat} {h h2 h3 : PH} (a : Like d g h h2) (b : Like d g h2 h3) : Like d g h h3 := ⟨b.len.trans a.len, fun i x y => (b.at_ i x y).trans (a.at_ i x y)⟩
/-- a deck of whatever numbers -/
def Dk (d g : Nat) (h : PH) : Prop := ∃ gs a t w, Deck d g gs a t w h
/-- a draw: a number below many, or 0 -/
theorem draw_ok {d g : Nat} {n : Int} {h : PH} (D : Dk d g h) (hn2 : n < 1073741824) : ∃ k h2, m__law_draw [.ref d, .int n] h = .ok (.int k) h2 ∧ Dk d g h2 ∧ Like d g h h2 ∧ 0 ≤ k ∧ (n < 2 → k = 0) ∧ (2 ≤ n → k < n) := by
  obtain ⟨gs, a, t, w, D⟩ := D
  by_cases hn : n < 2
  · exact ⟨0, h, draw_small hn, ⟨gs, a, t, w, D⟩, .refl, by omega, fun _ => rfl, fun q => by omega⟩
  have ld : d < h.length := (List.getElem?_eq_some_iff.mp D.dic).1
  have lg : g < h.length := (List.getElem?_eq_some_iff.mp D.gre).1
  rcases List.eq_nil_or_concat gs with e | ⟨pre, c, e⟩
  · subst e
    refine ⟨_, _, draw_turn D hn, ⟨_, _, _, _, D.turn⟩, ⟨List.length_set, fun i x y => List.getElem?_set_ne (Ne.symm x)⟩, ?_, fun q => absurd q hn, fun _ => ?_⟩
    · exact (fm _ (by omega)).1
    · exact (fm _ (by omega)).2
  · rw [List.concat_eq_append] at e
    subst e
    refine ⟨_, _, draw_great D hn hn2, ⟨less pre c n, a, t, w, ?_⟩, ⟨List.length_set, fun i x y => List.getElem?_set_ne (Ne.symm y)⟩, (fm _ (by omega)).1, fun q => absurd q hn, fun _ => (fm _ (by omega)).2⟩
    refine ⟨by rw [List.getElem?_set_ne D.ne.symm]; exact D.dic, List.getElem?_set_self lg, fun x hx => ?_, ?_, by rw [List.length_set]; exact Cl.set (o := .lst ((less pre c n).map PV.int)) (show MO.lowr h.length (.lst ((less pre c n).map PV.int)) = true from lowrs_ints _ _) g D.cl⟩
    · have hc := D.pos c (by simp)
      unfold less at hx
      split at hx
      · rcases List.mem_append.mp hx with m | m
        · exact D.pos x (by simp [m])
        · rw [List.mem_singleton.mp m]
          exact Int.fdiv_nonneg hc (by omega)
      · exact D.pos x (by simp [hx])
    · have := D.few
      unfold less
      split <;> simp at this ⊢ <;> omega
end Dn
namespace Dn
open PySem PySem.Spec PyProof.Rows L2 PySem.SeqAt
theorem fLen_ref {h : PH} {n : Nat} {xs : List PV} (e : h[n]? = some (.lst xs)) : fLen [.ref n] h = some (.int (xs.length : Nat), h) := by
  unfold fLen seqOf
  dsimp only
  rw [e]
  rfl
theorem atI_at {α : Type} {xs : List α} {k : Int} (h0 : 0 ≤ k) (h1 : k < xs.length) : ∃ x, atI xs k = some x ∧ x ∈ xs := by
  obtain ⟨j, rfl⟩ := Int.eq_ofNat_of_zero_le h0
  have hj : j < xs.length := by omega
  refine ⟨xs[j], ?_, List.getElem_mem hj⟩
  unfold atI ixN
  simp [hj]
/-- a pick of a list: one of its items -/
theorem pick_ok {d g m : Nat} {xs : List PV} {h : PH} (D : Dk d g h) (hm : h[m]? = some (.lst xs)) (md : m ≠ d) (mg : m ≠ g) (hx : xs ≠ []) (hl : xs.length < 1000000000) : ∃ x h2, m__law_pick [.ref d, .ref m] h = .ok x h2 ∧ x ∈ xs ∧ Dk d g h2 ∧ Like d g h h2 := by
  obtain ⟨k, h2, e, D2, L, k0, k1, k2⟩ := draw_ok (n := (xs.length : Nat)) D (by omega)
  have lx : 0 < xs.length := List.length_pos_iff.mpr hx
  obtain ⟨x, ex, mx⟩ := atI_at (xs := xs) (k := k) k0 (by
    by_cases q : ((xs.length : Nat) : Int) < 2
    · have := k1 q
      omega
    · exact k2 (by omega))
  refine ⟨x, h2, ?_, mx, D2, L⟩
  refine (mk_at (show [PV.ref d, PV.ref m].length = 2 from rfl)).trans ?_
  have hm2 := (L.at_ m md mg).trans hm
  have er : runB g__law_pick 2 [.ref d, .ref m] h = .ok x h2 := by
    have a0 : args0 2 [PV.ref d, PV.ref m] = [some (.ref d), some (.ref m)] := rfl
    unfold runB
    rw [a0]
    simp only [dnev_2, dnif_1, g__law_pick, List.getElem?_cons_zero, List.getElem?_cons_succ, fLen_ref hm, e, hm2, ex]
  rw [er]
  exact gcN_len L.len
end Dn
namespace Dn
open PySem PySem.Spec PyProof.Rows L2 PySem.SeqAt
theorem phLowr_of {n : Nat} : ∀ {h : PH}, (∀ (i : Nat) (o : MO), h[i]? = some o → MO.lowr n o = true) → phLowr n h = true
  | [], _ => rfl
  | x :: r, q => by
    simp only [phLowr, Bool.and_eq_true]
    exact ⟨q 0 x rfl, phLowr_of fun i o e => q (i + 1) o (by simpa using e)⟩
mutual
theorem lowr_mono {n m : Nat} (l : n ≤ m) : ∀ x : PV, x.lowr n = true → x.lowr m = true
  | .non, _ => rfl
  | .bl _, _ => rfl
  | .int _, _ => rfl
  | .str _, _ => rfl
  | .tup xs, e => by
    simp only [PV.lowr] at e ⊢
    exact lowrs_mono l xs e
  | .kt xs, e => by
    simp only [PV.lowr] at e ⊢
    exact lowrs_mono l xs e
  | .fz xs, e => by
    simp only [PV.lowr] at e ⊢
    exact lowrs_mono l xs e
  | .ref k, e => by
    simp only [PV.lowr, decide_eq_true_eq] at e ⊢
    omega
theorem lowrs_mono {n m : Nat} (l : n ≤ m) : ∀ x : List PV, PV.lowrs n x = true → PV.lowrs m x = true
  | [], _ => rfl
  | x :: r, e => by
    simp only [PV.lowrs, Bool.and_eq_true] at e ⊢
    exact ⟨lowr_mono l x e.1, lowrs_mono l r e.2⟩
end
theorem kvLowr_mono {κ : Type} {n m : Nat} (l : n ≤ m) : ∀ x : List (κ × PV), kvLowr n x = true → kvLowr m x = true
  | [], _ => rfl
  | (k, x) :: r, e => by
    simp only [kvLowr, Bool.and_eq_true] at e ⊢
    exact ⟨lowr_mono l x e.1, kvLowr_mono l r e.2⟩
theorem MO.lowr_mono {n m : Nat} (l : n ≤ m) : ∀ x : MO, x.lowr n = true → x.lowr m = true
  | .lst xs, e => lowrs_mono l xs e
  | .dK xs, e => kvLowr_mono l xs e
  | .dT xs, e => kvLowr_mono l xs e
/-- a new object beside the deck -/
theorem Dk.push {d g : Nat} {h : PH} {o : MO} (D : Dk d g h) (ho : o.lowr (h.length + 1) = true) : Dk d g (h ++ [o]) := by
  obtain ⟨gs, a, t, w, D⟩ := D
  have ld : d < h.length := (List.getElem?_eq_some_iff.mp D.dic).1
  have lg : g < h.length := (List.getElem?_eq_some_iff.mp D.gre).1
  refine ⟨gs, a, t, w, (List.getElem?_append_left ld).trans D.dic, (List.getElem?_append_left lg).trans D.gre, D.pos, D.few, phLowr_of fun i p e => ?_⟩
  rw [List.length_append, List.length_singleton]
  by_cases c : i < h.length
  · rw [List.getElem?_append_left c] at e
    exact MO.lowr_mono (Nat.le_succ _) p (phLowr_at D.cl e)
  · rw [List.getElem?_append_right (by omega)] at e
    cases hk : i - h.length with
    | zero =>
      rw [hk] at e
      cases e
      exact ho
    | succ k =>
      rw [hk] at e
      simp at e
theorem Dk.lt {d g : Nat} {h : PH} (D : Dk d g h) : d < h.length ∧ g < h.length := by
  obtain ⟨gs, a, t, w, D⟩ := D
  exact ⟨(List.getElem?_eq_some_iff.mp D.dic).1, (List.getElem?_eq_some_iff.mp D.gre).1⟩
theorem Dk.back {d g : Nat} {h ys h3 : PH} (D : Dk d g h) (D3 : Dk d g h3) (L : Like d g (h ++ ys) h3) : Dk d g (h3.take h.length) ∧ Like d g h (h3.take h.length) := by
  obtain ⟨ld, lg⟩ := D.lt
  obtain ⟨gs0, a0, t0, _, D0⟩ := D
  obtain ⟨gs, a, t, w, D3⟩ := D3
  have hl : (h3.take h.length).length = h.length := by
    rw [List.length_take, L.len, List.length_append]
    omega
  have at_ : ∀ i, i < h.length → (h3.take h.length)[i]? = h3[i]? := fun i hi => List.getElem?_take_of_lt hi
  have L2 : Like d g h (h3.take h.length) := ⟨hl, fun i x y => by
    by_cases c : i < h.length
    · rw [at_ i c, L.at_ i x y, List.getElem?_append_left c]
    · rw [List.getElem?_eq_none (by omega), List.getElem?_eq_none (by omega)]⟩
  refine ⟨⟨gs, a, t, w, (at_ d ld).trans D3.dic, (at_ g lg).trans D3.gre, D3.pos, D3.few, phLowr_of fun i o e => ?_⟩, L2⟩
  rw [hl]
  by_cases cd : i = d
  · subst cd
    rw [at_ i ld, D3.dic] at e
    cases e
    exact lowr_deck lg
  by_cases cg : i = g
  · subst cg
    rw [at_ i lg, D3.gre] at e
    cases e
    exact lowrs_ints _ _
  rw [L2.at_ i cd cg] at e
  exact phLowr_at D0.cl e
theorem Dk.gc {d g : Nat} {h ys h3 : PH} {v : PV} (D : Dk d g h) (D3 : Dk d g h3) (L : Like d g (h ++ ys) h3) (hv : v.lowr h.length = true) : gcN h (.ok v h3) = .ok v (h3.take h.length) := by
  obtain ⟨D4, L4⟩ := D.back D3 L
  refine gcN_cut (by rw [L.len, List.length_append]; omega) hv ?_
  obtain ⟨_, _, _, _, D4⟩ := D4
  have := D4.cl
  rw [L4.len] at this
  exact this
end Dn
namespace Dn
open PySem PySem.Spec PyProof.Rows L2 PySem.SeqAt
theorem opEq_int (i j : Int) (h : PH) : opEq (.int i) (.int j) h = some (.bl (decide (i = j)), h) := rfl
theorem tupO_ok {xs : List PV} {h : PH} (l : xs.length ≤ 16777216) : tupO xs h = .ok (.tup xs) h := if_pos (by rw [sizeLine_eq]; exact l)
theorem lstO_ok {xs : List PV} {h : PH} (l : xs.length ≤ 16777216) : lstO xs h = .ok (.ref h.length) (h ++ [.lst xs]) := if_pos (by rw [sizeLine_eq]; exact l)
theorem tupO_1 (x : PV) (h : PH) : tupO [x] h = .ok (.tup [x]) h := tupO_ok (by simp)
theorem tupO_2 (x y : PV) (h : PH) : tupO [x, y] h = .ok (.tup [x, y]) h := tupO_ok (by simp)
theorem tupO_3 (x y z : PV) (h : PH) : tupO [x, y, z] h = .ok (.tup [x, y, z]) h := tupO_ok (by simp)
theorem tupO_4 (x y z w : PV) (h : PH) : tupO [x, y, z, w] h = .ok (.tup [x, y, z, w]) h := tupO_ok (by simp)
end Dn
namespace Dn
open PySem PySem.Spec PyProof.Rows L2 PySem.SeqAt
theorem set_last : ∀ (h0 : PH) (o p : MO), (h0 ++ [o]).set h0.length p = h0 ++ [p]
  | [], _, _ => rfl
  | x :: r, o, p => congrArg (x :: ·) (set_last r o p)
theorem get_last (h0 : PH) (o : MO) : (h0 ++ [o])[h0.length]? = some o := by simp
/-- a comprehension whose test and element change nothing -/
theorem comp_pure {gs : List (Nat × List PV)} {g : GP} {t : DT} {e : DE} {s : Sl} {h0 : PH} (b : PV → Bool) (f : PV → PV) (ok : ∀ acc, okG gs (h0 ++ [.lst acc]) = true) :
    ∀ (items acc : List PV), (∀ x ∈ items, ∃ as, g x = some as ∧ ∀ acc, t (setP as s) (h0 ++ [.lst acc]) = .ok (b x) (h0 ++ [.lst acc]) ∧ (b x = true → e (setP as s) (h0 ++ [.lst acc]) = .ok (f x) (h0 ++ [.lst acc]))) → acc.length + items.length < 16777216 →
      compItems gs g t e h0.length s items (h0 ++ [.lst acc]) = .ok () (h0 ++ [.lst (acc ++ (items.filter b).map f)])
  | [], acc, _, _ => by
    unfold compItems
    rw [if_pos (ok acc)]
    simp
  | x :: r, acc, q, l => by
    obtain ⟨as, e1, e2⟩ := q x (by simp)
    obtain ⟨e3, e4⟩ := e2 acc
    have q2 := fun y hy => q y (List.mem_cons_of_mem x hy)
    unfold compItems
    rw [if_pos (ok acc), e1]
    dsimp only
    rw [e3]
    show (if b x = true then _ else _) = _
    by_cases c : b x = true
    · rw [if_pos c, e4 c]
      show (match (h0 ++ [MO.lst acc])[h0.length]? with
          | some (.lst acc) => if acc.length < 16777216 then compItems gs g t e h0.length s r ((h0 ++ [MO.lst _]).set h0.length (.lst (acc ++ [f x]))) else .no
          | _ => .no) = _
      rw [get_last]
      dsimp only
      simp only [List.length_cons] at l
      rw [if_pos (by omega), set_last, comp_pure b f ok r (acc ++ [f x]) q2 (by simp; omega), List.filter_cons_of_pos c]
      simp
    · rw [if_neg c]
      simp only [List.length_cons] at l
      rw [comp_pure b f ok r acc q2 (by omega), List.filter_cons_of_neg c]
end Dn
namespace Dn
open PySem PySem.Spec PyProof.Rows L2 PySem.SeqAt
def parO (i j : Nat) (vs : List PV) (s : Sl) (h : PH) : OutS := match vs with
  | [v, w] => .nx ((s.set i (some v)).set j (some w)) h
  | _ => .no
theorem sPar_ap (i j : Nat) (f : DA) (s : Sl) (h : PH) : sPar i j f s h = (f s h).then s fun vs h => parO i j vs s h := rfl
theorem parO_2 (i j : Nat) (v w : PV) (s : Sl) (h : PH) : parO i j [v, w] s h = .nx ((s.set i (some v)).set j (some w)) h := rfl
theorem eLc_ap (it : DI) (g : GP) (t : DT) (e : DE) (vs : List Nat) (s : Sl) (h : PH) : eLc it g t e vs s h = (it s h).bind fun p h => (compItems p.1 g t e h.length (wipeP s vs) p.2 (h ++ [.lst []])).bind fun _ h2 => .ok (.ref h.length) h2 := rfl
def refO (o : Option MO) (n : Nat) (h : PH) : Out Its' := match o with
  | some (.lst xs) => .ok ([(n, xs)], xs) h
  | _ => .no
theorem refO_lst (xs : List PV) (n : Nat) (h : PH) : refO (some (.lst xs)) n h = .ok ([(n, xs)], xs) h := rfl
def seqO (v : PV) (h : PH) : Out Its' := match v with
  | .tup xs => .ok ([], xs) h
  | .kt xs => .ok ([], xs) h
  | .fz xs => .ok ([], xs) h
  | .str z => .ok ([], chars z) h
  | .ref n => refO h[n]? n h
  | _ => .no
theorem seqO_ref (n : Nat) (h : PH) : seqO (.ref n) h = refO h[n]? n h := rfl
theorem seqO_tup (xs : List PV) (h : PH) : seqO (.tup xs) h = .ok ([], xs) h := rfl
theorem iSeq_ap (f : DE) (s : Sl) (h : PH) : iSeq f s h = (f s h).bind fun v h => seqO v h := rfl
theorem eSl_ap (f : FS) (a : DE) (lo hi : DO) (s : Sl) (h : PH) : eSl f a lo hi s h = (a s h).bind fun x h => (lo s h).bind fun l h => (hi s h).bind fun u h => Out.of (f x l u h) := rfl
theorem oNone_ap (s : Sl) (h : PH) : oNone s h = .ok none h := rfl
def intO (x : PV) (h : PH) : Out (Option Int) := match x with
  | .int i => .ok (some i) h
  | _ => .no
theorem intO_int (i : Int) (h : PH) : intO (.int i) h = .ok (some i) h := rfl
theorem oSome_ap (a : DE) (s : Sl) (h : PH) : oSome a s h = (a s h).bind fun x h => intO x h := rfl
theorem sFor_ap (it : DI) (g : GP) (body : DS) (s : Sl) (h : PH) : sFor it g body s h = (it s h).then s fun p h => forItems p.1 g body p.2 s h := rfl
theorem fAbs_ap (i : Int) (h : PH) : fAbs [.int i] h = some (.int (if i < 0 then -i else i), h) := rfl
theorem fInt_bl (b : Bool) (h : PH) : fInt [.bl b] h = some (.int (if b then 1 else 0), h) := rfl
theorem opMul_l {i j : Int} {h : PH} (e : smallB i = true) : opMul (.int i) (.int j) h = some (.int (i * j), h) := if_pos (by rw [e, Bool.true_or])
theorem cut_all {xs : List PV} (l : xs.length ≤ 63) : cutP xs none (some 63) = xs := by
  unfold cutP
  rw [show (HT.sIx xs.length 0 none) = 0 from rfl, show HT.sIx xs.length xs.length (some 63) = min 63 xs.length from rfl]
  rw [List.drop_zero, List.take_of_length_le (by omega)]
def cellOf (i : Int) : Int := 2 * (if i < 0 then -i else i) + (if decide (i < 0) = true then 1 else 0)
theorem cellOf_pos (i : Int) : 0 ≤ cellOf i := by
  unfold cellOf
  by_cases c : i < 0
  · rw [if_pos c, if_pos (decide_eq_true c)]
    omega
  · rw [if_neg c, if_neg (by rw [decide_eq_false c]; exact Bool.false_ne_true)]
    omega
def cellP : PV → PV
  | .int i => .int (cellOf i)
  | v => v
def bigP : PV → Bool
  | .int i => decide (10 ^ 18 ≤ i)
  | _ => false
def bodySeal : DS := sAsg (gNm 2) (eOp opMod (eCall fInt (eCons (eOp opAdd (eOp opAdd (eOp opMul (eVar 2) (eC (.int 48271))) (eVar 3)) (eC (.int 1))) eNil)) (eC (.int 4294967291)))
def dnev_3 := And.intro @dnev_2 (And.intro @opEq_int (And.intro @tupO_1 (And.intro @tupO_2 (And.intro @tupO_3 (And.intro @tupO_4 (And.intro @sPar_ap (And.intro @parO_2 (And.intro @eLc_ap (And.intro @refO_lst (And.intro @seqO_ref (And.intro @seqO_tup (And.intro @iSeq_ap (And.intro @eSl_ap (And.intro @oNone_ap (And.intro @intO_int (And.intro @oSome_ap (And.intro @sFor_ap (And.intro @fAbs_ap (@fInt_bl)))))))))))))))))))
theorem seal_loop {gs : List (Nat × List PV)} {h : PH} {a b e : Option PV} (ok : okG gs h = true) : ∀ (items : List Int) (z0 : Int) (l3 : Option PV), ∃ z1 l3', forItems gs (gNm 3) bodySeal (items.map PV.int) [a, b, some (.int z0), l3, e] h = .nx [a, b, some (.int z1), l3', e] h
  | [], z0, l3 => ⟨z0, l3, by unfold forItems; rw [List.map_nil]; exact if_pos ok⟩
  | x :: r, z0, l3 => by
    have m1 : ∀ (i : Int) (h : PH), opMul (.int i) (.int 48271) h = some (.int (i * 48271), h) := fun _ _ => opMul_r rfl
    have r1 : ∀ (i : Int) (h : PH), opMod (.int i) (.int 4294967291) h = some (.int (i.fmod 4294967291), h) := fun _ _ => opMod_ap (by decide)
    have e1 : bodySeal (setP [(3, .int x)] [a, b, some (.int z0), l3, e]) h = .nx [a, b, some (.int ((z0 * 48271 + x + 1).fmod 4294967291)), some (.int x), e] h := by
      simp only [dnev_3, dnif_1, bodySeal, setP, List.set_cons_zero, List.set_cons_succ, List.getElem?_cons_zero, List.getElem?_cons_succ, m1, r1]
    obtain ⟨z1, l3', ih⟩ := seal_loop ok r ((z0 * 48271 + x + 1).fmod 4294967291) (some (.int x))
    refine ⟨z1, l3', ?_⟩
    rw [List.map_cons, forItems, if_pos ok]
    show (match gNm 3 (.int x) with
      | some as => match bodySeal (setP as _) h with
        | .nx s h => forItems gs (gNm 3) bodySeal (r.map PV.int) s h
        | .ct s h => forItems gs (gNm 3) bodySeal (r.map PV.int) s h
        | .bk s h => .nx s h
        | o => o
      | none => .no) = _
    rw [gNm_ap]
    dsimp only
    rw [e1]
    exact ih
end Dn
namespace Dn
open PySem PySem.Spec PyProof.Rows L2 PySem.SeqAt
def dispO (n : Nat) (kvs : List (L2.Key × PV)) (h1 : PH) : Out PV := if isNewK h1 n = true ∧ kvs.length ≤ 15 then .ok (.ref n) (h1.set n (.dK (mergeG [] kvs))) else .no
theorem eDisp_ap (ps : List (DE × DE)) (s : Sl) (h : PH) : eDisp ps s h = (pairsD ps s (h ++ [.dK []])).bind fun kvs h1 => dispO h.length kvs h1 := rfl
def pairO (o : Option L2.Key) (y : PV) (r : Out (List (L2.Key × PV))) : Out (List (L2.Key × PV)) := match o with
  | some k => r.bind fun ps h => .ok ((k, y) :: ps) h
  | none => .no
theorem pairO_some (k : L2.Key) (y : PV) (r : Out (List (L2.Key × PV))) : pairO (some k) y r = r.bind fun ps h => .ok ((k, y) :: ps) h := rfl
theorem pairsD_nil (s : Sl) (h : PH) : pairsD [] s h = .ok [] h := rfl
theorem pairsD_cons (k v : DE) (r : List (DE × DE)) (s : Sl) (h : PH) : pairsD ((k, v) :: r) s h = (k s h).bind fun kx h => (v s h).bind fun y h => pairO (keyOf kx) y (pairsD r s h) := rfl
theorem keyOf_str (x : Str) : keyOf (.str x) = some (.inr x) := rfl
def lsO (o : Option MO) : Option (List PV) := match o with
  | some (.lst xs) => some xs
  | _ => none
theorem lsO_lst (xs : List PV) : lsO (some (.lst xs)) = some xs := rfl
theorem lsOf_ref (h : PH) (n : Nat) : lsOf h (.ref n) = lsO h[n]? := rfl
def revO (o : Option (List PV)) (h : PH) : Out PV := match o with
  | some ys => .ok (.ref h.length) (h ++ [.lst ys.reverse])
  | none => .no
theorem revO_some (ys : List PV) (h : PH) : revO (some ys) h = .ok (.ref h.length) (h ++ [.lst ys.reverse]) := rfl
theorem eRev_ap (f : DE) (s : Sl) (h : PH) : eRev f s h = (f s h).bind fun x h => revO (lsOf h x) h := rfl
theorem fLen_fz {h : PH} {xs : List PV} : fLen [.fz xs] h = some (.int (xs.length : Nat), h) := rfl
def dnev_4 := And.intro @dnev_3 (And.intro @eDisp_ap (And.intro @pairO_some (And.intro @pairsD_nil (And.intro @pairsD_cons (And.intro @keyOf_str (And.intro @lsO_lst (And.intro @lsOf_ref (And.intro @revO_some (@eRev_ap)))))))))
theorem deck_ok (ns : List Int) (len : ns.length ≤ 63) : ∃ h, m__law_deck [.fz (ns.map PV.int)] [] = .ok (.ref 2) h ∧ Dk 2 4 h := by
  let X := ns.map PV.int
  let ci := ns.map cellOf
  let cs := ci.map PV.int
  have lX : X.length ≤ 63 := by simpa [X] using len
  have hs : opSl (.fz X) none (some 63) [] = some (.ref 0, [.lst X]) := by
    show some (PV.ref 0, [MO.lst (cutP X none (some 63))]) = _
    rw [cut_all lX]
  have m2 : ∀ (i : Int) (h : PH), opMul (.int 2) (.int i) h = some (.int (2 * i), h) := fun _ _ => opMul_l rfl
  have m7 : ∀ (i : Int) (h : PH), opMul (.int 7) (.int i) h = some (.int (7 * i), h) := fun _ _ => opMul_l rfl
  have pw : ∀ (h : PH), opPow (.int 10) (.int 18) h = some (.int (10 ^ 18), h) := fun _ => rfl
  have fX : (X.filter fun _ => true).map cellP = cs := by
    rw [List.filter_eq_self.mpr (fun _ _ => rfl)]
    simp [X, cs, ci, cellP, Function.comp_def]
  have hc1 : ∀ (s : Sl), s.length = 5 → compItems [(0, X)] (gNm 4) tYesD (eOp opAdd (eOp opMul (eC (.int 2)) (eCall fAbs (eCons (eVar 4) eNil))) (eCall fInt (eCons (eOp opLt (eVar 4) (eC (.int 0))) eNil))) 1 s X [.lst X, .lst []] = .ok () [.lst X, .lst cs] := fun s ls => by
    have q := comp_pure (gs := [(0, X)]) (g := gNm 4) (t := tYesD) (e := eOp opAdd (eOp opMul (eC (.int 2)) (eCall fAbs (eCons (eVar 4) eNil))) (eCall fInt (eCons (eOp opLt (eVar 4) (eC (.int 0))) eNil))) (s := s) (h0 := [.lst X]) (fun _ => true) cellP (fun acc => by simp [okG]) X [] (fun x hx => by
      obtain ⟨i, hi, rfl⟩ := List.mem_map.mp hx
      refine ⟨_, rfl, fun acc => ⟨rfl, fun _ => ?_⟩⟩
      have h4 : (setP [(4, PV.int i)] s)[4]? = some (some (.int i)) := List.getElem?_set_self (by omega)
      simp only [dnev_4, dnif_1, h4, m2]
      rfl) (by simp; omega)
    rw [fX] at q
    exact q
  have fB : (cs.filter bigP).map id = (ci.filter fun i => decide (10 ^ 18 ≤ i)).map PV.int := by
    rw [List.map_id, List.filter_map]
    rfl
  have hc2 : ∀ (s : Sl), s.length = 5 → compItems [(1, cs)] (gNm 3) (tV (eOp opGe (eVar 3) (eOp opPow (eC (.int 10)) (eC (.int 18))))) (eVar 3) 3 s cs [.lst X, .lst cs, .dK [], .lst []] = .ok () [.lst X, .lst cs, .dK [], .lst ((ci.filter fun i => decide (10 ^ 18 ≤ i)).map PV.int)] := fun s ls => by
    have q := comp_pure (gs := [(1, cs)]) (g := gNm 3) (t := tV (eOp opGe (eVar 3) (eOp opPow (eC (.int 10)) (eC (.int 18))))) (e := eVar 3) (s := s) (h0 := [.lst X, .lst cs, .dK []]) bigP id (fun acc => by simp [okG]) cs [] (fun x hx => by
      obtain ⟨i, hi, rfl⟩ := List.mem_map.mp hx
      have h3 : (setP [(3, PV.int i)] s)[3]? = some (some (.int i)) := List.getElem?_set_self (by omega)
      refine ⟨_, rfl, fun acc => ⟨?_, fun _ => ?_⟩⟩
      · simp only [dnev_4, dnif_1, h3, pw]
        rfl
      · simp only [dnev_4, dnif_1, h3]
        rfl) (by simp [cs, ci]; omega)
    rw [fB] at q
    exact q
  obtain ⟨z1, l3, lp⟩ := seal_loop (gs := [(1, cs)]) (h := [.lst X, .lst cs]) (a := some (.fz X)) (b := some (.ref 1)) (e := none) (by simp [okG]) ci (15910 + 7 * (X.length : Nat)) none
  unfold bodySeal at lp
  rw [show List.map PV.int ci = cs from rfl] at lp
  have a0 : args0 5 [PV.fz X] = [some (.fz X), none, none, none, none] := rfl
  have er : runB g__law_deck 5 [.fz X] [] = .ok (.ref 2) [.lst X, .lst cs, .dK [(.inr "great", .ref 4), (.inr "seal", .int z1), (.inr "turn", .int 0)], .lst ((ci.filter fun i => decide (10 ^ 18 ≤ i)).map PV.int), .lst ((ci.filter fun i => decide (10 ^ 18 ≤ i)).map PV.int).reverse] := by
    unfold runB
    rw [a0]
    simp only [dnev_4, dnif_1, g__law_deck, List.getElem?_cons_zero, List.getElem?_cons_succ, hs, List.length_cons, List.length_nil, Nat.zero_add, List.cons_append, List.nil_append, Nat.reduceAdd, hc1 (wipeP [some (PV.fz X), none, none, none, none] [4]) rfl, fLen_fz, m7, setP, List.set_cons_zero, List.set_cons_succ, lp, hc2 (wipeP [some (PV.fz X), some (PV.ref 1), some (PV.int z1), l3, none] [3]) rfl]
    rfl
  refine ⟨[.lst X, .lst cs, .dK [(.inr "great", .ref 4), (.inr "seal", .int z1), (.inr "turn", .int 0)], .lst ((ci.filter fun i => decide (10 ^ 18 ≤ i)).map PV.int), .lst ((ci.filter fun i => decide (10 ^ 18 ≤ i)).map PV.int).reverse], (mk_at (show [PV.fz X].length = 1 from rfl)).trans ?_, (ci.filter fun i => decide (10 ^ 18 ≤ i)).reverse, z1, 0, false, rfl, ?_, fun x hx => ?_, ?_, ?_⟩
  · rw [er]
    rfl
  · rw [List.map_reverse]
    rfl
  · have := List.mem_filter.mp (List.mem_reverse.mp hx)
    obtain ⟨i, _, rfl⟩ := List.mem_map.mp this.1
    exact cellOf_pos i
  · rw [List.length_reverse]
    have := List.length_filter_le (fun i => decide (10 ^ 18 ≤ i)) ci
    have : ci.length = ns.length := by simp [ci]
    omega
  · have a1 : PV.lowrs 5 X = true := lowrs_ints 5 ns
    have a2 : PV.lowrs 5 cs = true := lowrs_ints 5 ci
    have a3 : PV.lowrs 5 ((ci.filter fun i => decide (10 ^ 18 ≤ i)).map PV.int) = true := lowrs_ints 5 _
    have a4 : PV.lowrs 5 ((ci.filter fun i => decide (10 ^ 18 ≤ i)).map PV.int).reverse = true := by
      rw [← List.map_reverse]
      exact lowrs_ints 5 _
    show phLowr 5 _ = true
    simp only [phLowr, MO.lowr, a1, a2, a3, a4, kvLowr, PV.lowr]
    rfl
end Dn
namespace Dn
open PySem PySem.Spec PyProof.Rows L2 PySem.SeqAt
theorem lowrs_iff {n : Nat} : ∀ {xs : List PV}, PV.lowrs n xs = true ↔ ∀ x ∈ xs, x.lowr n = true
  | [] => by simp [PV.lowrs]
  | x :: r => by
    simp only [PV.lowrs, Bool.and_eq_true, List.mem_cons, forall_eq_or_imp]
    exact and_congr_right fun _ => lowrs_iff
/-- another list at an object that is not the deck's -/
theorem Dk.set {d g i : Nat} {h : PH} {o : MO} (D : Dk d g h) (hd : i ≠ d) (hg : i ≠ g) (ho : o.lowr h.length = true) : Dk d g (h.set i o) := by
  obtain ⟨gs, a, t, w, D⟩ := D
  exact ⟨gs, a, t, w, by rw [List.getElem?_set_ne hd]; exact D.dic, by rw [List.getElem?_set_ne hg]; exact D.gre, D.pos, D.few, by rw [List.length_set]; exact Cl.set ho i D.cl⟩
/-- what a list of the heap holds refers below -/
theorem Dk.lst {d g i : Nat} {h : PH} {xs : List PV} (D : Dk d g h) (e : h[i]? = some (.lst xs)) : ∀ x ∈ xs, x.lowr h.length = true := by
  obtain ⟨gs, a, t, w, D⟩ := D
  exact lowrs_iff.mp (phLowr_at D.cl e)
/-- h2 has what h has, but for the deck's two objects, and perhaps more -/
structure Ov (d g : Nat) (h h2 : PH) : Prop where
  len : h.length ≤ h2.length
  at_ : ∀ i, i < h.length → i ≠ d → i ≠ g → h2[i]? = h[i]?
theorem Like.ov {d g : Nat} {h h2 : PH} (L : Like d g h h2) : Ov d g h h2 := ⟨by rw [L.len]; exact Nat.le_refl _, fun i _ x y => L.at_ i x y⟩
theorem Ov.refl {d g : Nat} {h : PH} : Ov d g h h := ⟨Nat.le_refl _, fun _ _ _ _ => rfl⟩
theorem Ov.trans {d g : Nat} {h h2 h3 : PH} (a : Ov d g h h2) (b : Ov d g h2 h3) : Ov d g h h3 := ⟨Nat.le_trans a.len b.len, fun i l x y => (b.at_ i (Nat.lt_of_lt_of_le l a.len) x y).trans (a.at_ i l x y)⟩
theorem Ov.push {d g : Nat} {h : PH} {o : MO} : Ov d g h (h ++ [o]) := ⟨by rw [List.length_append]; omega, fun i l _ _ => List.getElem?_append_left l⟩
theorem Ov.set {d g i : Nat} {h h2 : PH} {o : MO} (a : Ov d g h h2) (l : h.length ≤ i) : Ov d g h (h2.set i o) := ⟨by rw [List.length_set]; exact a.len, fun j m x y => by rw [List.getElem?_set_ne (by omega)]; exact a.at_ j m x y⟩
/-- behind a def that gives a value without new objects, whatever it left -/
theorem Dk.gcO {d g : Nat} {h h3 : PH} {v : PV} (D : Dk d g h) (D3 : Dk d g h3) (L : Ov d g h h3) (hv : v.lowr h.length = true) : ∃ h4, gcN h (.ok v h3) = .ok v h4 ∧ Dk d g h4 ∧ Like d g h h4 := by
  obtain ⟨ld, lg⟩ := D.lt
  have E : ∃ ys h0, h0 ++ ys = h3 ∧ h0 = h3.take h.length := ⟨h3.drop h.length, h3.take h.length, List.take_append_drop _ _, rfl⟩
  have hl : (h3.take h.length).length = h.length := by
    rw [List.length_take]
    have := L.len
    omega
  have L3 : Like d g (h ++ h3.drop h.length) h3 := ⟨by rw [List.length_append, List.length_drop]; have := L.len; omega, fun i x y => by
    by_cases c : i < h.length
    · rw [L.at_ i c x y, List.getElem?_append_left c]
    · rw [List.getElem?_append_right (by omega), List.getElem?_drop]
      congr 1
      omega⟩
  obtain ⟨D4, L4⟩ := D.back D3 L3
  exact ⟨_, D.gc D3 L3 hv, D4, L4⟩
end Dn
namespace Dn
open PySem PySem.Spec PyProof.Rows L2 PySem.SeqAt
end Dn
namespace Dn
open PySem PySem.Spec PyProof.Rows L2 PySem.SeqAt
theorem gcN_keep {h h' : PH} {v : PV} (e : v.lowr h.length = false) : gcN h (.ok v h') = .ok v h' := by
  unfold gcN
  dsimp only
  rw [if_neg (by rw [e, Bool.false_and]; exact Bool.false_ne_true)]
end Dn

namespace Dn
open PySem PySem.Spec PyProof.Rows L2 PySem.SeqAt

/-! ### what is wanted of an outcome: a value and objects -/
/-- what follows is not looked into: its type hangs on it -/
inductive Bx {α : Type} (Q : α → PH → Prop) : Type where
  | mk
inductive Bs2 (N : Sl → PH → Prop) (R : PV → PH → Prop) : Type where
  | mk
@[irreducible] def wO {α : Type} (o : Out α) (Q : α → PH → Prop) (b : Bx Q := .mk) : Prop := match o with
  | .ok a h => Q a h
  | _ => False
@[irreducible] def wP {α : Type} (o : Option (α × PH)) (Q : α → PH → Prop) (b : Bx Q := .mk) : Prop := match o with
  | some (a, h) => Q a h
  | none => False
/-- of a statement: how it goes on, what it returns -/
@[irreducible] def wS (o : OutS) (N : Sl → PH → Prop) (R : PV → PH → Prop) (b : Bs2 N R := .mk) : Prop := match o with
  | .nx s h => N s h
  | .rt v h => R v h
  | _ => False
theorem wO_ok {α : Type} (a : α) (h : PH) (Q : α → PH → Prop) : wO (.ok a h) Q = Q a h := by unfold wO; rfl
theorem wO_bind {α β : Type} (o : Out α) (k : α → PH → Out β) (Q : β → PH → Prop) : wO (o.bind k) Q = wO o fun a h => wO (k a h) Q := by unfold wO; cases o <;> rfl
theorem wO_of {α : Type} (o : Option (α × PH)) (Q : α → PH → Prop) : wO (Out.of o) Q = wP o Q := by unfold wO wP; cases o <;> rfl
theorem wP_some {α : Type} (a : α) (h : PH) (Q : α → PH → Prop) : wP (some (a, h)) Q = Q a h := by unfold wP; rfl
theorem wS_nx (s : Sl) (h : PH) (N : Sl → PH → Prop) (R : PV → PH → Prop) : wS (.nx s h) N R = N s h := by unfold wS; rfl
theorem wS_rt (v : PV) (h : PH) (N : Sl → PH → Prop) (R : PV → PH → Prop) : wS (.rt v h) N R = R v h := by unfold wS; rfl
theorem wO_no {α : Type} (Q : α → PH → Prop) : wO .no Q = False := by unfold wO; rfl
theorem wO_err {α : Type} (e : PErr) (h : PH) (Q : α → PH → Prop) : wO (.err e h) Q = False := by unfold wO; rfl
theorem wP_none {α : Type} (Q : α → PH → Prop) : wP none Q = False := by unfold wP; rfl
theorem wS_no (N : Sl → PH → Prop) (R : PV → PH → Prop) : wS .no N R = False := by unfold wS; rfl
theorem wS_err (e : PErr) (s : Sl) (h : PH) (N : Sl → PH → Prop) (R : PV → PH → Prop) : wS (.err e s h) N R = False := by unfold wS; rfl
theorem wS_bk (s : Sl) (h : PH) (N : Sl → PH → Prop) (R : PV → PH → Prop) : wS (.bk s h) N R = False := by unfold wS; rfl
theorem wS_ct (s : Sl) (h : PH) (N : Sl → PH → Prop) (R : PV → PH → Prop) : wS (.ct s h) N R = False := by unfold wS; rfl
theorem wS_then {α : Type} (o : Out α) (s : Sl) (k : α → PH → OutS) (N : Sl → PH → Prop) (R : PV → PH → Prop) : wS (o.then s k) N R = wO o fun a h => wS (k a h) N R := by unfold wO; cases o <;> first | rfl | (unfold Out.then; dsimp only; unfold wS; rfl)
theorem wS_seq (o : OutS) (b : DS) (N : Sl → PH → Prop) (R : PV → PH → Prop) : wS (o.seq b) N R = wS o (fun s h => wS (b s h) N R) R := by cases o <;> simp only [OutS.seq, wS_nx, wS_rt, wS_bk, wS_ct, wS_err, wS_no]
theorem wO_ite {α : Type} (p : Prop) [Decidable p] (a b : Out α) (Q : α → PH → Prop) : wO (iteO (decide p) a b) Q = ((p → wO a Q) ∧ (¬ p → wO b Q)) := by
  by_cases h : p
  · rw [decide_eq_true h, iteO_true]
    simp [h]
  · rw [decide_eq_false h, iteO_false]
    simp [h]
theorem wS_ite (p : Prop) [Decidable p] (a b : OutS) (N : Sl → PH → Prop) (R : PV → PH → Prop) : wS (iteO (decide p) a b) N R = ((p → wS a N R) ∧ (¬ p → wS b N R)) := by
  by_cases h : p
  · rw [decide_eq_true h, iteO_true]
    simp [h]
  · rw [decide_eq_false h, iteO_false]
    simp [h]
theorem wO_mono {α : Type} {o : Out α} {Q Q' : α → PH → Prop} (a : wO o Q) (k : ∀ x h, Q x h → Q' x h) : wO o Q' := by
  unfold wO at a ⊢
  cases o with
  | ok x h => exact k _ _ a
  | err _ _ => exact a
  | no => exact a
theorem wS_mono {o : OutS} {N N' : Sl → PH → Prop} {R R' : PV → PH → Prop} (a : wS o N R) (k : ∀ s h, N s h → N' s h) (k2 : ∀ x h, R x h → R' x h) : wS o N' R' := by
  unfold wS at a ⊢
  cases o with
  | nx s h => exact k _ _ a
  | rt x h => exact k2 _ _ a
  | _ => exact a
theorem wO_ex {α : Type} {o : Out α} {Q : α → PH → Prop} : wO o Q ↔ ∃ x h, o = .ok x h ∧ Q x h := by
  unfold wO
  cases o with
  | ok x h => exact ⟨fun q => ⟨_, _, rfl, q⟩, fun ⟨_, _, e, q⟩ => by cases e; exact q⟩
  | err _ _ => exact ⟨fun q => q.elim, fun ⟨_, _, e, _⟩ => by cases e⟩
  | no => exact ⟨fun q => q.elim, fun ⟨_, _, e, _⟩ => by cases e⟩
theorem wO_eq {α : Type} {o : Out α} {x : α} {h : PH} {Q : α → PH → Prop} (e : o = .ok x h) (q : Q x h) : wO o Q := by rw [e, wO_ok]; exact q
theorem eq_of_wO {α : Type} {o : Out α} {x : α} {h : PH} (q : wO o fun y h' => y = x ∧ h' = h) : o = .ok x h := by
  obtain ⟨y, h', e, rfl, rfl⟩ := wO_ex.mp q
  exact e
/-- a def's function: its body, then what is new and of no use is forgotten -/
theorem wO_mk {n N : Nat} {g : DS} {xs : List PV} {h : PH} {Q : PV → PH → Prop} (l : xs.length = n) (q : wS (g (args0 N xs) h) (fun _ h' => wO (gcN h (.ok .non h')) Q) (fun v h' => wO (gcN h (.ok v h')) Q)) : wO (mk n N g xs h) Q := by
  rw [mk_at l]
  unfold runB
  cases e : g (args0 N xs) h with
  | nx s h' => rw [e, wS_nx] at q; exact q
  | rt v h' => rw [e, wS_rt] at q; exact q
  | bk s h' => rw [e, wS_bk] at q; exact q.elim
  | ct s h' => rw [e, wS_ct] at q; exact q.elim
  | err z s h' => rw [e, wS_err] at q; exact q.elim
  | no => rw [e, wS_no] at q; exact q.elim
theorem gc_same {h : PH} {v : PV} {Q : PV → PH → Prop} (q : Q v h) : wO (gcN h (.ok v h)) Q := by rw [gcN_len rfl, wO_ok]; exact q
/-! ### slots -/
theorem setP_nil (s : Sl) : setP [] s = s := rfl
theorem setP_cons (i : Nat) (v : PV) (r : List (Nat × PV)) (s : Sl) : setP ((i, v) :: r) s = setP r (s.set i (some v)) := rfl
theorem wipeP_nil (s : Sl) : wipeP s [] = s := rfl
theorem wipeP_cons (s : Sl) (v : Nat) (vs : List Nat) : wipeP s (v :: vs) = (wipeP s vs).set v none := rfl
theorem args0_1 (N : Nat) (x : PV) : args0 (N + 1) [x] = some x :: List.replicate N none := rfl
theorem args0_2 (N : Nat) (x y : PV) : args0 (N + 2) [x, y] = some x :: some y :: List.replicate N none := rfl
theorem args0_3 (N : Nat) (x y z : PV) : args0 (N + 3) [x, y, z] = some x :: some y :: some z :: List.replicate N none := rfl
theorem args0_4 (N : Nat) (x y z u : PV) : args0 (N + 4) [x, y, z, u] = some x :: some y :: some z :: some u :: List.replicate N none := rfl
theorem rep_0 (x : Option PV) : List.replicate 0 x = [] := rfl
theorem rep_s (n : Nat) (x : Option PV) : List.replicate (n + 1) x = x :: List.replicate n x := rfl

/-! ### the objects: some old ones, and new ones behind -/
/-! ### what reads an object, by the object -/
def kindO : Option MO → Option String
  | some (.lst _) => some "list"
  | some (.dK _) => some "dict"
  | some (.dT _) => some "dict"
  | none => none
theorem kindP_ref (h : PH) (n : Nat) : kindP h (.ref n) = kindO h[n]? := by
  unfold kindP kindO
  dsimp only
  all_goals cases h[n]? with
  | none => rfl
  | some o => cases o <;> rfl
theorem kindO_lst (xs : List PV) : kindO (some (.lst xs)) = some "list" := rfl
theorem kindO_dK (xs : List (L2.Key × PV)) : kindO (some (.dK xs)) = some "dict" := rfl
theorem kindP_str (h : PH) (x : Str) : kindP h (.str x) = some "str" := rfl
theorem dec_some (x : String) : decide (some x = some x) = true := decide_eq_true rfl
def appO (o : Option MO) (n : Nat) (y : PV) (h : PH) : Option (PV × PH) := match o with
  | some (.lst xs) => if decide (xs.length < 16777216) then some (.non, h.set n (.lst (xs ++ [y]))) else none
  | _ => none
theorem mAppend_ref (n : Nat) (y : PV) (h : PH) : mAppend (.ref n) [y] h = appO h[n]? n y h := by
  unfold mAppend lstAt appO
  dsimp only
  cases h[n]? with
  | none => rfl
  | some o => cases o <;> rfl
theorem appO_lst {xs : List PV} {n : Nat} {y : PV} {h : PH} (l : xs.length < 16777216) : appO (some (.lst xs)) n y h = some (.non, h.set n (.lst (xs ++ [y]))) := if_pos (decide_eq_true l)
theorem wP_app (xs : List PV) (n : Nat) (y : PV) (h : PH) (Q : PV → PH → Prop) : wP (appO (some (.lst xs)) n y h) Q = (xs.length < 16777216 ∧ Q .non (h.set n (.lst (xs ++ [y])))) := by
  by_cases l : xs.length < 16777216
  · rw [appO_lst l]
    simp [l, wP]
  · have : appO (some (.lst xs)) n y h = none := if_neg (by simpa using l)
    rw [this]
    simp [l, wP]
def popO (o : Option MO) (n : Nat) (h : PH) : Option (PV × PH) := match o with
  | some (.lst xs) => xs[xs.length - 1]?.map fun y => (y, h.set n (.lst xs.dropLast))
  | _ => none
theorem mPop_ref (n : Nat) (h : PH) : mPop (.ref n) [] h = popO h[n]? n h := by
  unfold mPop lstAt popO
  dsimp only
  cases h[n]? with
  | none => rfl
  | some o => cases o <;> rfl
theorem popO_snoc (xs : List PV) (x : PV) (n : Nat) (h : PH) : popO (some (.lst (xs ++ [x]))) n h = some (x, h.set n (.lst xs)) := by
  unfold popO
  simp
def extO (o p : Option MO) (n : Nat) (h : PH) : Option (PV × PH) := match o, p with
  | some (.lst xs), some (.lst zs) => if sizeOk (xs.length + zs.length) then some (.non, h.set n (.lst (xs ++ zs))) else none
  | _, _ => none
theorem mExtend_ref (n m : Nat) (h : PH) : mExtend (.ref n) [.ref m] h = extO h[n]? h[m]? n h := by
  unfold mExtend lstAt extO
  dsimp only
  cases h[n]? with
  | none => rfl
  | some o =>
    cases o with
    | lst xs =>
      cases h[m]? with
      | none => rfl
      | some p => cases p <;> rfl
    | _ => rfl
theorem wP_ext (xs zs : List PV) (n : Nat) (h : PH) (Q : PV → PH → Prop) : wP (extO (some (.lst xs)) (some (.lst zs)) n h) Q = (xs.length + zs.length ≤ 16777216 ∧ Q .non (h.set n (.lst (xs ++ zs)))) := by
  unfold extO sizeOk
  by_cases l : xs.length + zs.length ≤ 16777216
  · simp [l, wP]
  · simp [l, wP]
def seqL (o : Option MO) : Option (List PV) := match o with
  | some (.lst xs) => some xs
  | _ => none
theorem seqL_lst (xs : List PV) : seqL (some (.lst xs)) = some xs := rfl
theorem seqOf_ref (h : PH) (n : Nat) : seqOf h (.ref n) = seqL h[n]? := by
  unfold seqOf seqL
  dsimp only
  all_goals cases h[n]? with
  | none => rfl
  | some o => cases o <;> rfl
theorem seqOf_tup (h : PH) (xs : List PV) : seqOf h (.tup xs) = some xs := rfl
theorem seqOf_kt (h : PH) (xs : List PV) : seqOf h (.kt xs) = some xs := rfl
theorem seqOf_fz (h : PH) (xs : List PV) : seqOf h (.fz xs) = some xs := rfl
end Dn
namespace Dn
open PySem PySem.Spec PyProof.Rows L2 PySem.SeqAt
theorem map_none' {α β : Type} (f : α → β) : (none : Option α).map f = none := rfl
theorem fLen_tup' (h : PH) (xs : List PV) : fLen [.tup xs] h = some (.int (xs.length : Nat), h) := rfl
theorem fLen_kt (h : PH) (xs : List PV) : fLen [.kt xs] h = some (.int (xs.length : Nat), h) := rfl
theorem fLen_refO (h : PH) (n : Nat) : fLen [.ref n] h = (seqL h[n]?).map fun ys => (.int (ys.length : Nat), h) := by
  unfold fLen
  dsimp only
  rw [seqOf_ref]
theorem fTuple_refO (h : PH) (n : Nat) : fTuple [.ref n] h = (seqL h[n]?).map fun ys => (.tup ys, h) := by
  unfold fTuple
  dsimp only
  rw [seqOf_ref]
theorem fTuple_tup (h : PH) (xs : List PV) : fTuple [.tup xs] h = some (.tup xs, h) := rfl
theorem fList_refO (h : PH) (n : Nat) : fList [.ref n] h = (seqL h[n]?).map fun ys => (.ref h.length, h ++ [.lst ys]) := by
  unfold fList
  dsimp only
  rw [seqOf_ref]
theorem fList_tup (h : PH) (xs : List PV) : fList [.tup xs] h = some (.ref h.length, h ++ [.lst xs]) := rfl
/-- lists put together -/
def catO (o p : Option MO) (h : PH) : Option (PV × PH) := match o, p with
  | some (.lst xs), some (.lst ys) => if sizeOk (xs.length + ys.length) then some (.ref h.length, h ++ [.lst (xs ++ ys)]) else none
  | _, _ => none
theorem opAdd_ref (m n : Nat) (h : PH) : opAdd (.ref m) (.ref n) h = catO h[m]? h[n]? h := by
  unfold opAdd catO
  dsimp only
  all_goals cases h[m]? with
  | none => rfl
  | some o =>
    cases o with
    | lst xs =>
      cases h[n]? with
      | none => rfl
      | some p => cases p <;> rfl
    | _ => rfl
theorem wP_cat (xs ys : List PV) (h : PH) (Q : PV → PH → Prop) : wP (catO (some (.lst xs)) (some (.lst ys)) h) Q = (xs.length + ys.length ≤ 16777216 ∧ Q (.ref h.length) (h ++ [.lst (xs ++ ys)])) := by
  unfold catO sizeOk
  by_cases l : xs.length + ys.length ≤ 16777216
  · simp [l, wP]
  · simp [l, wP]
theorem opAdd_tup (xs ys : List PV) (h : PH) : opAdd (.tup xs) (.tup ys) h = if sizeOk (xs.length + ys.length) then some (.tup (xs ++ ys), h) else none := rfl
theorem wP_if (n : Nat) (a : PV) (h : PH) (Q : PV → PH → Prop) : wP (if sizeOk n = true then some (a, h) else none) Q = (n ≤ 16777216 ∧ Q a h) := by
  unfold sizeOk
  by_cases l : n ≤ 16777216
  · simp [l, wP]
  · simp [l, wP]
theorem wO_tup (xs : List PV) (h : PH) (Q : PV → PH → Prop) : wO (tupO xs h) Q = (xs.length ≤ 16777216 ∧ Q (.tup xs) h) := by
  unfold tupO
  rw [sizeLine_eq]
  by_cases l : xs.length ≤ 16777216
  · rw [if_pos l]; simp [l, wO]
  · rw [if_neg l]; simp [l, wO]
theorem wO_lst (xs : List PV) (h : PH) (Q : PV → PH → Prop) : wO (lstO xs h) Q = (xs.length ≤ 16777216 ∧ Q (.ref h.length) (h ++ [.lst xs])) := by
  unfold lstO
  rw [sizeLine_eq]
  by_cases l : xs.length ≤ 16777216
  · rw [if_pos l]; simp [l, wO]
  · rw [if_neg l]; simp [l, wO]
theorem lstO_1 (x : PV) (h : PH) : lstO [x] h = .ok (.ref h.length) (h ++ [.lst [x]]) := lstO_ok (by simp)
theorem lstO_2 (x y : PV) (h : PH) : lstO [x, y] h = .ok (.ref h.length) (h ++ [.lst [x, y]]) := lstO_ok (by simp)
theorem lstO_3 (x y z : PV) (h : PH) : lstO [x, y, z] h = .ok (.ref h.length) (h ++ [.lst [x, y, z]]) := lstO_ok (by simp)
theorem wP_map {α β : Type} (o : Option α) (f : α → β × PH) (Q : β → PH → Prop) : wP (o.map f) Q = ∃ a, o = some a ∧ Q (f a).1 (f a).2 := by
  cases o with
  | none => simp [wP]
  | some a =>
    rw [Option.map_some]
    generalize e : f a = p
    obtain ⟨b, h⟩ := p
    rw [wP_some]
    simp [e]
/-- beside an empty list -/
def neO (o p : Option MO) (m n : Nat) (h : PH) : Option (PV × PH) := match o, p with
  | some (.lst xs), some (.lst []) => some (.bl (decide (xs ≠ [])), h)
  | _, _ => opNe (.ref m) (.ref n) h
theorem opNe_ref (m n : Nat) (h : PH) : opNe (.ref m) (.ref n) h = neO h[m]? h[n]? m n h := by
  unfold neO
  split
  · rename_i xs e1 e2
    exact ne_nil e1 e2
  · rfl
theorem neO_nil (xs : List PV) (m n : Nat) (h : PH) : neO (some (.lst xs)) (some (.lst [])) m n h = some (.bl (decide (xs ≠ [])), h) := rfl
def eqO (o p : Option MO) (m n : Nat) (h : PH) : Option (PV × PH) := match o, p with
  | some (.lst xs), some (.lst []) => some (.bl (decide (xs = [])), h)
  | _, _ => opEq (.ref m) (.ref n) h
theorem eq_nil {h : PH} {m n : Nat} {xs : List PV} (e1 : h[m]? = some (.lst xs)) (e2 : h[n]? = some (.lst [])) : opEq (.ref m) (.ref n) h = some (.bl (decide (xs = [])), h) := by
  unfold opEq
  cases xs with
  | cons x r =>
    have : eqB h (.ref m) (.ref n) = some false := by
      unfold eqB lenB
      dsimp only
      rw [e1, e2]
      rfl
    rw [this]
    simp
  | nil =>
    have l : lenB h (.ref m) (.ref n) = none := by
      unfold lenB
      dsimp only
      rw [e1, e2]
      rfl
    have st : strB h (.ref m) (.ref n) = none := by
      unfold strB
      cases toD h 50 (.ref m) <;> rfl
    have : eqB h (.ref m) (.ref n) = some true := by
      unfold eqB
      rw [l, st]
      unfold eqV
      dsimp only
      rw [toD_nil (k := 49) e1, toD_nil (k := 49) e2]
      rfl
    rw [this]
    simp
theorem opEq_ref (m n : Nat) (h : PH) : opEq (.ref m) (.ref n) h = eqO h[m]? h[n]? m n h := by
  unfold eqO
  split
  · rename_i xs e1 e2
    exact eq_nil e1 e2
  · rfl
theorem eqO_nil (xs : List PV) (m n : Nat) (h : PH) : eqO (some (.lst xs)) (some (.lst [])) m n h = some (.bl (decide (xs = [])), h) := rfl
theorem opEq_nilT (xs : List PV) (h : PH) : opEq (.tup xs) (.tup []) h = some (.bl (decide (xs = [])), h) := by
  unfold opEq eqB lenB
  dsimp only
  rfl
theorem str_beq (a b : Str) : (b == a) = decide (a = b) := by
  by_cases e : a = b
  · subst e; simp
  · simp [e, Ne.symm e]
theorem opEq_str (a b : Str) (h : PH) : opEq (.str a) (.str b) h = some (.bl (decide (a = b)), h) := by
  unfold opEq eqB lenB strB toD
  dsimp only
  simp only [Rw.eqS, Option.map_some, str_beq]
theorem opNe_str (a b : Str) (h : PH) : opNe (.str a) (.str b) h = some (.bl (!decide (a = b)), h) := by
  unfold opNe neB toD
  dsimp only
  simp only [Rw.eqS, Option.map_some, str_beq]
theorem opNe_int (i j : Int) (h : PH) : opNe (.int i) (.int j) h = some (.bl (!decide (i = j)), h) := by
  unfold opNe neB toD
  dsimp only
  rfl
theorem opIs_non (x : PV) (h : PH) : opIs x .non h = some (.bl (isNon x), h) := by
  cases x <;> rfl
theorem opIsNot_non (x : PV) (h : PH) : opIsNot x .non h = some (.bl (!isNon x), h) := by
  cases x <;> rfl
theorem isNon_non : isNon .non = true := rfl
theorem isNon_tup (xs : List PV) : isNon (.tup xs) = false := rfl
theorem isNon_int (i : Int) : isNon (.int i) = false := rfl
def truO (o : Option Bool) (h : PH) : Out Bool := match o with
  | some b => .ok b h
  | none => .no
theorem tTru_ap (a : DE) (s : Sl) (h : PH) : tTru a s h = (a s h).bind fun x h => truO (truB h x) h := rfl
theorem truO_some (b : Bool) (h : PH) : truO (some b) h = .ok b h := rfl
theorem truB_bl (h : PH) (b : Bool) : truB h (.bl b) = some b := rfl
theorem truB_non (h : PH) : truB h .non = some false := rfl
theorem truB_int (h : PH) (i : Int) : truB h (.int i) = some (i != 0) := rfl
theorem truB_tup (h : PH) (xs : List PV) : truB h (.tup xs) = some (!xs.isEmpty) := rfl
def isiO (n : String) (o : Option String) (h : PH) : Out PV := match o with
  | some c => .ok (.bl (Rw.isC n c)) h
  | none => .no
theorem eIsi_ap (n : String) (a : DE) (s : Sl) (h : PH) : eIsi n a s h = (a s h).bind fun x h => isiO n (tyP h x) h := rfl
theorem isiO_some (n c : String) (h : PH) : isiO n (some c) h = .ok (.bl (Rw.isC n c)) h := rfl
theorem tyP_int (h : PH) (i : Int) : tyP h (.int i) = some "int" := rfl
theorem tyP_bl (h : PH) (i : Bool) : tyP h (.bl i) = some "bool" := rfl
theorem tyP_non (h : PH) : tyP h .non = some "NoneType" := rfl
theorem tyP_str (h : PH) (i : Str) : tyP h (.str i) = some "str" := rfl
theorem tyP_tup (h : PH) (i : List PV) : tyP h (.tup i) = some "tuple" := rfl
def andO (x : PV) (h : PH) (k : PH → Out PV) : Out PV := match x with
  | .bl true => k h
  | .bl false => .ok (.bl false) h
  | _ => .no
def orO (x : PV) (h : PH) (k : PH → Out PV) : Out PV := match x with
  | .bl true => .ok (.bl true) h
  | .bl false => k h
  | _ => .no
theorem eAnd_ap (a b : DE) (s : Sl) (h : PH) : eAnd a b s h = (a s h).bind fun x h => andO x h (b s) := by
  unfold eAnd andO
  congr 1
theorem eOr_ap (a b : DE) (s : Sl) (h : PH) : eOr a b s h = (a s h).bind fun x h => orO x h (b s) := by
  unfold eOr orO
  congr 1
theorem andO_true (h : PH) (k : PH → Out PV) : andO (.bl true) h k = k h := rfl
theorem andO_false (h : PH) (k : PH → Out PV) : andO (.bl false) h k = .ok (.bl false) h := rfl
theorem orO_true (h : PH) (k : PH → Out PV) : orO (.bl true) h k = .ok (.bl true) h := rfl
theorem orO_false (h : PH) (k : PH → Out PV) : orO (.bl false) h k = k h := rfl
theorem iteO_not {α : Type} (c : Bool) (a b : α) : iteO (!c) a b = iteO c b a := by cases c <;> rfl
theorem eChain_ap (f g : F2) (a b c : DE) (s : Sl) (h : PH) : eChain f g a b c s h = (a s h).bind fun x h => (b s h).bind fun y h => (Out.of (f x y h)).bind fun z h => andO z h fun h => (c s h).bind fun u h => Out.of (g y u h) := by
  unfold eChain andO
  congr 1
theorem wO_andD (p : Prop) [Decidable p] (h : PH) (k : PH → Out PV) (Q : PV → PH → Prop) : wO (andO (.bl (decide p)) h k) Q = ((p → wO (k h) Q) ∧ (¬ p → Q (.bl false) h)) := by
  by_cases c : p
  · simp [c, andO, wO]
  · simp [c, andO, wO]
theorem wO_orD (p : Prop) [Decidable p] (h : PH) (k : PH → Out PV) (Q : PV → PH → Prop) : wO (orO (.bl (decide p)) h k) Q = ((p → Q (.bl true) h) ∧ (¬ p → wO (k h) Q)) := by
  by_cases c : p
  · simp [c, orO, wO]
  · simp [c, orO, wO]
def notO (x : PV) (h : PH) : Out PV := match x with
  | .bl b => .ok (.bl (!b)) h
  | _ => .no
theorem eNot_ap (a : DE) (s : Sl) (h : PH) : eNot a s h = (a s h).bind fun x h => notO x h := by
  unfold eNot notO
  congr 1
theorem notO_bl (b : Bool) (h : PH) : notO (.bl b) h = .ok (.bl (!b)) h := rfl
def rg1O (v : PV) (h : PH) : Out Its' := match v with
  | .int j => if decide (-4611686018427387904 ≤ j ∧ j < 4611686018427387904) then .ok ([], rangeP 0 j.toNat) h else .no
  | _ => .no
theorem iRange1_ap (f : DE) (s : Sl) (h : PH) : iRange1 f s h = (f s h).bind fun v h => rg1O v h := rfl
theorem rg1O_ok {j : Int} {h : PH} (a : -4611686018427387904 ≤ j) (b : j < 4611686018427387904) : rg1O (.int j) h = .ok ([], rangeP 0 j.toNat) h := if_pos (decide_eq_true ⟨a, b⟩)
theorem wO_rg1 (j : Int) (h : PH) (Q : Its' → PH → Prop) : wO (rg1O (.int j) h) Q = ((-4611686018427387904 ≤ j ∧ j < 4611686018427387904) ∧ Q ([], rangeP 0 j.toNat) h) := by
  by_cases l : -4611686018427387904 ≤ j ∧ j < 4611686018427387904
  · rw [rg1O_ok l.1 l.2]
    simp [wO, l]
  · have : rg1O (.int j) h = .no := if_neg (by simpa using l)
    rw [this]
    simp [wO, l]
def rg2O (v w : PV) (h : PH) : Out Its' := match v, w with
  | .int i, .int j => if decide (-4611686018427387904 ≤ i ∧ i < 4611686018427387904 ∧ -4611686018427387904 ≤ j ∧ j < 4611686018427387904) then .ok ([], rangeP i (j - i).toNat) h else .no
  | _, _ => .no
theorem iRange2_ap (f g : DE) (s : Sl) (h : PH) : iRange2 f g s h = (f s h).bind fun v h => (g s h).bind fun w h => rg2O v w h := rfl
theorem wO_rg2 (i j : Int) (h : PH) (Q : Its' → PH → Prop) : wO (rg2O (.int i) (.int j) h) Q = ((-4611686018427387904 ≤ i ∧ i < 4611686018427387904 ∧ -4611686018427387904 ≤ j ∧ j < 4611686018427387904) ∧ Q ([], rangeP i (j - i).toNat) h) := by
  by_cases l : -4611686018427387904 ≤ i ∧ i < 4611686018427387904 ∧ -4611686018427387904 ≤ j ∧ j < 4611686018427387904
  · have : rg2O (.int i) (.int j) h = .ok ([], rangeP i (j - i).toNat) h := if_pos (decide_eq_true l)
    rw [this]
    simp only [wO, l, and_self, true_and]
  · have : rg2O (.int i) (.int j) h = .no := if_neg (by simpa using l)
    rw [this]
    simp only [wO, l, false_and]
def enO (o : Option MO) (n : Nat) (h : PH) : Out Its' := match o with
  | some (.lst xs) => .ok ([(n, xs)], enumP 0 xs) h
  | _ => .no
def enV (v : PV) (h : PH) : Out Its' := match v with
  | .tup xs => .ok ([], enumP 0 xs) h
  | .fz xs => .ok ([], enumP 0 xs) h
  | .ref n => enO h[n]? n h
  | _ => .no
theorem iEnumP_ap (f : DE) (s : Sl) (h : PH) : iEnumP f s h = (f s h).bind fun v h => enV v h := by
  unfold iEnumP
  congr 1
theorem enV_tup (xs : List PV) (h : PH) : enV (.tup xs) h = .ok ([], enumP 0 xs) h := rfl
theorem enV_ref (n : Nat) (h : PH) : enV (.ref n) h = enO h[n]? n h := rfl
theorem enO_lst (xs : List PV) (n : Nat) (h : PH) : enO (some (.lst xs)) n h = .ok ([(n, xs)], enumP 0 xs) h := rfl
theorem opSl_tup (xs : List PV) (lo hi : Option Int) (h : PH) : opSl (.tup xs) lo hi h = some (.tup (cutP xs lo hi), h) := rfl
theorem opNeg_int (i : Int) (h : PH) : opNeg (.int i) h = some (.int (-i), h) := rfl
theorem opMul_c (i j : Int) (h : PH) : opMul (.int i) (.int j) h = if (smallB i || smallB j) = true then some (.int (i * j), h) else none := rfl
theorem wP_mul (i j : Int) (h : PH) (Q : PV → PH → Prop) : wP (if (smallB i || smallB j) = true then some (.int (i * j), h) else none) Q = ((smallB i || smallB j) = true ∧ Q (.int (i * j)) h) := by
  by_cases l : (smallB i || smallB j) = true
  · rw [if_pos l]; simp only [wP, l, true_and]
  · rw [if_neg l]; simp only [wP, l, false_and]; simp
theorem eCallK_ap (m : DF) (pl : List Nat) (a : DA) (s : Sl) (h : PH) : eCallK m pl a s h = (a s h).bind fun xs h => m (atPl pl xs) h := rfl
theorem gTp_2 (g : List PV → Option (List (Nat × PV))) (a b : PV) : gTp 2 g (.tup [a, b]) = g [a, b] := rfl
theorem gTp_3 (g : List PV → Option (List (Nat × PV))) (a b c : PV) : gTp 3 g (.tup [a, b, c]) = g [a, b, c] := rfl
theorem gTp_4 (g : List PV → Option (List (Nat × PV))) (a b c d : PV) : gTp 4 g (.tup [a, b, c, d]) = g [a, b, c, d] := rfl
theorem gsNil_ap : gsNil [] = some [] := rfl
def gsO (a b : Option (List (Nat × PV))) : Option (List (Nat × PV)) := match a, b with
  | some a, some b => some (a ++ b)
  | _, _ => none
theorem gsCons_ap (g : GP) (r : List PV → Option (List (Nat × PV))) (v : PV) (vs : List PV) : gsCons g r (v :: vs) = gsO (g v) (r vs) := by
  unfold gsCons gsO
  dsimp only
  all_goals (cases g v <;> cases r vs <;> rfl)
theorem gsO_some (a b : List (Nat × PV)) : gsO (some a) (some b) = some (a ++ b) := rfl
end Dn
namespace Rw
open PySem L2
/-! ### data that can be shown: short leaves, not too deep, not too heavy -/
mutual
def strsO : PyData → Bool
  | .str x => PyData.strOk x
  | .list xs => strsOA xs
  | .tuple xs => strsOA xs
  | .dict kvs => strsOK kvs
  | _ => true
def strsOA : List PyData → Bool
  | [] => true
  | x :: xs => strsO x && strsOA xs
def strsOK : List (PyData × PyData) → Bool
  | [] => true
  | (a, b) :: r => strsO a && strsO b && strsOK r
end
structure Nc (k : Nat) (d : PyData) : Prop where
  sh : d.leavesShort 25 = true
  sw : d.showable = true
  dp : d.depth ≤ k
  so : strsO d = true
structure NcAll (k : Nat) (ds : List PyData) : Prop where
  sh : PyData.leavesShortAll 25 ds = true
  sw : PyData.showableAll ds = true
  dp : PyData.depthAll ds ≤ k
  so : strsOA ds = true
theorem Nc.up {k j : Nat} {d : PyData} (h : Nc k d) (e : k ≤ j) : Nc j d := ⟨h.sh, h.sw, Nat.le_trans h.dp e, h.so⟩
theorem NcAll.up {k j : Nat} {d : List PyData} (h : NcAll k d) (e : k ≤ j) : NcAll j d := ⟨h.sh, h.sw, Nat.le_trans h.dp e, h.so⟩
theorem Nc.non {k : Nat} : Nc k .none := ⟨rfl, rfl, Nat.zero_le _, rfl⟩
theorem Nc.bl {k : Nat} (b : Bool) : Nc k (.bool b) := ⟨rfl, rfl, Nat.zero_le _, rfl⟩
theorem Nc.int {k : Nat} {i : Int} (h : i.natAbs < 10 ^ 20) : Nc k (.int i) := by
  refine ⟨?_, ?_, Nat.zero_le _, rfl⟩
  · have e := int_text_length_le10 (k := 20) (by decide) h
    have e2 : (PyData.shown (.int i)).length ≤ 25 := by
      show (Str.ofString (toString i)).length ≤ 25
      rw [ofString_length]
      omega
    simp only [PyData.leavesShort, decide_eq_true e2]
  · have l : i.natAbs.log2 < 1920 := by
      by_cases h0 : i.natAbs = 0
      · rw [h0]
        decide
      · have q : i.natAbs.log2 < 69 := (Nat.log2_lt h0).mpr (Nat.lt_trans h (by decide))
        omega
    simp only [PyData.showable, decide_eq_true l]
theorem Nc.str {k : Nat} {x : Str} (h : (x.cps.toList.all fun c => decide (c < 1114112)) = true) : Nc k (.str x) := by
  have h2 := List.all_eq_true.mp h
  refine ⟨?_, rfl, Nat.zero_le _, ?_⟩
  · show (x.cps.toList.all fun c => decide (c < 16 ^ 8)) = true
    exact List.all_eq_true.mpr fun c hc => decide_eq_true (Nat.lt_trans (of_decide_eq_true (h2 c hc)) (by decide))
  · show PyData.strOk x = true
    unfold PyData.strOk
    rw [← Array.all_toList]
    exact h
theorem NcAll.nil {k : Nat} : NcAll k [] := ⟨rfl, rfl, Nat.zero_le _, rfl⟩
theorem NcAll.cons {k : Nat} {d : PyData} {ds : List PyData} (a : Nc k d) (b : NcAll k ds) : NcAll k (d :: ds) := by
  refine ⟨?_, ?_, ?_, by simp only [strsOA, a.so, b.so, Bool.and_self]⟩
  · simp only [PyData.leavesShortAll, a.sh, b.sh, Bool.and_self]
  · simp only [PyData.showableAll, a.sw, b.sw, Bool.and_self]
  · simp only [PyData.depthAll]
    exact Nat.max_le.mpr ⟨a.dp, b.dp⟩
theorem NcAll.parts {k : Nat} {d : PyData} {ds : List PyData} (h : NcAll k (d :: ds)) : Nc k d ∧ NcAll k ds := by
  have h1 : d.leavesShort 25 = true ∧ PyData.leavesShortAll 25 ds = true := by
    have q := h.sh
    simpa only [PyData.leavesShortAll, Bool.and_eq_true] using q
  have h2 : d.showable = true ∧ PyData.showableAll ds = true := by
    have q := h.sw
    simpa only [PyData.showableAll, Bool.and_eq_true] using q
  have h3 : d.depth ≤ k ∧ PyData.depthAll ds ≤ k := by
    have q := h.dp
    simp only [PyData.depthAll] at q
    exact Nat.max_le.mp q
  have h4 : strsO d = true ∧ strsOA ds = true := by
    have q := h.so
    simpa only [strsOA, Bool.and_eq_true] using q
  exact ⟨⟨h1.1, h2.1, h3.1, h4.1⟩, ⟨h1.2, h2.2, h3.2, h4.2⟩⟩
theorem NcAll.iff {k : Nat} : ∀ {ds : List PyData}, NcAll k ds ↔ ∀ d ∈ ds, Nc k d
  | [] => ⟨fun _ d h => absurd h (by simp), fun _ => NcAll.nil⟩
  | d :: ds => by
    constructor
    · intro h x hx
      rcases List.mem_cons.mp hx with e | e
      · rw [e]
        exact h.parts.1
      · exact NcAll.iff.mp h.parts.2 x e
    · intro h
      exact .cons (h d List.mem_cons_self) (NcAll.iff.mpr fun x hx => h x (List.mem_cons_of_mem _ hx))
theorem Nc.tup {k : Nat} {ds : List PyData} (h : NcAll k ds) : Nc (k + 1) (.tuple ds) := by
  refine ⟨?_, ?_, ?_, by simp only [strsO, h.so]⟩
  · simp only [PyData.leavesShort, h.sh]
  · simp only [PyData.showable, h.sw]
  · simp only [PyData.depth]
    have := h.dp
    omega
theorem Nc.lst {k : Nat} {ds : List PyData} (h : NcAll k ds) : Nc (k + 1) (.list ds) := by
  refine ⟨?_, ?_, ?_, by simp only [strsO, h.so]⟩
  · simp only [PyData.leavesShort, h.sh]
  · simp only [PyData.showable, h.sw]
  · simp only [PyData.depth]
    have := h.dp
    omega
theorem Nc.dct {k : Nat} {x : Str} {d : PyData} (hx : Nc k (.str x)) (h : Nc k d) : Nc (k + 1) (.dict [(.str x, d)]) := by
  refine ⟨?_, ?_, ?_, by have := hx.so; simp only [strsO] at this; simp only [strsO, strsOK, this, h.so, Bool.and_self]⟩
  · simp only [PyData.leavesShort, PyData.leavesShortKv, h.sh, Bool.and_true]
    exact hx.sh
  · simp only [PyData.showable, PyData.showableKv, h.sw, Bool.and_self]
  · simp only [PyData.depth, PyData.depthKv]
    have := h.dp
    omega
theorem NcAll.app {k : Nat} {ds es : List PyData} (a : NcAll k ds) (b : NcAll k es) : NcAll k (ds ++ es) := NcAll.iff.mpr fun d hd => by
  rcases List.mem_append.mp hd with e | e
  · exact NcAll.iff.mp a d e
  · exact NcAll.iff.mp b d e
theorem NcAll.sub {k : Nat} {ds es : List PyData} (a : NcAll k ds) (h : ∀ d ∈ es, d ∈ ds) : NcAll k es := NcAll.iff.mpr fun d hd => NcAll.iff.mp a d (h d hd)
theorem NcAll.set {k : Nat} {ds : List PyData} {d : PyData} (a : NcAll k ds) (b : Nc k d) (i : Nat) : NcAll k (ds.set i d) := NcAll.iff.mpr fun x hx => by
  rcases List.mem_or_eq_of_mem_set hx with e | e
  · exact NcAll.iff.mp a x e
  · rw [e]
    exact b
theorem wA_app : ∀ ds es : List PyData, PyData.weightAll (ds ++ es) = PyData.weightAll ds + PyData.weightAll es
  | [], es => by simp [PyData.weightAll]
  | d :: ds, es => by
    rw [List.cons_append]
    simp only [PyData.weightAll, wA_app ds es]
    omega
theorem wA_mem : ∀ {ds : List PyData} {d : PyData}, d ∈ ds → d.weight + 1 ≤ PyData.weightAll ds
  | e :: ds, d, h => by
    simp only [PyData.weightAll]
    rcases List.mem_cons.mp h with q | q
    · rw [q]
      omega
    · have := wA_mem q
      omega
theorem wA_take (n : Nat) (ds : List PyData) : PyData.weightAll (ds.take n) ≤ PyData.weightAll ds := by
  have h := wA_app (ds.take n) (ds.drop n)
  rw [List.take_append_drop] at h
  omega
theorem wA_drop (n : Nat) (ds : List PyData) : PyData.weightAll (ds.drop n) ≤ PyData.weightAll ds := by
  have h := wA_app (ds.take n) (ds.drop n)
  rw [List.take_append_drop] at h
  omega
theorem wA_set : ∀ (ds : List PyData) (i : Nat) (d : PyData), PyData.weightAll (ds.set i d) ≤ PyData.weightAll ds + d.weight + 1
  | [], _, _ => by simp [PyData.weightAll]
  | e :: ds, 0, d => by
    rw [List.set_cons_zero]
    simp only [PyData.weightAll]
    omega
  | e :: ds, i + 1, d => by
    rw [List.set_cons_succ]
    simp only [PyData.weightAll]
    have := wA_set ds i d
    omega
theorem w_int {i : Int} (h : i.natAbs < 10 ^ 20) : (PyData.int i).weight ≤ 70 := by
  simp only [PyData.weight]
  split
  · omega
  · rename_i h0
    have n0 : i.natAbs ≠ 0 := by
      intro e
      apply h0
      simp [Int.natAbs_eq_zero.mp e]
    have : i.natAbs.log2 < 69 := (Nat.log2_lt n0).mpr (Nat.lt_trans h (by decide))
    omega
theorem Nc.fits {k : Nat} {d : PyData} (h : Nc k d) (w : d.weight ≤ 500000) : d.shown.length ≤ sizeLine := by
  have e := PyData.shown_le 25 (by decide) d h.sh
  rw [sizeLine_eq]
  omega
end Rw
namespace Dn
open PySem PySem.Spec PyProof.Rows L2 PySem.SeqAt Rw

/-! ### a value as data, beside the deck -/
/-- the objects but for the first n -/
def msk (n : Nat) (h : PH) : PH := h.mapIdx fun i o => if i < n then .dT [] else o
def shownO : MO → Bool
  | .lst _ => true
  | .dK [(.inr _, _)] => true
  | _ => false
theorem allD_some {f : PV → Option PyData} : ∀ {xs : List PV} {ds : List PyData}, allD f xs = some ds ↔ ∃ l : xs.length = ds.length, ∀ (i : Nat) x d, xs[i]? = some x → ds[i]? = some d → f x = some d
  | [], ds => by
    constructor
    · intro e
      cases e
      exact ⟨rfl, fun i x d h => by simp at h⟩
    · rintro ⟨l, _⟩
      cases ds with
      | nil => rfl
      | cons _ _ => simp at l
  | x :: xs, ds => by
    constructor
    · intro e
      obtain ⟨d, es, rfl, h1, h2⟩ := allD_cons e
      obtain ⟨l, q⟩ := allD_some.mp h2
      refine ⟨by simp [l], fun i y z a b => ?_⟩
      cases i with
      | zero => cases a; cases b; exact h1
      | succ i => exact q i y z (by simpa using a) (by simpa using b)
    · rintro ⟨l, q⟩
      cases ds with
      | nil => simp at l
      | cons d ds =>
        unfold allD
        rw [q 0 x d rfl rfl, allD_some.mpr ⟨by simpa using l, fun i y z a b => q (i + 1) y z (by simpa using a) (by simpa using b)⟩]
theorem allD_mono {f f' : PV → Option PyData} : ∀ {xs : List PV} {ds : List PyData}, (∀ x ∈ xs, ∀ d, f x = some d → f' x = some d) → allD f xs = some ds → allD f' xs = some ds
  | [], _, _, e => e
  | x :: xs, ds, k, e => by
    obtain ⟨d, es, rfl, h1, h2⟩ := allD_cons e
    unfold allD
    rw [k x (by simp) d h1, allD_mono (fun y hy => k y (List.mem_cons_of_mem _ hy)) h2]
theorem allD_app {f : PV → Option PyData} : ∀ {xs ys : List PV} {ds es : List PyData}, allD f xs = some ds → allD f ys = some es → allD f (xs ++ ys) = some (ds ++ es)
  | [], _, _, _, e, q => by cases e; exact q
  | x :: xs, ys, ds, es, e, q => by
    obtain ⟨d, es2, rfl, h1, h2⟩ := allD_cons e
    show allD f (x :: (xs ++ ys)) = _
    unfold allD
    rw [h1, allD_app h2 q]
    rfl
theorem allD_take {f : PV → Option PyData} : ∀ {xs : List PV} {ds : List PyData} (n : Nat), allD f xs = some ds → allD f (xs.take n) = some (ds.take n)
  | _, _, 0, _ => rfl
  | [], _, _ + 1, e => by cases e; rfl
  | x :: xs, ds, n + 1, e => by
    obtain ⟨d, es2, rfl, h1, h2⟩ := allD_cons e
    show allD f (x :: xs.take n) = some (d :: es2.take n)
    unfold allD
    rw [h1, allD_take n h2]
theorem allD_drop {f : PV → Option PyData} : ∀ {xs : List PV} {ds : List PyData} (n : Nat), allD f xs = some ds → allD f (xs.drop n) = some (ds.drop n)
  | _, _, 0, e => e
  | [], _, _ + 1, e => by cases e; rfl
  | x :: xs, ds, n + 1, e => by
    obtain ⟨d, es2, rfl, h1, h2⟩ := allD_cons e
    exact allD_drop n h2
/-- a value as data, without tuples of the module -/
def toE (ph : PH) : Nat → PV → Option PyData
  | 0, _ => none
  | n + 1, x => match x with
    | .non => some .none
    | .bl b => some (.bool b)
    | .int i => some (.int i)
    | .str z => some (.str z)
    | .tup xs => (allD (toE ph n) xs).map .tuple
    | .kt _ => none
    | .fz _ => none
    | .ref k => match ph[k]? with
      | some (.lst xs) => (allD (toE ph n) xs).map .list
      | some (.dK [(.inr z, y)]) => (toE ph n y).map fun d => .dict [(.str z, d)]
      | _ => none
theorem toE_toD {h : PH} : ∀ (k : Nat) {v : PV} {d : PyData}, toE h k v = some d → toD h k v = some d
  | 0, _, _, e => by cases e
  | k + 1, v, d, e => by
    have ih := fun v d => toE_toD (h := h) k (v := v) (d := d)
    unfold toE at e
    unfold toD
    cases v with
    | tup xs =>
      dsimp only at e ⊢
      cases q : allD (toE h k) xs with
      | none => rw [q] at e; cases e
      | some ds => rw [q] at e; rw [allD_mono (fun x _ d => ih x d) q]; exact e
    | kt xs => cases e
    | ref n =>
      dsimp only at e ⊢
      split at e
      · rename_i xs eh
        try rw [eh]
        try dsimp only
        cases q : allD (toE h k) xs with
        | none => rw [q] at e; cases e
        | some ds => rw [q] at e; rw [allD_mono (fun x _ d => ih x d) q]; exact e
      · rename_i z y eh
        try rw [eh]
        try dsimp only
        cases q : toE h k y with
        | none => rw [q] at e; cases e
        | some ds => rw [q] at e; rw [ih _ _ q]; exact e
      · cases e
    | _ => exact e
theorem toE_mono {h : PH} : ∀ (k : Nat) {v : PV} {d : PyData}, toE h k v = some d → toE h (k + 1) v = some d
  | 0, _, _, e => by cases e
  | k + 1, v, d, e => by
    have ih := fun v d => toE_mono (h := h) k (v := v) (d := d)
    unfold toE at e ⊢
    cases v with
    | tup xs =>
      dsimp only at e ⊢
      cases q : allD (toE h k) xs with
      | none => rw [q] at e; cases e
      | some ds => rw [q] at e; rw [allD_mono (fun x _ d => ih x d) q]; exact e
    | kt xs => cases e
    | ref n =>
      dsimp only at e ⊢
      split at e
      · rename_i xs eh
        cases q : allD (toE h k) xs with
        | none => rw [q] at e; cases e
        | some ds => rw [q] at e; rw [allD_mono (fun x _ d => ih x d) q]; exact e
      · rename_i z y eh
        cases q : toE h k y with
        | none => rw [q] at e; cases e
        | some ds => rw [q] at e; rw [ih _ _ q]; exact e
      · cases e
    | _ => exact e
theorem toE_up {h : PH} {j k : Nat} {v : PV} {d : PyData} (l : j ≤ k) (e : toE h j v = some d) : toE h k v = some d := by
  obtain ⟨m, rfl⟩ := Nat.exists_eq_add_of_le l
  clear l
  induction m with
  | zero => exact e
  | succ m ih => exact toE_mono _ ih
theorem toE_ext {h h2 : PH} (q : ∀ (i : Nat) o, h[i]? = some o → shownO o = true → h2[i]? = some o) : ∀ (k : Nat) {v : PV} {d : PyData}, toE h k v = some d → toE h2 k v = some d
  | 0, _, _, e => by cases e
  | k + 1, v, d, e => by
    have ih := fun v d => toE_ext q k (v := v) (d := d)
    unfold toE at e ⊢
    cases v with
    | tup xs =>
      dsimp only at e ⊢
      cases q : allD (toE h k) xs with
      | none => rw [q] at e; cases e
      | some ds => rw [q] at e; rw [allD_mono (fun x _ d => ih x d) q]; exact e
    | kt xs => cases e
    | ref n =>
      dsimp only at e ⊢
      split at e
      · rename_i xs eh
        rw [q n _ eh rfl]
        dsimp only
        cases q : allD (toE h k) xs with
        | none => rw [q] at e; cases e
        | some ds => rw [q] at e; rw [allD_mono (fun x _ d => ih x d) q]; exact e
      · rename_i z y eh
        rw [q n _ eh rfl]
        dsimp only
        cases q : toE h k y with
        | none => rw [q] at e; cases e
        | some ds => rw [q] at e; rw [ih _ _ q]; exact e
      · cases e
    | _ => exact e
theorem toE_low {h : PH} : ∀ (k : Nat) {v : PV} {d : PyData}, toE h k v = some d → v.lowr h.length = true
  | 0, _, _, e => by cases e
  | k + 1, v, d, e => by
    have ih := fun v d => toE_low (h := h) k (v := v) (d := d)
    have all : ∀ {xs : List PV} {ds : List PyData}, allD (toE h k) xs = some ds → PV.lowrs h.length xs = true := by
      intro xs
      induction xs with
      | nil => intro _ _; rfl
      | cons x xs ih2 =>
        intro ds e
        obtain ⟨d, es, rfl, h1, h2⟩ := allD_cons e
        simp only [PV.lowrs, ih _ _ h1, ih2 h2, Bool.and_self]
    unfold toE at e
    cases v with
    | tup xs =>
      dsimp only at e
      cases q : allD (toE h k) xs with
      | none => rw [q] at e; cases e
      | some ds => exact all q
    | kt xs => cases e
    | fz xs => cases e
    | ref n =>
      dsimp only at e
      have : ∃ o, h[n]? = some o := by
        split at e
        · exact ⟨_, by assumption⟩
        · exact ⟨_, by assumption⟩
        · cases e
      obtain ⟨o, ho⟩ := this
      simp only [PV.lowr, decide_eq_true_eq]
      exact (List.getElem?_eq_some_iff.mp ho).1
    | _ => rfl
theorem msk_at {n : Nat} {h : PH} {i : Nat} {o : MO} (e : (msk n h)[i]? = some o) (s : shownO o = true) : n ≤ i ∧ h[i]? = some o := by
  unfold msk at e
  rw [List.getElem?_mapIdx] at e
  cases q : h[i]? with
  | none => rw [q] at e; cases e
  | some u =>
    rw [q] at e
    simp only [Option.map_some, Option.some.injEq] at e
    by_cases c : i < n
    · rw [if_pos c] at e
      subst e
      cases s
    · rw [if_neg c] at e
      exact ⟨by omega, by rw [e]⟩
theorem msk_of {n : Nat} {h : PH} {i : Nat} {o : MO} (l : n ≤ i) (e : h[i]? = some o) : (msk n h)[i]? = some o := by
  unfold msk
  rw [List.getElem?_mapIdx, e]
  simp only [Option.map_some, if_neg (show ¬ i < n by omega)]
theorem msk_len {n : Nat} {h : PH} : (msk n h).length = h.length := List.length_mapIdx
theorem msk_toD {n k : Nat} {h : PH} {v : PV} {d : PyData} (e : toE (msk n h) k v = some d) : toD h k v = some d := toE_toD k (toE_ext (fun _ _ q s => (msk_at q s).2) k e)
/-- data of objects from n on: k deep, w heavy at most -/
def Da (k w n : Nat) (h : PH) (v : PV) : Prop := ∃ d, toE (msk n h) k v = some d ∧ Nc k d ∧ d.weight ≤ w
def Das (k w n : Nat) (h : PH) (xs : List PV) : Prop := ∃ ds, allD (toE (msk n h) k) xs = some ds ∧ NcAll k ds ∧ PyData.weightAll ds ≤ w
/-- what is shown from n on in h is so in h2, from n2 on -/
def Kp (n : Nat) (h : PH) (n2 : Nat) (h2 : PH) : Prop := ∀ (i : Nat) o, n ≤ i → h[i]? = some o → shownO o = true → n2 ≤ i ∧ h2[i]? = some o
theorem Kp.msk {n n2 : Nat} {h h2 : PH} (k : Kp n h n2 h2) : ∀ (i : Nat) o, (msk n h)[i]? = some o → shownO o = true → (msk n2 h2)[i]? = some o := fun i o e s => by
  obtain ⟨a, b⟩ := msk_at e s
  obtain ⟨c, d⟩ := k i o a b s
  exact msk_of c d
theorem Da.kp {k w n n2 : Nat} {h h2 : PH} {v : PV} (a : Da k w n h v) (q : Kp n h n2 h2) : Da k w n2 h2 v := by
  obtain ⟨x, e, m, l⟩ := a
  exact ⟨x, toE_ext q.msk k e, m, l⟩
theorem Das.kp {k w n n2 : Nat} {h h2 : PH} {v : List PV} (a : Das k w n h v) (q : Kp n h n2 h2) : Das k w n2 h2 v := by
  obtain ⟨x, e, m, l⟩ := a
  exact ⟨x, allD_mono (fun _ _ d e => toE_ext q.msk k e) e, m, l⟩
/-- what the deck's draws leave -/
theorem Ov.kp {d g n : Nat} {h h2 : PH} (ld : d < n) (lg : g < n) (O : Ov d g h h2) : Kp n h n h2 := fun i o l e _ => by
  refine ⟨l, ?_⟩
  rw [O.at_ i (List.getElem?_eq_some_iff.mp e).1 (by omega) (by omega)]
  exact e
theorem Kp.less {n m : Nat} {h : PH} (l : m ≤ n) : Kp n h m h := fun i o a e _ => ⟨by omega, e⟩
theorem Kp.set {n i : Nat} {h : PH} {o : MO} (l : i < n) : Kp n h n (h.set i o) := fun j p a e _ => ⟨a, by rw [List.getElem?_set_ne (by omega)]; exact e⟩
theorem Kp.push {n : Nat} {h : PH} {o : MO} : Kp n h n (h ++ [o]) := fun j p a e _ => ⟨a, by rw [List.getElem?_append_left (List.getElem?_eq_some_iff.mp e).1]; exact e⟩
theorem Kp.trans {n n2 n3 : Nat} {h h2 h3 : PH} (a : Kp n h n2 h2) (b : Kp n2 h2 n3 h3) : Kp n h n3 h3 := fun i o l e s => by
  obtain ⟨x, y⟩ := a i o l e s
  exact b i o x y s
theorem Da.low {k w n : Nat} {h : PH} {v : PV} (a : Da k w n h v) : v.lowr h.length = true := by
  obtain ⟨d, e, _⟩ := a
  have := toE_low k e
  rwa [msk_len] at this
theorem Da.up {k w k2 w2 g : Nat} {h : PH} {v : PV} (a : Da k w g h v) (lk : k ≤ k2) (lw : w ≤ w2) : Da k2 w2 g h v := by
  obtain ⟨d, e, n, l⟩ := a
  exact ⟨d, toE_up lk e, n.up lk, Nat.le_trans l lw⟩
theorem Das.up {k w k2 w2 g : Nat} {h : PH} {v : List PV} (a : Das k w g h v) (lk : k ≤ k2) (lw : w ≤ w2) : Das k2 w2 g h v := by
  obtain ⟨d, e, n, l⟩ := a
  exact ⟨d, allD_mono (fun _ _ _ q => toE_up lk q) e, n.up lk, Nat.le_trans l lw⟩
theorem Da.non {k w g : Nat} {h : PH} : Da (k + 1) w g h .non := ⟨.none, rfl, .non, Nat.zero_le _⟩
theorem Da.bl {k w g : Nat} {h : PH} (b : Bool) : Da (k + 1) w g h (.bl b) := ⟨.bool b, rfl, .bl b, Nat.zero_le _⟩
theorem Da.int {k w g : Nat} {h : PH} {i : Int} (l : i.natAbs < 10 ^ 20) (lw : 70 ≤ w) : Da (k + 1) w g h (.int i) := ⟨.int i, rfl, .int l, Nat.le_trans (w_int l) lw⟩
theorem Da.str {k w g : Nat} {h : PH} {x : Str} (l : (x.cps.toList.all fun c => decide (c < 1114112)) = true) (lw : x.cps.size ≤ w) : Da (k + 1) w g h (.str x) := ⟨.str x, rfl, .str l, by simp only [PyData.weight]; exact lw⟩
theorem Das.nil {k w g : Nat} {h : PH} : Das k w g h [] := ⟨[], rfl, .nil, Nat.zero_le _⟩
theorem Das.cons {k w1 w2 w g : Nat} {h : PH} {x : PV} {xs : List PV} (a : Da k w1 g h x) (b : Das k w2 g h xs) (l : w1 + 1 + w2 ≤ w) : Das k w g h (x :: xs) := by
  obtain ⟨d, e, n, q⟩ := a
  obtain ⟨ds, e2, n2, q2⟩ := b
  refine ⟨d :: ds, by unfold allD; rw [e, e2], .cons n n2, ?_⟩
  simp only [PyData.weightAll]
  omega
theorem Das.app {k w1 w2 w g : Nat} {h : PH} {xs ys : List PV} (a : Das k w1 g h xs) (b : Das k w2 g h ys) (l : w1 + w2 ≤ w) : Das k w g h (xs ++ ys) := by
  obtain ⟨d, e, n, q⟩ := a
  obtain ⟨ds, e2, n2, q2⟩ := b
  refine ⟨d ++ ds, allD_app e e2, n.app n2, ?_⟩
  rw [wA_app]
  omega
theorem Das.take {k w g : Nat} {h : PH} {xs : List PV} (a : Das k w g h xs) (n : Nat) : Das k w g h (xs.take n) := by
  obtain ⟨d, e, m, q⟩ := a
  exact ⟨d.take n, allD_take n e, m.sub fun x hx => List.mem_of_mem_take hx, Nat.le_trans (wA_take n d) q⟩
theorem Das.drop {k w g : Nat} {h : PH} {xs : List PV} (a : Das k w g h xs) (n : Nat) : Das k w g h (xs.drop n) := by
  obtain ⟨d, e, m, q⟩ := a
  exact ⟨d.drop n, allD_drop n e, m.sub fun x hx => List.mem_of_mem_drop hx, Nat.le_trans (wA_drop n d) q⟩
theorem Das.at_ {k w g : Nat} {h : PH} {xs : List PV} {x : PV} (a : Das k w g h xs) (hx : x ∈ xs) : Da k w g h x := by
  obtain ⟨ds, e, n, l⟩ := a
  obtain ⟨i, li, ei⟩ := List.getElem_of_mem hx
  obtain ⟨ll, q⟩ := allD_some.mp e
  have l2 : i < ds.length := by omega
  have hd := List.getElem_mem l2
  refine ⟨ds[i], q i x _ (by rw [List.getElem?_eq_getElem li, ei]) (List.getElem?_eq_getElem l2), NcAll.iff.mp n _ hd, ?_⟩
  have := wA_mem hd
  omega
theorem Da.tup {k w g : Nat} {h : PH} {xs : List PV} (a : Das k w g h xs) : Da (k + 1) w g h (.tup xs) := by
  obtain ⟨ds, e, n, l⟩ := a
  refine ⟨.tuple ds, ?_, .tup n, by simp only [PyData.weight]; exact l⟩
  unfold toE
  dsimp only
  rw [e]
  rfl
theorem Da.lst {k w g i : Nat} {h : PH} {xs : List PV} (a : Das k w g h xs) (e : h[i]? = some (.lst xs)) (c : g ≤ i) : Da (k + 1) w g h (.ref i) := by
  obtain ⟨ds, q, n, l⟩ := a
  refine ⟨.list ds, ?_, .lst n, by simp only [PyData.weight]; exact l⟩
  unfold toE
  dsimp only
  rw [msk_of c e]
  dsimp only
  rw [q]
  rfl
theorem Da.dct {k w g i : Nat} {h : PH} {x : Str} {y : PV} (a : Da k w g h y) (e : h[i]? = some (.dK [(.inr x, y)])) (c : g ≤ i) (hx : (x.cps.toList.all fun c => decide (c < 1114112)) = true) : Da (k + 1) (w + x.cps.size + 2) g h (.ref i) := by
  obtain ⟨ds, q, n, l⟩ := a
  refine ⟨.dict [(.str x, ds)], ?_, .dct (.str hx) n, by simp only [PyData.weight, PyData.weightKv]; omega⟩
  unfold toE
  dsimp only
  rw [msk_of c e]
  dsimp only
  rw [q]
  rfl
end Dn
namespace Dn
open PySem PySem.Spec PyProof.Rows L2 PySem.SeqAt Rw

/-! ### loops, by what holds from turn to turn -/
theorem ne_w {α : Type} {o : Out α} {Q : α → PH → Prop} (q : wO o Q) : wO o.ne Q := by
  cases o with
  | ok a h => exact q
  | err _ _ => rw [wO_err] at q; exact q.elim
  | no => exact q
/-- a comprehension: J tells of the number of items done, the new list's items, the objects -/
theorem comp_w {gs : List (Nat × List PV)} {g : GP} {t : DT} {e : DE} {n : Nat} {s : Sl} (J : Nat → List PV → PH → Prop) {items : List PV} (hn : ∀ i acc h, J i acc h → h[n]? = some (.lst acc) ∧ okG gs h = true)
    (step : ∀ i x, items[i]? = some x → ∀ acc h, J i acc h → ∃ as, g x = some as ∧ wO (t (setP as s) h) fun b h1 => (b = true → wO (e (setP as s) h1) fun y h2 => h2[n]? = some (.lst acc) ∧ acc.length < 16777216 ∧ J (i + 1) (acc ++ [y]) (h2.set n (.lst (acc ++ [y])))) ∧ (b = false → J (i + 1) acc h1))
    {Q : Unit → PH → Prop} : ∀ (k : Nat) (acc : List PV) (h : PH), k ≤ items.length → J k acc h → (∀ acc h, J items.length acc h → Q () h) → wO (compItems gs g t e n s (items.drop k) h) Q := by
  intro k
  generalize hm : items.length - k = m
  induction m generalizing k with
  | zero =>
    intro acc h l j q
    have e : k = items.length := by omega
    subst e
    rw [List.drop_length]
    unfold compItems
    rw [if_pos (hn _ _ _ j).2, wO_ok]
    exact q acc h j
  | succ m ih =>
    intro acc h l j q
    have lt : k < items.length := by omega
    rw [List.drop_eq_getElem_cons lt]
    unfold compItems
    rw [if_pos (hn _ _ _ j).2]
    obtain ⟨as, e1, e2⟩ := step k items[k] (List.getElem?_eq_getElem lt) acc h j
    rw [e1]
    dsimp only
    rw [wO_bind]
    refine wO_mono (ne_w e2) fun b h1 ⟨yes, no⟩ => ?_
    cases b with
    | false =>
      rw [if_neg (by simp)]
      exact ih (k + 1) (by omega) acc h1 (by omega) (no rfl) q
    | true =>
      rw [if_pos rfl, wO_bind]
      refine wO_mono (ne_w (yes rfl)) fun y h2 ⟨a1, a2, a3⟩ => ?_
      rw [a1]
      dsimp only
      rw [if_pos a2]
      exact ih (k + 1) (by omega) _ _ (by omega) a3 q
/-- [.. for ..] as an expression -/
theorem lc_w {gs : List (Nat × List PV)} {g : GP} {t : DT} {e : DE} {s : Sl} {items : List PV} {h : PH} {Q : Unit → PH → Prop} (J : Nat → List PV → PH → Prop) (j0 : J 0 [] (h ++ [.lst []])) (hn : ∀ i acc h', J i acc h' → h'[h.length]? = some (.lst acc) ∧ okG gs h' = true)
    (step : ∀ i x, items[i]? = some x → ∀ acc h', J i acc h' → ∃ as, g x = some as ∧ wO (t (setP as s) h') fun b h1 => (b = true → wO (e (setP as s) h1) fun y h2 => h2[h.length]? = some (.lst acc) ∧ acc.length < 16777216 ∧ J (i + 1) (acc ++ [y]) (h2.set h.length (.lst (acc ++ [y])))) ∧ (b = false → J (i + 1) acc h1))
    (q : ∀ acc h, J items.length acc h → Q () h) : wO (compItems gs g t e h.length s items (h ++ [.lst []])) Q := by
  have := comp_w (n := h.length) (Q := Q) J hn step 0 [] (h ++ [.lst []]) (Nat.zero_le _) j0 q
  rwa [List.drop_zero] at this
def wL (o : OutS) (Nx N : Sl → PH → Prop) (R : PV → PH → Prop) : Prop := match o with
  | .nx s h => Nx s h
  | .ct s h => Nx s h
  | .bk s h => N s h
  | .rt v h => R v h
  | _ => False
/-- for: J tells of the number of items done, the slots, the objects -/
theorem for_w {gs : List (Nat × List PV)} {g : GP} {body : DS} {N : Sl → PH → Prop} {R : PV → PH → Prop} {items : List PV} (J : Nat → Sl → PH → Prop) (hg : ∀ i s h, J i s h → okG gs h = true)
    (step : ∀ i x, items[i]? = some x → ∀ s h, J i s h → ∃ as, g x = some as ∧ wL (body (setP as s) h) (J (i + 1)) N R) : ∀ (k : Nat) (s : Sl) (h : PH), k ≤ items.length → J k s h → (∀ s h, J items.length s h → N s h) → wS (forItems gs g body (items.drop k) s h) N R := by
  intro k
  generalize hm : items.length - k = m
  induction m generalizing k with
  | zero =>
    intro s h l j q
    have e : k = items.length := by omega
    subst e
    rw [List.drop_length]
    unfold forItems
    rw [if_pos (hg _ _ _ j), wS_nx]
    exact q s h j
  | succ m ih =>
    intro s h l j q
    have lt : k < items.length := by omega
    rw [List.drop_eq_getElem_cons lt]
    unfold forItems
    rw [if_pos (hg _ _ _ j)]
    obtain ⟨as, e1, e2⟩ := step k items[k] (List.getElem?_eq_getElem lt) s h j
    rw [e1]
    dsimp only
    cases eb : body (setP as s) h with
    | nx s2 h2 =>
      rw [eb] at e2
      exact ih (k + 1) (by omega) s2 h2 (by omega) e2 q
    | ct s2 h2 =>
      rw [eb] at e2
      exact ih (k + 1) (by omega) s2 h2 (by omega) e2 q
    | bk s2 h2 => rw [eb] at e2; dsimp only; rw [wS_nx]; exact e2
    | rt v h2 => rw [eb] at e2; dsimp only; rw [wS_rt]; exact e2
    | err z s2 h2 => rw [eb] at e2; exact e2.elim
    | no => rw [eb] at e2; exact e2.elim
theorem nx_w {o : OutS} {Nx : Sl → PH → Prop} {N : Sl → PH → Prop} {R : PV → PH → Prop} (q : wS o Nx R) : wL o Nx N R := by
  unfold wS at q
  cases o with
  | nx s h => exact q
  | rt s h => exact q
  | _ => exact q.elim
/-- for, whose body only goes on or returns -/
theorem for_ww {gs : List (Nat × List PV)} {g : GP} {body : DS} {N : Sl → PH → Prop} {R : PV → PH → Prop} {items : List PV} {s : Sl} {h : PH} (J : Nat → Sl → PH → Prop) (j0 : J 0 s h) (hg : ∀ i s h, J i s h → okG gs h = true)
    (step : ∀ i x, items[i]? = some x → ∀ s h, J i s h → ∃ as, g x = some as ∧ wS (body (setP as s) h) (fun s h => J (i + 1) s h) R) (q : ∀ s h, J items.length s h → N s h) : wS (forItems gs g body items s h) N R := by
  have := for_w (gs := gs) (g := g) (body := body) (N := N) (R := R) (items := items) J hg (fun i x hx s h j => by
    obtain ⟨as, e1, e2⟩ := step i x hx s h j
    exact ⟨as, e1, nx_w e2⟩) 0 s h (Nat.zero_le _) j0 q
  rwa [List.drop_zero] at this
theorem range_at {lo : Int} {n i : Nat} {x : PV} (h : (rangeP lo n)[i]? = some x) : x = .int (lo + (i : Nat)) ∧ i < n := by
  unfold rangeP at h
  rw [List.getElem?_map] at h
  by_cases l : i < n
  · rw [List.getElem?_range l] at h
    exact ⟨(Option.some.inj h).symm, l⟩
  · rw [List.getElem?_eq_none (by simpa using l)] at h
    cases h
theorem range_len (lo : Int) (n : Nat) : (rangeP lo n).length = n := by simp [rangeP]
end Dn
namespace Dn
open PySem PySem.Spec PyProof.Rows L2 PySem.SeqAt Rw

/-! ### draws, as what is wanted of them -/
theorem draw_w {d g : Nat} {n : Int} {h : PH} {Q : PV → PH → Prop} (D : Dk d g h) (hn2 : n < 1073741824) (q : ∀ (k : Int) h2, Dk d g h2 → Like d g h h2 → 0 ≤ k → (n < 2 → k = 0) → (2 ≤ n → k < n) → Q (.int k) h2) : wO (m__law_draw [.ref d, .int n] h) Q := by
  obtain ⟨k, h2, e, a, b, c, u, v⟩ := draw_ok D hn2
  exact wO_eq e (q k h2 a b c u v)
theorem pick_w {d g m : Nat} {xs : List PV} {h : PH} {Q : PV → PH → Prop} (D : Dk d g h) (hm : h[m]? = some (.lst xs)) (md : m ≠ d) (mg : m ≠ g) (hx : xs ≠ []) (hl : xs.length < 1000000000) (q : ∀ x h2, x ∈ xs → Dk d g h2 → Like d g h h2 → Q x h2) : wO (m__law_pick [.ref d, .ref m] h) Q := by
  obtain ⟨x, h2, e, a, b, c⟩ := pick_ok D hm md mg hx hl
  exact wO_eq e (q x h2 a b c)
/-- a pick of a new list -/
theorem pick_new {d g : Nat} {xs : List PV} {h : PH} {Q : PV → PH → Prop} (D : Dk d g h) (c : PV.lowrs (h.length + 1) xs = true) (hx : xs ≠ []) (hl : xs.length < 1000000000) (q : ∀ x h2, x ∈ xs → Dk d g h2 → Ov d g h h2 → Q x h2) : wO (m__law_pick [.ref d, .ref h.length] (h ++ [.lst xs])) Q := by
  have lt := D.lt
  exact pick_w (D.push (o := .lst xs) c) (get_last h _) (by omega) (by omega) hx hl fun x h2 m D2 L => q x h2 m D2 (Ov.push.trans L.ov)
theorem gc_dk {d g : Nat} {h h3 : PH} {v : PV} {Q : PV → PH → Prop} (D : Dk d g h) (D3 : Dk d g h3) (O : Ov d g h h3) (hv : v.lowr h.length = true) (q : ∀ h4, Dk d g h4 → Like d g h h4 → Q v h4) : wO (gcN h (.ok v h3)) Q := by
  obtain ⟨h4, e, a, b⟩ := D.gcO D3 O hv
  exact wO_eq e (q h4 a b)
theorem toE_cut {h h3 : PH} {n : Nat} (q : ∀ (i : Nat) o, i < n → h3[i]? = some o → shownO o = true → h[i]? = some o ∧ o.lowr n = true) : ∀ (k : Nat) {v : PV} {d : PyData}, v.lowr n = true → toE h3 k v = some d → toE h k v = some d
  | 0, _, _, _, e => by cases e
  | k + 1, v, d, lv, e => by
    have ih := fun v d => toE_cut q k (v := v) (d := d)
    unfold toE at e ⊢
    cases v with
    | tup xs =>
      dsimp only at e ⊢
      simp only [PV.lowr] at lv
      have lv := lowrs_iff.mp lv
      cases q : allD (toE h3 k) xs with
      | none => rw [q] at e; cases e
      | some ds => rw [q] at e; rw [allD_mono (fun x hx d => ih x d (lv x hx)) q]; exact e
    | kt xs => cases e
    | ref m =>
      dsimp only at e ⊢
      simp only [PV.lowr, decide_eq_true_eq] at lv
      split at e
      · rename_i xs eh
        obtain ⟨q1, q2⟩ := q m _ lv eh rfl
        rw [q1]
        dsimp only
        have lv := lowrs_iff.mp (show PV.lowrs n xs = true from q2)
        cases q : allD (toE h3 k) xs with
        | none => rw [q] at e; cases e
        | some ds => rw [q] at e; rw [allD_mono (fun x hx d => ih x d (lv x hx)) q]; exact e
      · rename_i z y eh
        obtain ⟨q1, q2⟩ := q m _ lv eh rfl
        rw [q1]
        dsimp only
        have lv : y.lowr n = true := by
          have q2 : kvLowr n [((Sum.inr z : L2.Key), y)] = true := q2
          simpa [kvLowr] using q2
        cases q : toE h3 k y with
        | none => rw [q] at e; cases e
        | some ds => rw [q] at e; rw [ih _ _ lv q]; exact e
      · cases e
    | _ => exact e
theorem Da.cut {k w : Nat} {h h3 h4 : PH} {v : PV} (a : Da k w h.length h3 v) (c : v.lowr h.length = true) : Da k w h.length h4 v := by
  obtain ⟨x, e, n, l⟩ := a
  refine ⟨x, toE_cut (n := h.length) (fun i o li e1 s => ?_) k c e, n, l⟩
  have := (msk_at e1 s).1
  omega
/-- whatever is forgotten: data stay data -/
theorem gc_da {d g k w : Nat} {h h3 : PH} {v : PV} {Q : PV → PH → Prop} (D : Dk d g h) (D3 : Dk d g h3) (O : Ov d g h h3) (a : Da k w h.length h3 v) (q : ∀ h4, Dk d g h4 → Ov d g h h4 → Da k w h.length h4 v → Q v h4) : wO (gcN h (.ok v h3)) Q := by
  by_cases c : v.lowr h.length = true
  · exact gc_dk D D3 O c fun h4 D4 L4 => q h4 D4 L4.ov (a.cut c)
  · rw [gcN_keep (by simpa using c), wO_ok]
    exact q h3 D3 O a

theorem draw_if {d g : Nat} {p : Prop} {a b : Int} {h : PH} {C : PV → PH → Prop} (D : Dk d g h) (la : 2 ≤ a ∧ a < 1073741824) (lb : 2 ≤ b ∧ b < 1073741824) (q : ∀ (k : Int) h2, Dk d g h2 → Like d g h h2 → 0 ≤ k → (p → k < a) → (¬ p → k < b) → C (.int k) h2) :
    (p → wO (m__law_draw [.ref d, .int a] h) C) ∧ (¬ p → wO (m__law_draw [.ref d, .int b] h) C) :=
  ⟨fun c => draw_w D la.2 fun k h2 D2 L k0 _ k2 => q k h2 D2 L k0 (fun _ => k2 la.1) fun n => absurd c n, fun c => draw_w D lb.2 fun k h2 D2 L k0 _ k2 => q k h2 D2 L k0 (fun n => absurd n c) fun _ => k2 lb.1⟩
/-! ### any value -/
theorem strs_ok {x : PV} (m : x ∈ [PV.str "in", .str "out", .str "", .str "-", .str "stand", .str "bow", .str "even", .str "rest", .str "go", .str "plain", .str "way +0 -0"]) : ∃ z : Str, x = .str z ∧ (z.cps.toList.all fun c => decide (c < 1114112)) = true ∧ z.cps.size ≤ 20 := by
  simp only [List.mem_cons, List.not_mem_nil, or_false] at m
  rcases m with e | e | e | e | e | e | e | e | e | e | e <;> exact ⟨_, e, by decide +kernel, by decide +kernel⟩
theorem ints_ok {x : PV} (m : x ∈ [PV.int (-1), .int 0, .int 1, .int 2, .int 4, .int 5, .int 6, .int 23, .int 24, .int (10 ^ 18 + 7)]) : ∃ z : Int, x = .int z ∧ z.natAbs < 10 ^ 20 := by
  simp only [List.mem_cons, List.not_mem_nil, or_false] at m
  rcases m with e | e | e | e | e | e | e | e | e | e <;> exact ⟨_, e, by decide +kernel⟩
def anyW : Nat → Nat
  | 0 => 70
  | n + 1 => 3 * (anyW n + 1) + 70
def dnev_5 := And.intro @dnev_4 (And.intro @List.getElem?_cons_zero.{0} (And.intro @List.getElem?_cons_succ.{0} (And.intro @List.set_cons_zero.{0} (And.intro @List.set_cons_succ.{0} (And.intro @setP_nil (And.intro @setP_cons (And.intro @wipeP_nil (And.intro @wipeP_cons (And.intro @args0_1 (And.intro @args0_2 (And.intro @args0_3 (And.intro @args0_4 (And.intro @rep_0 (And.intro @rep_s (And.intro @kindP_ref (And.intro @kindO_lst (And.intro @kindO_dK (And.intro @kindP_str (And.intro @dec_some (And.intro @mAppend_ref (And.intro @mPop_ref (And.intro @popO_snoc (And.intro @mExtend_ref (And.intro @seqL_lst (And.intro @seqOf_ref (And.intro @seqOf_tup (And.intro @seqOf_kt (And.intro @seqOf_fz (And.intro @map_none' (And.intro @fLen_tup' (And.intro @fLen_kt (And.intro @fLen_refO (And.intro @fTuple_refO (And.intro @fTuple_tup (And.intro @fList_refO (And.intro @fList_tup (And.intro @opAdd_ref (And.intro @opAdd_tup (And.intro @lstO_1 (And.intro @lstO_2 (And.intro @lstO_3 (And.intro @opNe_ref (And.intro @neO_nil (And.intro @opEq_ref (And.intro @eqO_nil (And.intro @opEq_nilT (And.intro @opEq_str (And.intro @opNe_str (And.intro @opNe_int (And.intro @opIs_non (And.intro @opIsNot_non (And.intro @isNon_non (And.intro @isNon_tup (And.intro @isNon_int (And.intro @tTru_ap (And.intro @truO_some (And.intro @truB_bl (And.intro @truB_non (And.intro @truB_int (And.intro @truB_tup (And.intro @eIsi_ap (And.intro @isiO_some (And.intro @tyP_int (And.intro @tyP_bl (And.intro @tyP_non (And.intro @tyP_str (And.intro @tyP_tup (And.intro @eAnd_ap (And.intro @eOr_ap (And.intro @andO_true (And.intro @andO_false (And.intro @orO_true (And.intro @orO_false (And.intro @decide_true (And.intro @decide_false (And.intro @Bool.not_false (And.intro @Bool.not_true (And.intro @Bool.not_not (And.intro @iteO_not (And.intro @eChain_ap (And.intro @eNot_ap (And.intro @notO_bl (And.intro @iRange1_ap (And.intro @iRange2_ap (And.intro @iEnumP_ap (And.intro @enV_tup (And.intro @enV_ref (And.intro @enO_lst (And.intro @opSl_tup (And.intro @opNeg_int (And.intro @opMul_c (And.intro @eCallK_ap (And.intro @gTp_2 (And.intro @gTp_3 (And.intro @gTp_4 (And.intro @List.cons_append.{0} (And.intro @List.nil_append.{0} (And.intro @gsNil_ap (And.intro @gsCons_ap (@gsO_some))))))))))))))))))))))))))))))))))))))))))))))))))))))))))))))))))))))))))))))))))))))))))))))))))))
def dnw_1 := And.intro @wO_ok (And.intro @wO_bind (And.intro @wO_of (And.intro @wP_some (And.intro @wS_nx (And.intro @wS_rt (And.intro @wS_then (And.intro @wS_seq (And.intro @wO_ite (And.intro @wS_ite (And.intro @wP_app (And.intro @wP_ext (And.intro @wP_cat (And.intro @wP_if (And.intro @wO_tup (And.intro @wO_lst (And.intro @wP_map (And.intro @wO_andD (And.intro @wO_orD (And.intro @wO_rg1 (And.intro @wO_rg2 (@wP_mul)))))))))))))))))))))
theorem any_w : ∀ (n : Nat) {deep : Nat} {d g : Nat} {h : PH} {Q : PV → PH → Prop} (D : Dk d g h) (ln : deep < n) (q : ∀ v h2, Dk d g h2 → Ov d g h h2 → Da (2 * deep + 1) (anyW deep) h.length h2 v → Q v h2), wO (m__law_any n [.ref d, .int deep] h) Q
  | 0, deep, _, _, _, _, _, ln, _ => absurd ln (Nat.not_lt_zero _)
  | n + 1, deep, d, g, h, Q, D, ln, q => by
    have w70 : 70 ≤ anyW deep := by cases deep <;> simp [anyW] <;> omega
    refine wO_mk (show [PV.ref d, PV.int deep].length = 2 from rfl) ?_
    simp only [dnev_5, dnif_1, dnw_1, g__law_any]
    refine draw_if D (by decide) (by decide) fun k h1 D1 L1 k0 k1 k2 => ?_
    have O1 := L1.ov
    have fin : ∀ {v : PV} {h3 : PH}, Dk d g h3 → Ov d g h h3 → Da (2 * deep + 1) (anyW deep) h.length h3 v → wO (gcN h (.ok v h3)) Q := fun D3 O3 a => gc_da D D3 O3 a (q _)
    simp only [dnev_5, dnif_1, dnw_1]
    refine ⟨fun c3 => ?_, fun c3 => ?_⟩
    · rw [get_last]
      simp only [dnev_5, dnif_1, dnw_1]
      have D2 := D1.push (o := .lst [.non, .bl true, .bl false]) rfl
      have O2 := O1.trans (Ov.push (o := .lst [.non, .bl true, .bl false]))
      obtain ⟨x, ex, mx⟩ := atI_at (xs := [PV.non, .bl true, .bl false]) (k := k) k0 (by simpa using c3)
      refine ⟨x, ex, fin D2 O2 ?_⟩
      simp only [List.mem_cons, List.not_mem_nil, or_false] at mx
      rcases mx with e | e | e <;> subst e
      · exact .non
      · exact .bl _
      · exact .bl _
    refine ⟨fun c6 => ?_, fun c6 => ?_⟩
    · have pw : ∀ h : PH, opPow (.int 10) (.int 18) h = some (.int (10 ^ 18), h) := fun _ => rfl
      simp only [pw, dnev_5, dnw_1]
      refine ⟨by simp, pick_new D1 rfl (by simp) (by simp) fun x h3 mx D3 O3 => ?_⟩
      rw [wS_rt]
      refine fin D3 (O1.trans O3) ?_
      obtain ⟨z, rfl, lz⟩ := ints_ok mx
      exact .int lz w70
    refine ⟨fun c10 => ?_, fun c10 => ?_⟩
    · refine ⟨by simp, pick_new D1 rfl (by simp) (by simp) fun x h3 mx D3 O3 => ?_⟩
      rw [wS_rt]
      refine fin D3 (O1.trans O3) ?_
      obtain ⟨z, rfl, lz, wz⟩ := strs_ok mx
      exact .str lz (by omega)
    have dp : deep ≠ 0 := fun e => by
      have := k2 (by omega)
      omega
    obtain ⟨dd, rfl⟩ : ∃ m, deep = m + 1 := ⟨deep - 1, by omega⟩
    refine draw_w D1 (by decide) fun j h2 D2 K2 j0 j1 j2 => ?_
    have j4 := j2 (by decide)
    have O2 := O1.trans K2.ov
    simp only [dnev_5, dnif_1, dnw_1]
    refine ⟨⟨by omega, by omega⟩, ?_⟩
    obtain ⟨ld, lg⟩ := D2.lt
    refine lc_w (fun i acc h' => Dk d g h' ∧ Ov d g h2 h' ∧ h'[h2.length]? = some (.lst acc) ∧ acc.length = i ∧ Das (2 * dd + 1) (i * (anyW dd + 1)) (h2.length + 1) h' acc) ⟨D2.push rfl, .push, get_last h2 _, rfl, .nil⟩ (fun i acc h' z => ⟨z.2.2.1, rfl⟩) (fun i x hx acc h' z => ?_) fun acc h3 z => ?_
    · obtain ⟨D3, O3, e3, rfl, a3⟩ := z
      obtain ⟨rfl, li⟩ := range_at hx
      refine ⟨_, rfl, ?_⟩
      simp only [dnev_5, dnif_1, dnw_1]
      refine ⟨fun _ => ?_, fun z => nomatch z⟩
      rw [show ((dd + 1 : Nat) : Int) - 1 = (dd : Nat) by omega]
      refine any_w n D3 (by omega) fun v h4 D4 O4 a4 => ?_
      have l3 : h2.length < h'.length := (List.getElem?_eq_some_iff.mp e3).1
      have e4 : h4[h2.length]? = some (.lst acc) := (O4.at_ _ l3 (by omega) (by omega)).trans e3
      have l4 : h2.length < h4.length := (List.getElem?_eq_some_iff.mp e4).1
      have kp : Kp (h2.length + 1) h' (h2.length + 1) (h4.set h2.length (.lst (acc ++ [v]))) := (O4.kp (by omega) (by omega)).trans (Kp.set (by omega))
      have a5 : Da (2 * dd + 1) (anyW dd) (h2.length + 1) (h4.set h2.length (.lst (acc ++ [v]))) v := (a4.kp (Kp.less (by omega))).kp (Kp.set (by omega))
      refine ⟨e4, by omega, D4.set (by omega) (by omega) (lowrs_iff.mpr fun y hy => ?_), (O3.trans O4).set (by omega), List.getElem?_set_self l4, by simp, (a3.kp kp).app (Das.cons (w := anyW dd + 1) (w2 := 0) a5 .nil (by omega)) (by rw [Nat.add_mul]; omega)⟩
      rcases List.mem_append.mp hy with m | m
      · exact D4.lst e4 y m
      · rw [List.mem_singleton.mp m]
        exact a4.low
    · obtain ⟨D3, O3, e3, l3, a3⟩ := z
      rw [range_len] at l3 a3
      have lj : j.toNat ≤ 3 := by omega
      have O4 := O2.trans O3
      have wt : j.toNat * (anyW dd + 1) ≤ 3 * (anyW dd + 1) := Nat.mul_le_mul_right _ lj
      have lh := L1.len
      have lh2 := K2.len
      have b3 : Das (2 * dd + 1) (3 * (anyW dd + 1)) h.length h3 acc := (a3.kp (Kp.less (by omega))).up (Nat.le_refl _) wt
      have c3 : Da (2 * dd + 2) (3 * (anyW dd + 1)) h.length h3 (.ref h2.length) := Da.lst b3 e3 (by omega)
      simp only [dnev_5, dnif_1, dnw_1, e3]
      refine ⟨fun c => fin D3 O4 (c3.up (by omega) (by simp only [anyW]; omega)), fun c => ⟨fun c2 => ?_, fun c2 => ?_⟩⟩
      · have new : isNewK (h3 ++ [MO.dK []]) h3.length = true := by
          unfold isNewK
          rw [get_last]
        have d3 : dispO h3.length [(.inr "0", .ref h2.length)] (h3 ++ [.dK []]) = .ok (.ref h3.length) (h3 ++ [.dK [(.inr "0", .ref h2.length)]]) := by
          unfold dispO
          rw [if_pos ⟨new, by simp⟩, set_last]
          rfl
        rw [d3]
        simp only [dnw_1]
        have l5 : h2.length < h3.length := (List.getElem?_eq_some_iff.mp e3).1
        have D5 := D3.push (o := .dK [(.inr "0", .ref h2.length)]) (by simp [MO.lowr, kvLowr, PV.lowr]; omega)
        refine fin D5 (O4.trans .push) ?_
        have c5 : Da (2 * dd + 2) (3 * (anyW dd + 1)) h.length (h3 ++ [MO.dK [((.inr "0" : L2.Key), PV.ref h2.length)]]) (.ref h2.length) := c3.kp Kp.push
        exact (Da.dct (x := "0") (i := h3.length) c5 (get_last h3 _) (by have := O4.len; omega) (by decide +kernel)).up (by omega) (by simp only [anyW]; show 3 * (anyW dd + 1) + 1 + 2 ≤ _; omega)
      · exact fin D3 O4 ((Da.tup b3).up (by omega) (by simp only [anyW]; omega))
end Dn
namespace Dn
open PySem PySem.Spec PyProof.Rows L2 PySem.SeqAt Rw

/-! ### x in (numbers) -/
theorem eqJ_int (h : PH) (i j : Int) : eqJ h (.int i) (.int j) = some (decide (j = i)) := by
  unfold eqJ toD
  dsimp only
  rfl
theorem anyO_int (h : PH) (i : Int) : ∀ js : List Int, anyO (eqJ h (.int i)) (js.map PV.int) = some (decide (i ∈ js))
  | [] => rfl
  | j :: js => by
    rw [List.map_cons]
    unfold anyO
    rw [eqJ_int, anyO_int h i js]
    simp only [List.mem_cons]
    congr 1
    by_cases e : j = i
    · simp [e]
    · simp [e, Ne.symm e]
theorem inSeq_int (h : PH) (i : Int) (js : List Int) : inSeq h (.int i) (js.map PV.int) = some (decide (i ∈ js)) := by
  unfold inSeq toD
  dsimp only
  exact anyO_int h i js
theorem opIn_int {h : PH} {c : PV} {i : Int} {js : List Int} (e : seqOf h c = some (js.map PV.int)) : opIn (.int i) c h = some (.bl (decide (i ∈ js)), h) := by
  unfold opIn inB
  cases c with
  | str _ => cases e
  | _ =>
    dsimp only
    rw [e]
    dsimp only
    rw [inSeq_int]
    rfl
theorem opIn_4 (i a b c d : Int) (h : PH) : opIn (.int i) (.tup [.int a, .int b, .int c, .int d]) h = some (.bl (decide (i ∈ [a, b, c, d])), h) := opIn_int (js := [a, b, c, d]) rfl
theorem opIn_2 (i a b : Int) (h : PH) : opIn (.int i) (.tup [.int a, .int b]) h = some (.bl (decide (i ∈ [a, b])), h) := opIn_int (js := [a, b]) rfl

/-! ### a whole number in a range -/
def wholeB (v : PV) (a b : Int) : Bool := match v with
  | .int i => decide (a ≤ i) && decide (i ≤ b)
  | _ => false
theorem ty_toD {h : PH} : ∀ {k : Nat} {v : PV} {d : PyData}, toD h k v = some d → ∃ c, tyP h v = some c
  | 0, _, _, e => by cases e
  | k + 1, v, d, e => by
    cases v with
    | ref n =>
      unfold toD at e
      dsimp only at e
      unfold tyP
      dsimp only
      split at e
      · rename_i xs eh; rw [eh]; exact ⟨_, rfl⟩
      · rename_i z y eh; rw [eh]; exact ⟨_, rfl⟩
      · cases e
    | _ => exact ⟨_, rfl⟩
theorem Da.ty {k w n : Nat} {h : PH} {v : PV} (a : Da k w n h v) : ∃ c, tyP h v = some c := by
  obtain ⟨d, e, _⟩ := a
  exact ty_toD (msk_toD e)
/-- what isinstance says -/
theorem isC_ty {h : PH} {v : PV} {c : String} (e : tyP h v = some c) : (Rw.isC "int" c = true → (∃ i, v = .int i) ∨ ∃ b, v = .bl b) ∧ (Rw.isC "tuple" c = true → (∃ xs, v = .tup xs) ∨ ∃ xs, v = .kt xs) ∧ (Rw.isC "str" c = true → ∃ x, v = .str x) ∧ (Rw.isC "bool" c = true → ∃ b, v = .bl b) := by
  cases v with
  | ref n =>
    unfold tyP at e
    dsimp only at e
    split at e <;> cases e <;> refine ⟨?_, ?_, ?_, ?_⟩ <;> intro q <;> exact absurd q (by decide)
  | int i => cases e; exact ⟨fun _ => .inl ⟨_, rfl⟩, fun q => absurd q (by decide), fun q => absurd q (by decide), fun q => absurd q (by decide)⟩
  | bl i => cases e; exact ⟨fun _ => .inr ⟨_, rfl⟩, fun q => absurd q (by decide), fun q => absurd q (by decide), fun _ => ⟨_, rfl⟩⟩
  | non => cases e; exact ⟨fun q => absurd q (by decide), fun q => absurd q (by decide), fun q => absurd q (by decide), fun q => absurd q (by decide)⟩
  | str i => cases e; exact ⟨fun q => absurd q (by decide), fun q => absurd q (by decide), fun _ => ⟨_, rfl⟩, fun q => absurd q (by decide)⟩
  | tup i => cases e; exact ⟨fun q => absurd q (by decide), fun _ => .inl ⟨_, rfl⟩, fun q => absurd q (by decide), fun q => absurd q (by decide)⟩
  | kt i => cases e; exact ⟨fun q => absurd q (by decide), fun _ => .inr ⟨_, rfl⟩, fun q => absurd q (by decide), fun q => absurd q (by decide)⟩
  | fz i => cases e; exact ⟨fun q => absurd q (by decide), fun q => absurd q (by decide), fun q => absurd q (by decide), fun q => absurd q (by decide)⟩
theorem isC_ii : Rw.isC "int" "int" = true := by decide
theorem isC_ib : Rw.isC "int" "bool" = true := by decide
theorem isC_bi : Rw.isC "bool" "int" = false := by decide
theorem isC_bb : Rw.isC "bool" "bool" = true := by decide
theorem isC_tt : Rw.isC "tuple" "tuple" = true := by decide
theorem isC_ss : Rw.isC "str" "str" = true := by decide
theorem iteO_and {α : Type} (c e : Bool) (a b : α) : iteO (c && e) a b = iteO c (iteO e a b) b := by cases c <;> rfl
def dnev_6 := And.intro @dnev_5 (And.intro @opIn_4 (And.intro @opIn_2 (And.intro @isC_ii (And.intro @isC_ib (And.intro @isC_bi (And.intro @isC_bb (And.intro @isC_tt (And.intro @isC_ss (@iteO_and)))))))))
theorem whole_w {v : PV} {a b : Int} {h : PH} {Q : PV → PH → Prop} (ht : ∃ c, tyP h v = some c) (q : Q (.bl (wholeB v a b)) h) : wO (m__law_whole [v, .int a, .int b] h) Q := by
  refine wO_mk (show [v, PV.int a, .int b].length = 3 from rfl) ?_
  obtain ⟨c, hc⟩ := ht
  obtain ⟨q1, _⟩ := isC_ty hc
  have no : (∀ i, v ≠ .int i) → wholeB v a b = false := fun z => by
    cases v with
    | int i => exact absurd rfl (z i)
    | _ => rfl
  cases v with
  | int i =>
    simp only [dnev_6, dnif_1, dnw_1, g__law_whole]
    refine ⟨fun c1 => ?_, fun c1 => ?_⟩
    · refine gc_same ?_
      unfold wholeB at q
      simpa [c1] using q
    · refine gc_same ?_
      unfold wholeB at q
      simpa [c1] using q
  | bl b =>
    simp only [dnev_6, dnif_1, dnw_1, g__law_whole]
    exact gc_same q
  | _ =>
    have e : Rw.isC "int" c = false := by
      cases z : Rw.isC "int" c with
      | false => rfl
      | true => rcases q1 z with ⟨i, e⟩ | ⟨b, e⟩ <;> cases e
    simp only [dnev_6, dnif_1, dnw_1, g__law_whole, hc, e]
    exact gc_same q
end Dn
namespace Dn
open PySem PySem.Spec PyProof.Rows L2 PySem.SeqAt Rw
theorem cut_to {xs : List PV} {k : Int} (h : 0 ≤ k) : cutP xs none (some k) = xs.take k.toNat := by
  unfold cutP
  have e : HT.sIx xs.length xs.length (some k) = min k.toNat xs.length := if_neg (by omega)
  rw [e, show HT.sIx xs.length 0 none = 0 from rfl, List.drop_zero, Nat.sub_zero]
  by_cases c : k.toNat ≤ xs.length
  · rw [Nat.min_eq_left c]
  · rw [Nat.min_eq_right (by omega), List.take_length, List.take_of_length_le (by omega)]
end Dn
namespace Dn
open PySem PySem.Spec PyProof.Rows L2 PySem.SeqAt Rw
theorem Das.get {k w n : Nat} {h : PH} {xs : List PV} {j : Int} (a : Das k w n h xs) (j0 : 0 ≤ j) (j1 : j < xs.length) : ∃ x, atI xs j = some x ∧ Da k w n h x := by
  obtain ⟨x, e, m⟩ := atI_at j0 j1
  exact ⟨x, e, a.at_ m⟩
/-! ### stores -/
def wF (o : Option PH) (N : PH → Prop) : Prop := match o with
  | some h => N h
  | none => False
theorem wS_hO (o : Option (Sl × PH)) (N : Sl → PH → Prop) (R : PV → PH → Prop) : wS (hO o) N R = wP o N := by
  cases o with
  | none => rw [wP_none]; exact wS_no N R
  | some p => cases p; rw [wP_some]; exact wS_nx _ _ N R
theorem wP_hTp (n : Nat) (g : GHs) (xs : List PV) (s : Sl) (h : PH) (N : Sl → PH → Prop) : wP (hTp n g (.tup xs) s h) N = (xs.length = n ∧ wP (g xs s h) N) := by
  unfold hTp
  by_cases l : xs.length = n
  · simp only [l, if_true, true_and]
  · simp only [l, if_false, wP, false_and]
theorem wP_hsCons (g : GH) (r : GHs) (v : PV) (vs : List PV) (s : Sl) (h : PH) (N : Sl → PH → Prop) : wP (hsCons g r (v :: vs) s h) N = wP (g v s h) fun s h => wP (r vs s h) N := by
  unfold hsCons
  dsimp only
  cases g v s h with
  | none => rw [Option.bind_none, wP_none, wP_none]
  | some p => cases p; rw [Option.bind_some, wP_some]
theorem wP_hsNil (s : Sl) (h : PH) (N : Sl → PH → Prop) : wP (hsNil [] s h) N = N s h := wP_some s h N
theorem wP_hNm (i : Nat) (v : PV) (s : Sl) (h : PH) (N : Sl → PH → Prop) : wP (hNm i v s h) N = N (s.set i (some v)) h := wP_some _ h N
theorem wP_hSub (f : F3) (o i : DE) (v : PV) (s : Sl) (h : PH) (N : Sl → PH → Prop) : wP (hSub f o i v s h) N = wO (o s h) fun ov h1 => wO (i s h1) fun iv h2 => wF (f ov iv v h2) fun h3 => N s h3 := by
  unfold hSub
  cases o s h with
  | no => rw [wO_no]; exact wP_none N
  | err _ _ => rw [wO_err]; exact wP_none N
  | ok ov h1 =>
    dsimp only
    rw [wO_ok]
    cases i s h1 with
    | no => rw [wO_no]; exact wP_none N
    | err _ _ => rw [wO_err]; exact wP_none N
    | ok iv h2 =>
      dsimp only
      rw [wO_ok]
      cases f ov iv v h2 with
      | none => rw [Option.map_none, wP_none]; rfl
      | some h3 => rw [Option.map_some, wP_some]; rfl
def setO (o : Option MO) (n : Nat) (k : Int) (v : PV) (h : PH) : Option PH := match o with
  | some (.lst xs) => (ixN xs.length k).map fun j => h.set n (.lst (xs.set j v))
  | _ => fSet (.ref n) (.int k) v h
theorem fSet_int (n : Nat) (k : Int) (v : PV) (h : PH) : fSet (.ref n) (.int k) v h = setO h[n]? n k v h := by
  unfold setO
  split
  · rename_i xs e
    unfold fSet
    dsimp only
    rw [e]
  · rfl
theorem wF_set (xs : List PV) (n : Nat) (k : Int) (v : PV) (h : PH) (N : PH → Prop) : wF (setO (some (.lst xs)) n k v h) N = ∃ j, ixN xs.length k = some j ∧ N (h.set n (.lst (xs.set j v))) := by
  unfold setO
  dsimp only
  cases ixN xs.length k with
  | none => simp [wF]
  | some j => simp [wF]
theorem ixN_of {n : Nat} {k : Int} (a : 0 ≤ k) (b : k < n) : ixN n k = some k.toNat := by
  unfold ixN
  rw [if_pos a, if_pos b]
theorem allD_set {f : PV → Option PyData} : ∀ {xs : List PV} {ds : List PyData} {x : PV} {d : PyData} (n : Nat), allD f xs = some ds → f x = some d → allD f (xs.set n x) = some (ds.set n d)
  | [], _, _, _, _, e, _ => by cases e; rfl
  | y :: xs, ds, x, d, 0, e, q => by
    obtain ⟨d2, es2, rfl, h1, h2⟩ := allD_cons e
    show allD f (x :: xs) = some (d :: es2)
    unfold allD
    rw [q, h2]
  | y :: xs, ds, x, d, n + 1, e, q => by
    obtain ⟨d2, es2, rfl, h1, h2⟩ := allD_cons e
    show allD f (y :: xs.set n x) = some (d2 :: es2.set n d)
    unfold allD
    rw [h1, allD_set n h2 q]
theorem Das.set {k w w2 w3 n : Nat} {h : PH} {xs : List PV} {x : PV} (a : Das k w n h xs) (b : Da k w2 n h x) (i : Nat) (l : w + w2 + 1 ≤ w3) : Das k w3 n h (xs.set i x) := by
  obtain ⟨ds, e, m, q⟩ := a
  obtain ⟨d, e2, m2, q2⟩ := b
  refine ⟨ds.set i d, allD_set i e e2, m.set m2 i, ?_⟩
  have := wA_set ds i d
  omega
theorem tupO_0 (h : PH) : tupO [] h = .ok (.tup []) h := tupO_ok (by simp)
end Dn
namespace Dn
open PySem PySem.Spec PyProof.Rows L2 PySem.SeqAt Rw

/-! ### ways -/
def stepP (p : Bool × Nat) : PV := .tup [.str (if p.1 then "in" else "out"), .int (p.2 : Nat)]
/-- what is held behind some steps, the last one first; none if they are not nested -/
def nest : List (Bool × Nat) → List Nat → Option (List Nat)
  | [], hs => some hs
  | (true, r) :: st, hs => if r ∈ hs then none else nest st (r :: hs)
  | (false, r) :: st, hs => match hs with
    | q :: hs => if r = q then nest st hs else none
    | [] => none
structure WayOk (rooms most : Nat) (st : List (Bool × Nat)) : Prop where
  two : 2 ≤ st.length
  few : st.length ≤ most
  low : ∀ p ∈ st, p.2 < rooms
  nst : nest st [] = some []
def natsP (rs : List Nat) : List PV := rs.map fun r => .int ((r : Nat) : Int)
def wayP (st : List (Bool × Nat)) : PV := .tup (st.map stepP)
theorem Dk.setL {d g i : Nat} {h : PH} {xs : List PV} (D : Dk d g h) (hd : i ≠ d) (hg : i ≠ g) (ho : PV.lowrs h.length xs = true) : Dk d g (h.set i (.lst xs)) := D.set hd hg ho
theorem lowrs_nats (n : Nat) (rs : List Nat) : PV.lowrs n (natsP rs) = true := lowrs_iff.mpr fun x hx => by
  obtain ⟨r, _, rfl⟩ := List.mem_map.mp hx
  rfl
def dnev_7 := And.intro @dnev_6 (And.intro @fSet_int (@tupO_0))
structure WayJ (rooms n d g s : Nat) (h1 : PH) (m : Nat) (sl : Sl) (h : PH) (left : Nat) (st : List (Bool × Nat)) (hs : List Nat) : Prop where
  dk : Dk d g h
  ov : Ov d g h1 h
  hS : h[s]? = some (.lst (st.map stepP))
  hI : h[s + 1]? = some (.lst (natsP hs.reverse))
  ns : nest st [] = some hs
  ln : st.length + 2 * left + hs.length = n
  lo : ∀ p ∈ st, p.2 < rooms
  hl : ∀ r ∈ hs, r < rooms
  ms : m = 2 * left + hs.length
end Dn
namespace Dn
open PySem PySem.Spec PyProof.Rows L2 PySem.SeqAt Rw

/-! ### doors -/
def rowP (n : Nat) (f : Nat → Str) : List PV := (List.range n).map fun j => .str (f j)
def putF {α : Type} (f : Nat → α) (i : Nat) (x : α) : Nat → α := fun k => if k = i then x else f k
theorem lowrs_row (m n : Nat) (f : Nat → Str) : PV.lowrs m (rowP n f) = true := lowrs_iff.mpr fun x hx => by
  obtain ⟨r, _, rfl⟩ := List.mem_map.mp hx
  rfl
def othersOf (n i : Nat) : List Nat := (List.range n).filter fun j => !decide (j = i)
structure DoorOk (n : Nat) (tab : Nat → Nat → Str) (ords : Nat → List Nat) : Prop where
  dia : ∀ i, i < n → tab i i = "-"
  wrd : ∀ i j, i < n → j < n → i ≠ j → tab i j ∈ (["even", "stand", "bow"] : List Str) ∧ (tab i j = "even" ↔ tab j i = "even")
  ord : ∀ i, i < n → (ords i).Perm (othersOf n i)
def ordsP (m : Nat) (ords : Nat → List Nat) : List PV := (List.range m).map fun i => .tup (natsP (ords i))
def wordsP : List PV := [.tup [.str "even", .str "even"], .tup [.str "even", .str "even"], .tup [.str "stand", .str "bow"], .tup [.str "bow", .str "stand"], .tup [.str "stand", .str "stand"], .tup [.str "bow", .str "bow"]]
/-- the table while it is filled -/
structure DoorJ (n d g W R O : Nat) (refs : Nat → Nat) (h1 : PH) (tab : Nat → Nat → Str) (ords : Nat → List Nat) (m : Nat) (h : PH) : Prop where
  dk : Dk d g h
  ov : Ov d g h1 h
  hW : h[W]? = some (.lst wordsP)
  hR : h[R]? = some (.lst ((List.range n).map fun i => PV.ref (refs i)))
  rw_ : ∀ i, i < n → h[refs i]? = some (.lst (rowP n (tab i)))
  hO : h[O]? = some (.lst (ordsP m ords))
end Dn
namespace Dn
open PySem PySem.Spec PyProof.Rows L2 PySem.SeqAt Rw
def mulO (o : Option MO) (m : Nat) (k : Int) (h : PH) : Option (PV × PH) := match o with
  | some (.lst xs) => if decide (-5000 ≤ k ∧ k ≤ 5000) && decide (xs.length ≤ 1000) then some (.ref h.length, h ++ [.lst (List.replicate k.toNat xs).flatten]) else none
  | _ => opMul (.ref m) (.int k) h
theorem opMul_ref (m : Nat) (k : Int) (h : PH) : opMul (.ref m) (.int k) h = mulO h[m]? m k h := by
  unfold mulO
  split
  · rename_i xs e
    unfold opMul
    dsimp only
    rw [e]
  · rfl
theorem mulO_one {x : PV} {m : Nat} {n : Nat} {h : PH} (l : n ≤ 5000) : mulO (some (.lst [x])) m (n : Nat) h = some (.ref h.length, h ++ [.lst (List.replicate n x)]) := by
  unfold mulO
  dsimp only
  rw [if_pos (by simp; omega), Int.toNat_natCast, List.flatten_replicate_singleton]
/-- the numbers of the rows and of the lists beside -/
structure Refs (n d g W R O : Nat) (refs : Nat → Nat) (h1 : PH) : Prop where
  lt : d < W ∧ g < W ∧ W < R ∧ R < O ∧ h1.length ≤ R ∧ W < h1.length
  rn : ∀ a, a < n → R < refs a ∧ refs a < O
  inj : ∀ a b, a < n → b < n → refs a = refs b → a = b
def putT (tab : Nat → Nat → Str) (i j : Nat) (x : Str) : Nat → Nat → Str := putF tab i (putF (tab i) j x)
theorem DoorJ.cell {n d g W R O : Nat} {refs : Nat → Nat} {h1 : PH} {tab : Nat → Nat → Str} {ords : Nat → List Nat} {m : Nat} {h : PH} (J : DoorJ n d g W R O refs h1 tab ords m h) (F : Refs n d g W R O refs h1) {i : Nat} (j : Nat) (x : Str) (li : i < n) : DoorJ n d g W R O refs h1 (putT tab i j x) ords m (h.set (refs i) (.lst (rowP n (putF (tab i) j x)))) := by
  obtain ⟨f1, f2, f3, f4, f5, f6⟩ := F.lt
  obtain ⟨r1, r2⟩ := F.rn i li
  have lr : refs i < h.length := (List.getElem?_eq_some_iff.mp (J.rw_ i li)).1
  refine ⟨J.dk.setL (by omega) (by omega) (lowrs_row _ _ _), J.ov.set (by omega), by rw [List.getElem?_set_ne (by omega)]; exact J.hW, by rw [List.getElem?_set_ne (by omega)]; exact J.hR, fun a ha => ?_, by rw [List.getElem?_set_ne (by omega)]; exact J.hO⟩
  unfold putT
  by_cases c : a = i
  · subst c
    rw [List.getElem?_set_self lr]
    simp [putF]
  · rw [List.getElem?_set_ne (fun e => c (F.inj i a li ha e).symm)]
    rw [show putF tab i (putF (tab i) j x) a = tab a by unfold putF; rw [if_neg c]]
    exact J.rw_ a ha
/-- the table so far: k says which pairs are done -/
structure TabI (n : Nat) (tab : Nat → Nat → Str) (k : Nat → Nat → Prop) : Prop where
  dia : ∀ a, a < n → tab a a = "-"
  don : ∀ a b, a < b → b < n → k a b → tab a b ∈ (["even", "stand", "bow"] : List Str) ∧ tab b a ∈ (["even", "stand", "bow"] : List Str) ∧ (tab a b = "even" ↔ tab b a = "even")
theorem TabI.put {n i j : Nat} {tab : Nat → Nat → Str} {k k2 : Nat → Nat → Prop} (T : TabI n tab k) (ij : i < j) {x y : Str} (hx : x ∈ (["even", "stand", "bow"] : List Str)) (hy : y ∈ (["even", "stand", "bow"] : List Str)) (xy : x = "even" ↔ y = "even") (hk : ∀ a b, a < b → b < n → k2 a b → k a b ∨ (a = i ∧ b = j)) : TabI n (putT (putT tab i j x) j i y) k2 := by
  have e : ∀ a b, putT (putT tab i j x) j i y a b = if a = j ∧ b = i then y else if a = i ∧ b = j then x else tab a b := fun a b => by
    unfold putT putF
    by_cases c1 : a = j
    · subst c1
      by_cases c2 : b = i
      · simp [c2]
      · have : ¬ a = i := by omega
        simp [c2, this]
    · by_cases c2 : a = i
      · subst c2
        by_cases c3 : b = j <;> simp [c1, c3]
      · simp [c1, c2]
  refine ⟨fun a ha => ?_, fun a b ab hb h2 => ?_⟩
  · rw [e, if_neg (by omega), if_neg (by omega)]
    exact T.dia a ha
  · rw [e a b, e b a]
    by_cases c : a = i ∧ b = j
    · obtain ⟨rfl, rfl⟩ := c
      rw [if_neg (by omega), if_pos ⟨rfl, rfl⟩, if_pos ⟨rfl, rfl⟩]
      exact ⟨hx, hy, xy⟩
    · rw [if_neg (by omega), if_neg c, if_neg (by omega), if_neg (by omega)]
      rcases hk a b ab hb h2 with z | z
      · exact T.don a b ab hb z
      · exact absurd z c
end Dn
namespace Dn
open PySem PySem.Spec PyProof.Rows L2 PySem.SeqAt Rw

/-- a name is given a value, then what follows -/
theorem asg_w {i : Nat} {f : DE} {b : DS} {s : Sl} {h : PH} {N : Sl → PH → Prop} {R : PV → PH → Prop} (P : PV → PH → Prop) (hf : wO (f s h) P) (k : ∀ v h', P v h' → wS (b (s.set i (some v)) h') N R) : wS (sSeq (sAsg (gNm i) f) b s h) N R := by
  rw [sSeq_ap, wS_seq, sAsg_ap, wS_then]
  refine wO_mono hf fun v h' p => ?_
  rw [gNm_ap, asgO_some, wS_nx]
  exact k v h' p
/-! ### houses -/
abbrev Room := Option ((Nat → Nat → Str) × (Nat → List Nat))
structure HouseOk (n r most : Nat) (rm : Nat → Room) (ws : Nat → List (Bool × Nat)) : Prop where
  rms : ∀ i, i < r → ∀ p, rm i = some p → DoorOk n p.1 p.2
  wys : ∀ i, i < n → WayOk r most (ws i)
theorem lowrs_snoc {m : Nat} {xs : List PV} {x : PV} (a : PV.lowrs m xs = true) (b : x.lowr m = true) : PV.lowrs m (xs ++ [x]) = true := lowrs_iff.mpr fun y hy => by
  rcases List.mem_append.mp hy with k | k
  · exact lowrs_iff.mp a y k
  · rw [List.mem_singleton.mp k]
    exact b
end Dn
namespace Dn
open PySem PySem.Spec PyProof.Rows L2 PySem.SeqAt Rw

/-! ### what leaves the old objects -/
structure Gr (h h2 : PH) : Prop where
  len : h.length ≤ h2.length
  at_ : ∀ i, i < h.length → h2[i]? = h[i]?
  cl : Cl h2.length h2
theorem Gr.ov {d g : Nat} {h h2 : PH} (G : Gr h h2) : Ov d g h h2 := ⟨G.len, fun i l _ _ => G.at_ i l⟩
theorem Gr.dk {d g : Nat} {h h2 : PH} (G : Gr h h2) (D : Dk d g h) : Dk d g h2 := by
  obtain ⟨ld, lg⟩ := D.lt
  obtain ⟨gs, a, t, w, D⟩ := D
  exact ⟨gs, a, t, w, (G.at_ d ld).trans D.dic, (G.at_ g lg).trans D.gre, D.pos, D.few, G.cl⟩
theorem Cl.push {h : PH} {o : MO} (c : Cl h.length h) (ho : o.lowr (h.length + 1) = true) : Cl (h ++ [o]).length (h ++ [o]) := phLowr_of fun i p e => by
  rw [List.length_append, List.length_singleton]
  by_cases c2 : i < h.length
  · rw [List.getElem?_append_left c2] at e
    exact MO.lowr_mono (Nat.le_succ _) p (phLowr_at c e)
  · rw [List.getElem?_append_right (by omega)] at e
    cases hk : i - h.length with
    | zero =>
      rw [hk] at e
      cases e
      exact ho
    | succ k =>
      rw [hk] at e
      simp at e
theorem Gr.refl {h : PH} (c : Cl h.length h) : Gr h h := ⟨Nat.le_refl _, fun _ _ => rfl, c⟩
theorem Gr.trans {h h2 h3 : PH} (a : Gr h h2) (b : Gr h2 h3) : Gr h h3 := ⟨Nat.le_trans a.len b.len, fun i l => (b.at_ i (Nat.lt_of_lt_of_le l a.len)).trans (a.at_ i l), b.cl⟩
theorem Gr.push {h : PH} {o : MO} (c : Cl h.length h) (ho : o.lowr (h.length + 1) = true) : Gr h (h ++ [o]) := ⟨by simp, fun i l => List.getElem?_append_left l, c.push ho⟩
theorem Gr.pushL {h h2 : PH} {xs : List PV} (G : Gr h h2) (ho : PV.lowrs (h2.length + 1) xs = true) : Gr h (h2 ++ [.lst xs]) := G.trans (.push (o := .lst xs) G.cl ho)
theorem Gr.set {h h2 : PH} {i : Nat} {xs : List PV} (G : Gr h h2) (l : h.length ≤ i) (ho : PV.lowrs h2.length xs = true) : Gr h (h2.set i (.lst xs)) := ⟨by rw [List.length_set]; exact G.len, fun j lj => by rw [List.getElem?_set_ne (by omega)]; exact G.at_ j lj, by rw [List.length_set]; exact G.cl.set (o := .lst xs) ho i⟩
/-- behind a def that gives back a value without new objects -/
theorem gc_gr {h h3 : PH} {v : PV} {Q : PV → PH → Prop} (c : Cl h.length h) (G : Gr h h3) (hv : v.lowr h.length = true) (q : Q v h) : wO (gcN h (.ok v h3)) Q := by
  have e : h3.take h.length = h := by
    apply List.ext_getElem?
    intro i
    by_cases l : i < h.length
    · rw [List.getElem?_take_of_lt l]
      exact G.at_ i l
    · rw [List.getElem?_eq_none (by rw [List.length_take]; omega), List.getElem?_eq_none (by omega)]
  rw [gcN_cut G.len hv (by rw [e]; exact c), wO_ok, e]
  exact q
/-! ### what a house tells -/
def evensOf (n : Nat) (f : Nat → Str) : List Nat := (List.range n).filter fun j => decide (f j = "even")
theorem atI_nat {xs : List PV} {x : PV} {i : Nat} (e : xs[i]? = some x) : atI xs ((i : Nat) : Int) = some x := by
  have l : i < xs.length := (List.getElem?_eq_some_iff.mp e).1
  unfold atI
  rw [ixN_of (by omega) (by omega)]
  simpa using e
end Dn
namespace Dn
open PySem PySem.Spec PyProof.Rows L2 PySem.SeqAt Rw

def tripP (room i j : Nat) : PV := .tup [.int room, .int i, .int j]
def tripsRow (n : Nat) (f : Nat → Str) (room i : Nat) : List PV := ((evensOf n f).filter fun j => decide (i < j)).map (tripP room i)
def tripsAt (n : Nat) (t : Nat → Nat → Str) (room m : Nat) : List PV := ((List.range m).map fun i => tripsRow n (t i) room i).flatten
def tripsOf (n : Nat) (p : Room) (room : Nat) : List PV := match p with
  | none => []
  | some p => tripsAt n p.1 room n
def tripsP (n : Nat) (rm : Nat → Room) (m : Nat) : List PV := ((List.range m).map fun room => tripsOf n (rm room) room).flatten
theorem flat_succ {α : Type} (f : Nat → List α) (m : Nat) : ((List.range (m + 1)).map f).flatten = ((List.range m).map f).flatten ++ f m := by
  rw [List.range_succ, List.map_append, List.flatten_append]
  simp
theorem evens_len (n : Nat) (f : Nat → Str) : (evensOf n f).length ≤ n := by
  unfold evensOf
  have := List.length_filter_le (fun j => decide (f j = "even")) (List.range n)
  simpa using this
theorem tripsRow_len (n : Nat) (f : Nat → Str) (room i : Nat) : (tripsRow n f room i).length ≤ n := by
  unfold tripsRow
  rw [List.length_map]
  have := List.length_filter_le (fun j => decide (i < j)) (evensOf n f)
  have := evens_len n f
  omega
theorem tripsAt_len (n : Nat) (t : Nat → Nat → Str) (room : Nat) : ∀ m, (tripsAt n t room m).length ≤ m * n
  | 0 => by simp [tripsAt]
  | m + 1 => by
    unfold tripsAt
    rw [flat_succ, List.length_append, Nat.succ_mul]
    have a := tripsAt_len n t room m
    have b := tripsRow_len n (t m) room m
    unfold tripsAt at a
    omega
theorem tripsOf_len (n : Nat) (p : Room) (room : Nat) : (tripsOf n p room).length ≤ n * n := by
  cases p with
  | none => exact Nat.zero_le _
  | some p => exact tripsAt_len n _ _ n
theorem tripsP_len (n : Nat) (rm : Nat → Room) : ∀ m, (tripsP n rm m).length ≤ m * (n * n)
  | 0 => by simp [tripsP]
  | m + 1 => by
    unfold tripsP
    rw [flat_succ, List.length_append, Nat.succ_mul]
    have a := tripsP_len n rm m
    have b := tripsOf_len n (rm m) m
    unfold tripsP at a
    omega
/-- an item of the triples -/
theorem tripsP_mem {n m : Nat} {rm : Nat → Room} {x : PV} (h : x ∈ tripsP n rm m) : ∃ room i j, x = tripP room i j ∧ room < m ∧ i < j ∧ j < n := by
  unfold tripsP at h
  obtain ⟨l, hl, hx⟩ := List.mem_flatten.mp h
  obtain ⟨room, hr, rfl⟩ := List.mem_map.mp hl
  unfold tripsOf at hx
  cases e : rm room with
  | none => rw [e] at hx; cases hx
  | some p =>
    rw [e] at hx
    obtain ⟨l, hl, hx⟩ := List.mem_flatten.mp (show x ∈ ((List.range n).map fun i => tripsRow n (p.1 i) room i).flatten from hx)
    obtain ⟨i, hi, rfl⟩ := List.mem_map.mp hl
    obtain ⟨j, hj, rfl⟩ := List.mem_map.mp hx
    have h1 := List.mem_filter.mp hj
    have h2 := List.mem_filter.mp h1.1
    exact ⟨room, i, j, rfl, by simpa using hr, of_decide_eq_true h1.2, by simpa using h2.1⟩
theorem nats_mem {rs : List Nat} {x : PV} (h : x ∈ natsP rs) : ∃ k, x = .int ((k : Nat) : Int) ∧ k ∈ rs := by
  obtain ⟨k, hk, rfl⟩ := List.mem_map.mp h
  exact ⟨k, rfl, hk⟩
def dnev_8 := And.intro @dnev_7 (And.intro @opMul_ref (And.intro @get_last (@set_last)))
end Dn
namespace Dn
open PySem PySem.Spec PyProof.Rows L2 PySem.SeqAt Rw

def spotP (p : Nat) (w : Str) (k : Nat) : PV := .tup [.int ((p : Nat) : Int), .str w, .int ((k : Nat) : Int)]
def bowsAt (t : Nat → Nat → Str) (o : Nat → List Nat) (i k : Nat) : Bool := decide (t i ((o i).getD k 0) = "bow")
/-- the spots of an entry of a door -/
def doorSpots (n : Nat) (t : Nat → Nat → Str) (o : Nat → List Nat) (i p : Nat) : List PV :=
  (List.range (evensOf n (t i)).length).map (spotP p "hand") ++ (List.range (n - 1)).map (spotP p "look") ++ ((List.range (n - 1)).filter (bowsAt t o i)).map (spotP p "yield") ++ ((List.range (n - 1)).filter (bowsAt t o i)).map (spotP p "low")
def entSpots (n : Nat) (rm : Nat → Room) (st : List (Bool × Nat)) (i p : Nat) : List PV := match st[p]? with
  | some (true, room) => match rm room with
    | some q => if n = 1 then [] else doorSpots n q.1 q.2 i p
    | none => []
  | _ => []
theorem lowrs_app {m : Nat} {xs ys : List PV} (a : PV.lowrs m xs = true) (b : PV.lowrs m ys = true) : PV.lowrs m (xs ++ ys) = true := lowrs_iff.mpr fun y hy => by
  rcases List.mem_append.mp hy with k | k
  · exact lowrs_iff.mp a y k
  · exact lowrs_iff.mp b y k
/-- what is looked at later -/
inductive BxP (p : Prop) : Type where
  | mk
@[irreducible] def Hold (p : Prop) (b : BxP p := .mk) : Prop := p
theorem hold {p : Prop} (q : p) : Hold p := by unfold Hold; exact q
theorem of_hold {p : Prop} (q : Hold p) : p := by unfold Hold at q; exact q
theorem seq_h {a b : DS} {s : Sl} {h : PH} {N : Sl → PH → Prop} {R : PV → PH → Prop} (q : wS (a s h) (fun s h => Hold (wS (b s h) N R)) R) : wS (sSeq a b s h) N R := by
  rw [sSeq_ap, wS_seq]
  exact wS_mono q (fun _ _ x => of_hold x) fun _ _ x => x
def par3O (i j l : Nat) (vs : List PV) (s : Sl) (h : PH) : OutS := match vs with
  | [v, w, u] => .nx (((s.set i (some v)).set j (some w)).set l (some u)) h
  | _ => .no
theorem sPar3_ap (i j l : Nat) (f : DA) (s : Sl) (h : PH) : sPar3 i j l f s h = (f s h).then s fun vs h => par3O i j l vs s h := rfl
theorem par3O_3 (i j l : Nat) (v w u : PV) (s : Sl) (h : PH) : par3O i j l [v, w, u] s h = .nx (((s.set i (some v)).set j (some w)).set l (some u)) h := rfl
/-- the list that a def fills, its first new object -/
structure Fl (h : PH) (F : Nat) (xs : List PV) (H : PH) : Prop where
  at_ : H[F]? = some (.lst xs)
  gr : Gr h H
  le : h.length ≤ F
theorem Fl.lt {h : PH} {F : Nat} {xs : List PV} {H : PH} (K : Fl h F xs H) : F < H.length := (List.getElem?_eq_some_iff.mp K.at_).1
theorem Fl.low {h : PH} {F : Nat} {xs : List PV} {H : PH} (K : Fl h F xs H) : PV.lowrs H.length xs = true := phLowr_at K.gr.cl K.at_
theorem Fl.see {h : PH} {F : Nat} {xs ys : List PV} {H : PH} (K : Fl h F xs H) : (H ++ [MO.lst ys])[F]? = some (.lst xs) := by
  rw [List.getElem?_append_left K.lt]
  exact K.at_
theorem Fl.push {h : PH} {F : Nat} {xs ys : List PV} {H : PH} (K : Fl h F xs H) (ly : PV.lowrs (H.length + 1) ys = true) : Fl h F xs (H ++ [MO.lst ys]) := ⟨K.see, K.gr.pushL ly, K.le⟩
theorem Fl.ext {h : PH} {F : Nat} {xs ys : List PV} {H : PH} (K : Fl h F xs H) (ly : PV.lowrs H.length ys = true) : Fl h F (xs ++ ys) ((H ++ [MO.lst ys]).set F (.lst (xs ++ ys))) := by
  have l1 : (H ++ [MO.lst ys]).length = H.length + 1 := by simp
  have lt := K.lt
  refine ⟨List.getElem?_set_self (by omega), (K.gr.pushL (lowrs_mono (Nat.le_succ _) _ ly)).set K.le ?_, K.le⟩
  rw [l1]
  exact lowrs_app (lowrs_mono (Nat.le_succ _) _ K.low) (lowrs_mono (Nat.le_succ _) _ ly)

def dnev_9 := And.intro @dnev_8 (And.intro @sPar3_ap (@par3O_3))
def dnw_2 := And.intro @dnw_1 (And.intro @wS_hO (And.intro @wP_hTp (And.intro @wP_hsCons (And.intro @wP_hsNil (And.intro @wP_hNm (And.intro @wP_hSub (And.intro @wF_set (And.intro @true_imp_iff (And.intro @not_true_eq_false (And.intro @false_imp_iff (And.intro @and_true (@true_and))))))))))))
end Dn
namespace Dn
open PySem PySem.Spec PyProof.Rows L2 PySem.SeqAt Rw

/-! ### standings -/
def SpotOk (n : Nat) (rm : Nat → Room) (st : List (Bool × Nat)) (i : Nat) (x : PV) : Prop := x = spotP 0 "rest" 0 ∨ ∃ p, p < st.length ∧ (x = spotP p "go" 0 ∨ x ∈ entSpots n rm st i p)
/-- a token of these two -/
def TokOk (x y : PV) : Prop := ∃ room i j w : Nat, x = tripP room i j ∧ (w = i ∨ w = j) ∧ y = .tup [.int room, .int i, .int j, .int w]
structure StandOk (n r : Nat) (rm : Nat → Room) (ws : Nat → List (Bool × Nat)) (sp tk : List PV) : Prop where
  ls : sp.length = n
  sps : ∀ (i : Nat) (x : PV), sp[i]? = some x → SpotOk n rm (ws i) i x
  lt : tk.length = (tripsP n rm r).length
  tks : ∀ (i : Nat) (x y : PV), (tripsP n rm r)[i]? = some x → tk[i]? = some y → TokOk x y
end Dn
namespace Dn
open PySem PySem.Spec PyProof.Rows L2 PySem.SeqAt Rw

/-! ### values -/
theorem opNe_nilT (xs : List PV) (h : PH) : opNe (.tup xs) (.tup []) h = some (.bl (!decide (xs = [])), h) := by
  have q : neB h (.tup xs) (.tup []) = (eqB h (.tup xs) (.tup [])).map fun b => !b := by
    unfold neB
    cases toD h 50 (.tup xs) <;> rfl
  have e : eqB h (.tup xs) (.tup []) = some (decide (xs = [])) := by
    unfold eqB lenB
    rfl
  unfold opNe
  rw [q, e]
  rfl
theorem w_small {i : Int} (h0 : 0 ≤ i) (h : i < 64) : (PyData.int i).weight ≤ 7 := by
  obtain ⟨k, rfl⟩ := Int.eq_ofNat_of_zero_le h0
  simp only [PyData.weight]
  split
  · omega
  · rename_i c
    have : ((k : Nat) : Int).natAbs = k := rfl
    rw [this]
    have k0 : k ≠ 0 := fun e => by subst e; exact c rfl
    have : k.log2 < 6 := (Nat.log2_lt k0).mpr (by omega)
    omega
theorem Da.small {k w n : Nat} {h : PH} {i : Int} (h0 : 0 ≤ i) (l : i < 64) (lw : 7 ≤ w) : Da (k + 1) w n h (.int i) := ⟨.int i, rfl, .int (by omega), Nat.le_trans (w_small h0 l) lw⟩
theorem Das.all {k w n : Nat} {h : PH} : ∀ {xs : List PV}, (∀ x ∈ xs, Da k w n h x) → Das k (xs.length * (w + 1)) n h xs
  | [], _ => .nil
  | x :: xs, a => Das.cons (a x List.mem_cons_self) (Das.all fun y hy => a y (List.mem_cons_of_mem _ hy)) (by rw [List.length_cons, Nat.succ_mul]; omega)
theorem Da.pair {k w1 w2 w n : Nat} {h : PH} {xs ys : List PV} (a : Das k w1 n h xs) (b : Das k w2 n h ys) (l : w1 + w2 + 2 ≤ w) : Da (k + 2) w n h (.tup [.tup xs, .tup ys]) := Da.tup (Das.cons (Da.tup a) (Das.cons (w2 := 0) (Da.tup b) .nil (Nat.le_refl _)) (by omega))
end Dn
namespace Dn
open PySem PySem.Spec PyProof.Rows L2 PySem.SeqAt Rw

/-! ### the program's own defs: they change nothing -/
/-- a value that is data, with texts as they are -/
def Vl (h : PH) (x : PV) : Prop := ∃ d, toE h 20 x = some d ∧ strsO d = true
theorem Da.vl {k w n : Nat} {h : PH} {v : PV} (a : Da k w n h v) (l : k ≤ 20) : Vl h v := by
  obtain ⟨d, e, nc, _⟩ := a
  exact ⟨d, toE_up l (toE_ext (fun _ _ q s => (msk_at q s).2) k e), nc.so⟩
theorem Vl.ty {h : PH} {v : PV} (a : Vl h v) : ∃ c, tyP h v = some c := by
  obtain ⟨d, e, _⟩ := a
  exact ty_toD (toE_toD 20 e)
theorem Vl.at_ {h : PH} {xs : List PV} {x : PV} (a : Vl h (.tup xs)) (m : x ∈ xs) : Vl h x := by
  obtain ⟨d, e, so⟩ := a
  unfold toE at e
  dsimp only at e
  cases q : allD (toE h 19) xs with
  | none => rw [q] at e; cases e
  | some ds =>
    rw [q] at e
    cases e
    obtain ⟨l, k⟩ := allD_some.mp q
    obtain ⟨i, li, rfl⟩ := List.getElem_of_mem m
    refine ⟨ds[i]'(by omega), toE_mono 19 (k i _ _ (List.getElem?_eq_getElem li) (List.getElem?_eq_getElem (by omega))), ?_⟩
    have all_ : ∀ {ds : List PyData}, strsOA ds = true → ∀ d ∈ ds, strsO d = true := by
      intro ds
      induction ds with
      | nil => intro _ d hd; cases hd
      | cons y ys ih =>
        intro s d hd
        simp only [strsOA, Bool.and_eq_true] at s
        rcases List.mem_cons.mp hd with e | e
        · rw [e]; exact s.1
        · exact ih s.2 d e
    exact all_ (by simpa only [strsO] using so) _ (List.getElem_mem _)
theorem Vl.ext {h h2 : PH} {v : PV} (a : Vl h v) (G : Gr h h2) : Vl h2 v := by
  obtain ⟨d, e, so⟩ := a
  refine ⟨d, toE_ext (fun i o q _ => ?_) 20 e, so⟩
  rw [G.at_ i (List.getElem?_eq_some_iff.mp q).1]
  exact q
def intB : PV → Bool
  | .int _ => true
  | _ => false
/-- its kinds -/
theorem ty_int {h : PH} {x : PV} {c : String} (e : tyP h x = some c) : Rw.isC "int" c = (intB x || match x with | .bl _ => true | _ => false) := by
  obtain ⟨q, _⟩ := isC_ty e
  cases x with
  | int i => cases e; exact isC_ii
  | bl i => cases e; exact isC_ib
  | _ =>
    cases z : Rw.isC "int" c with
    | false => rfl
    | true => rcases q z with ⟨i, e⟩ | ⟨b, e⟩ <;> cases e
theorem ty_str {h : PH} {x : PV} {c : String} (e : tyP h x = some c) : Rw.isC "str" c = match x with | .str _ => true | _ => false := by
  obtain ⟨_, _, q, _⟩ := isC_ty e
  cases x with
  | str i => cases e; exact isC_ss
  | _ =>
    cases z : Rw.isC "str" c with
    | false => rfl
    | true => obtain ⟨i, e⟩ := q z; cases e
def dnev_10 := And.intro @dnev_9 (@opNe_nilT)
end Dn
namespace Dn
open PySem PySem.Spec PyProof.Rows L2 PySem.SeqAt Rw

theorem eTupX_ap (it : DI) (g : GP) (t : DT) (e : DE) (vs : List Nat) (s : Sl) (h : PH) : eTupX it g t e vs s h = (it s h).bind fun p h => (genItems p.1 g t e (wipeP s vs) p.2 [] h).bind fun acc h => .ok (.tup acc) h := rfl
def rgO (p : Int × Int) (h : PH) : Out PV := if rgOk p then .ok (.tup (rgP p.1 p.2)) h else .no
theorem eTupRg_ap (f : DRg) (s : Sl) (h : PH) : eTupRg f s h = (f s h).bind fun p h => rgO p h := rfl
def rg1P (x : PV) (h : PH) : Out (Int × Int) := match x with
  | .int n => .ok (0, n) h
  | _ => .no
theorem rg1_ap (a : DE) (s : Sl) (h : PH) : rg1 a s h = (a s h).bind fun x h => rg1P x h := rfl
theorem rg1P_int (n : Int) (h : PH) : rg1P (.int n) h = .ok (0, n) h := rfl
section
variable {n r i j : Nat} {rm : Nat → Room} {ws : Nat → List (Bool × Nat)} {t : Nat → Nat → Str} {o : Nat → List Nat} {h : PH}
end
end Dn
namespace Dn
open PySem PySem.Spec PyProof.Rows L2 PySem.SeqAt Rw

def dnev_11 := And.intro @dnev_10 (And.intro @eTupX_ap (And.intro @eTupRg_ap (And.intro @rg1_ap (@rg1P_int))))
/-! ### == and in -/
end Dn
namespace Dn
open PySem PySem.Spec PyProof.Rows L2 PySem.SeqAt Rw

/-! ### a spot -/
end Dn
namespace Dn
open PySem PySem.Spec PyProof.Rows L2 PySem.SeqAt Rw

theorem fAll_ref (n : Nat) (h : PH) : fAll [.ref n] h = (lsO h[n]?).bind fun ys => (blsOf ys).map fun b => (.bl (b.all id), h) := rfl
theorem bind_some' {α β : Type} (f : α → Option β) (a : α) : (some a).bind f = f a := rfl
theorem blsOf_4 (a b c d : Bool) : blsOf [.bl a, .bl b, .bl c, .bl d] = some [a, b, c, d] := rfl
theorem enum_at {xs : List PV} {i : Nat} {x : PV} (hx : (enumP 0 xs)[i]? = some x) : ∃ l : i < xs.length, x = .tup [.int (i : Nat), xs[i]] := by
  rw [enumP_at] at hx
  cases q : xs[i]? with
  | none => rw [q] at hx; cases hx
  | some y =>
    rw [q] at hx
    obtain ⟨l, e⟩ := List.getElem?_eq_some_iff.mp q
    refine ⟨l, ?_⟩
    rw [← Option.some.inj hx, e, Nat.zero_add]
end Dn
namespace Dn
open PySem PySem.Spec PyProof.Rows L2 PySem.SeqAt Rw

end Dn
namespace Dn
open PySem PySem.Spec PyProof.Rows L2 PySem.SeqAt Rw

end Dn
namespace Dn
open PySem PySem.Spec PyProof.Rows L2 PySem.SeqAt Rw

theorem isC_ti : Rw.isC "tuple" "int" = false := by decide
theorem isC_ts : Rw.isC "tuple" "str" = false := by decide
theorem isC_tn : Rw.isC "tuple" "NoneType" = false := by decide
theorem isC_bs : Rw.isC "bool" "str" = false := by decide
theorem isC_is : Rw.isC "int" "str" = false := by decide
theorem isC_in : Rw.isC "int" "NoneType" = false := by decide
theorem isC_it : Rw.isC "int" "tuple" = false := by decide
theorem isC_tb : Rw.isC "tuple" "bool" = false := by decide
theorem isC_si : Rw.isC "str" "int" = false := by decide
theorem isC_sb : Rw.isC "str" "bool" = false := by decide
theorem isC_sn : Rw.isC "str" "NoneType" = false := by decide
theorem isC_st : Rw.isC "str" "tuple" = false := by decide
theorem isC_bn : Rw.isC "bool" "NoneType" = false := by decide
theorem isC_bt : Rw.isC "bool" "tuple" = false := by decide
theorem isNon_str (z : Str) : isNon (.str z) = false := rfl
/-- same tells exactly whether it is this value -/
def Exact (n : Nat) (h : PH) (v : PV) : Prop := ∀ u, Vl h u → m__law_same n [u, v] h = .ok (.bl (decide (u = v))) h
theorem isNon_iff (u : PV) : isNon u = decide (u = .non) := by
  cases u with
  | non => exact (decide_eq_true rfl).symm
  | _ => exact (decide_eq_false (fun e => nomatch e)).symm
def dnev_12 := And.intro @dnev_11 (And.intro @fAll_ref (And.intro @bind_some' (And.intro @blsOf_4 (And.intro @isC_ti (And.intro @isC_ts (And.intro @isC_tn (And.intro @isC_bs (And.intro @isC_is (And.intro @isC_in (And.intro @isC_it (And.intro @isC_tb (And.intro @isC_si (And.intro @isC_sb (And.intro @isC_sn (And.intro @isC_st (And.intro @isC_bn (And.intro @isC_bt (@isNon_str))))))))))))))))))
theorem exact_non {n : Nat} {h : PH} : Exact (n + 1) h .non := fun u a => by
  refine eq_of_wO (wO_mk (show [u, PV.non].length = 2 from rfl) ?_)
  simp -dsimp -implicitDefEqProofs only [dnev_12, dnif_1, dnw_2, g__law_same]
  refine gc_same ⟨?_, rfl⟩
  rw [isNon_iff]
theorem exact_int {n : Nat} {h : PH} (i : Int) : Exact (n + 1) h (.int i) := fun u a => by
  refine eq_of_wO (wO_mk (show [u, PV.int i].length = 2 from rfl) ?_)
  obtain ⟨c, hc⟩ := a.ty
  have ti := ty_int hc
  cases u with
  | int j =>
    simp -dsimp -implicitDefEqProofs only [dnev_12, dnif_1, dnw_2, g__law_same, Bool.not_false]
    refine gc_same ⟨?_, rfl⟩
    congr 1
    exact decide_eq_decide.mpr ⟨fun e => by rw [e], fun e => by cases e; rfl⟩
  | bl b =>
    simp -dsimp -implicitDefEqProofs only [dnev_12, dnif_1, dnw_2, g__law_same, Bool.not_true]
    exact gc_same ⟨by rw [decide_eq_false (fun e => nomatch e)], rfl⟩
  | _ =>
    have e : Rw.isC "int" c = false := ti
    simp -dsimp -implicitDefEqProofs only [dnev_12, dnif_1, dnw_2, g__law_same, hc, e]
    exact gc_same ⟨by rw [decide_eq_false (fun e => nomatch e)], rfl⟩
theorem exact_str {n : Nat} {h : PH} (i : Str) : Exact (n + 1) h (.str i) := fun u a => by
  refine eq_of_wO (wO_mk (show [u, PV.str i].length = 2 from rfl) ?_)
  obtain ⟨c, hc⟩ := a.ty
  have ti := ty_str hc
  cases u with
  | str j =>
    simp -dsimp -implicitDefEqProofs only [dnev_12, dnif_1, dnw_2, g__law_same]
    refine gc_same ⟨?_, rfl⟩
    congr 1
    exact decide_eq_decide.mpr ⟨fun e => by rw [e], fun e => by cases e; rfl⟩
  | _ =>
    have e : Rw.isC "str" c = false := ti
    simp -dsimp -implicitDefEqProofs only [dnev_12, dnif_1, dnw_2, g__law_same, hc, e]
    exact gc_same ⟨by rw [decide_eq_false (fun e => nomatch e)], rfl⟩
end Dn
namespace Dn
open PySem PySem.Spec PyProof.Rows L2 PySem.SeqAt Rw

end Dn
namespace Dn
open PySem PySem.Spec PyProof.Rows L2 PySem.SeqAt Rw

/-! ### a house as data, repr -/
theorem Das.range {k w n m : Nat} {h : PH} {f : Nat → PV} (a : ∀ i, i < n → Da k w m h (f i)) : Das k (n * (w + 1)) m h ((List.range n).map f) := by
  have := Das.all (xs := (List.range n).map f) (k := k) (w := w) (n := m) (h := h) fun x hx => by
    obtain ⟨i, hi, rfl⟩ := List.mem_map.mp hx
    exact a i (by simpa using hi)
  rwa [List.length_map, List.length_range] at this
end Dn
namespace Dn
open PySem PySem.Spec PyProof.Rows L2 PySem.SeqAt Rw

/-! ### sizes of houses, the widest one once -/
/-! ### what is held at a place -/
def heldOf (st : List (Bool × Nat)) (p : Nat) : List Nat := ((nest (st.take p) []).getD []).reverse
end Dn
namespace Dn
open PySem PySem.Spec PyProof.Rows L2 PySem.SeqAt Rw

theorem anyO_str {h : PH} (w : Str) : ∀ vs : List Str, anyO (eqJ h (.str w)) (vs.map PV.str) = some (decide (w ∈ vs))
  | [] => by simp [anyO]
  | v :: vs => by
    have j : eqJ h (.str w) (.str v) = some (decide (w = v)) := by
      show some (v == w) = _
      rw [str_beq]
    show (match eqJ h (.str w) (.str v), anyO (eqJ h (.str w)) (vs.map PV.str) with
      | some a, some b => some (a || b)
      | _, _ => none) = _
    rw [j, anyO_str w vs]
    dsimp only
    congr 1
    rw [← Bool.decide_or]
    exact decide_eq_decide.mpr (by simp)
theorem opIn_strT {h : PH} (w : Str) (vs : List Str) : opIn (.str w) (.tup (vs.map PV.str)) h = some (.bl (decide (w ∈ vs)), h) := by
  have s : inB h (.str w) (.tup (vs.map PV.str)) = some (decide (w ∈ vs)) := anyO_str w vs
  unfold opIn
  rw [s]
  rfl
theorem opIn_str2 (w a b : Str) (h : PH) : opIn (.str w) (.tup [.str a, .str b]) h = some (.bl (decide (w ∈ [a, b])), h) := opIn_strT w [a, b]
theorem opIn_str3 (w a b c : Str) (h : PH) : opIn (.str w) (.tup [.str a, .str b, .str c]) h = some (.bl (decide (w ∈ [a, b, c])), h) := opIn_strT w [a, b, c]
theorem opEq_non_int (i : Int) (h : PH) : opEq .non (.int i) h = some (.bl false, h) := rfl
def spP (n : Nat) (pl : Nat → Nat) (wd : Nat → Str) (nu : Nat → Nat) : List PV := (List.range n).map fun i => spotP (pl i) (wd i) (nu i)
def quadP (q : Nat × Nat × Nat × Nat) : PV := .tup [.int (q.1 : Nat), .int (q.2.1 : Nat), .int (q.2.2.1 : Nat), .int (q.2.2.2 : Nat)]
def standP (n : Nat) (pl : Nat → Nat) (wd : Nat → Str) (nu : Nat → Nat) (ts : List (Nat × Nat × Nat × Nat)) : PV := .tup [.tup (spP n pl wd nu), .tup (ts.map quadP)]
def holdersOf (n : Nat) (ws : Nat → List (Bool × Nat)) (pl : Nat → Nat) (room : Nat) : List Nat := (List.range n).filter fun i => decide (room ∈ heldOf (ws i) (pl i))
section
variable {n r most : Nat} {rm : Nat → Room} {ws : Nat → List (Bool × Nat)} {pl : Nat → Nat} {wd : Nat → Str} {nu : Nat → Nat} {ts : List (Nat × Nat × Nat × Nat)} {h : PH}
end
end Dn
namespace Dn
open PySem PySem.Spec PyProof.Rows L2 PySem.SeqAt Rw

theorem args0_5 (N : Nat) (x y z u v : PV) : args0 (N + 5) [x, y, z, u, v] = some x :: some y :: some z :: some u :: some v :: List.replicate N none := rfl
def wishOf (st : List (Bool × Nat)) (p : Nat) : Option Nat := match st[p]? with
  | some (true, room) => some room
  | _ => none
open Classical in
noncomputable def flagOf (st : List (Bool × Nat)) (p : Nat) (w : Str) (room : Nat) : Str := if room ∈ heldOf st p then "up" else if wishOf st p = some room ∧ w ∈ (["look", "yield"] : List Str) then "up" else if wishOf st p = some room ∧ w = "hand" then "half" else "down"
def tokOf (ts : List (Nat × Nat × Nat × Nat)) (room a b : Nat) : PV := match ts.find? fun q => decide (q.1 = room ∧ q.2.1 = a ∧ q.2.2.1 = b) with
  | some q => .int (q.2.2.2 : Nat)
  | none => .non
section
variable {n r most : Nat} {rm : Nat → Room} {ws : Nat → List (Bool × Nat)} {pl : Nat → Nat} {wd : Nat → Str} {nu : Nat → Nat} {ts : List (Nat × Nat × Nat × Nat)} {h : PH}
end
end Dn
namespace Dn
open PySem PySem.Spec PyProof.Rows L2 PySem.SeqAt Rw

def triP (q : Nat × Nat × Nat) : PV := tripP q.1 q.2.1 q.2.2
section
variable {n r most : Nat} {rm : Nat → Room} {ws : Nat → List (Bool × Nat)} {h : PH}
end
end Dn
namespace Dn
open PySem PySem.Spec PyProof.Rows L2 PySem.SeqAt Rw

section
variable {n r most : Nat} {rm : Nat → Room} {ws : Nat → List (Bool × Nat)} {pl : Nat → Nat} {wd : Nat → Str} {nu : Nat → Nat} {ts : List (Nat × Nat × Nat × Nat)} {h : PH}
end
end Dn
namespace Dn
open PySem PySem.Spec PyProof.Rows L2 PySem.SeqAt Rw

def zipV (v w : PV) (h : PH) : Out Its' := match v, w with
  | .tup xs, .tup ys => .ok ([], zipP xs ys) h
  | _, _ => match lstOf h v, lstOf h w with
    | some a, some b => .ok (a.1 ++ b.1, zipP a.2 b.2) h
    | _, _ => .no
theorem iZipP_ap (f g : DE) (s : Sl) (h : PH) : iZipP f g s h = (f s h).bind fun v h => (g s h).bind fun w h => zipV v w h := rfl
theorem zipV_tup (xs ys : List PV) (h : PH) : zipV (.tup xs) (.tup ys) h = .ok ([], zipP xs ys) h := rfl
section
variable {n r most : Nat} {rm : Nat → Room} {ws : Nat → List (Bool × Nat)} {pl : Nat → Nat} {wd : Nat → Str} {nu : Nat → Nat} {ts : List (Nat × Nat × Nat × Nat)} {h : PH}
end
end Dn
namespace Dn
open PySem PySem.Spec PyProof.Rows L2 PySem.SeqAt Rw

def SpOk (n : Nat) (rm : Nat → Room) (st : List (Bool × Nat)) (i p : Nat) (w : Str) (k : Nat) : Prop := p < st.length ∧ ((w = "rest" ∧ p = 0 ∧ k = 0) ∨ (w = "go" ∧ k = 0) ∨ ∃ room t o, st[p]? = some (true, room) ∧ rm room = some (t, o) ∧ 2 ≤ n ∧ ((w = "hand" ∧ k < (evensOf n (t i)).length) ∨ (w = "look" ∧ k < n - 1) ∨ ((w = "yield" ∨ w = "low") ∧ k < n - 1 ∧ bowsAt t o i k = true)))
open Classical in
noncomputable def nextP (n : Nat) (rm : Nat → Room) (ws : Nat → List (Bool × Nat)) (pl : Nat → Nat) (wd : Nat → Str) (nu : Nat → Nat) (ts : List (Nat × Nat × Nat × Nat)) (i : Nat) : PV :=
  if wd i = "rest" then .str "begin" else if wd i = "hand" then .str "hand" else if wd i = "yield" then .str "lower" else
  match (ws i)[pl i]? with
  | none => .non
  | some (b, room) =>
    if wd i = "go" then (if b = false then .str "leave" else if (rm room).isNone = true ∨ n = 1 then (if holdersOf n ws pl room = [] then .str "enter" else .non) else .str "raise")
    else match rm room with
      | none => .non
      | some q => if wd i = "low" then (if flagOf (ws ((q.2 i).getD (nu i) 0)) (pl ((q.2 i).getD (nu i) 0)) (wd ((q.2 i).getD (nu i) 0)) room = "down" then .str "see" else .non)
        else if flagOf (ws ((q.2 i).getD (nu i) 0)) (pl ((q.2 i).getD (nu i) 0)) (wd ((q.2 i).getD (nu i) 0)) room = "down" ∨ (q.1 i ((q.2 i).getD (nu i) 0) = "even" ∧ flagOf (ws ((q.2 i).getD (nu i) 0)) (pl ((q.2 i).getD (nu i) 0)) (wd ((q.2 i).getD (nu i) 0)) room = "up" ∧ tokOf ts room (min i ((q.2 i).getD (nu i) 0)) (max i ((q.2 i).getD (nu i) 0)) = .int i) then (if nu i = n - 2 then .str "enter" else .str "look")
        else if q.1 i ((q.2 i).getD (nu i) 0) = "bow" then .str "yield" else .non
section
variable {n r most : Nat} {rm : Nat → Room} {ws : Nat → List (Bool × Nat)} {pl : Nat → Nat} {wd : Nat → Str} {nu : Nat → Nat} {ts : List (Nat × Nat × Nat × Nat)} {h : PH}
end
end Dn
namespace Dn
open PySem PySem.Spec PyProof.Rows L2 PySem.SeqAt Rw

section
variable {n r most : Nat} {rm : Nat → Room} {ws : Nat → List (Bool × Nat)} {pl : Nat → Nat} {wd : Nat → Str} {nu : Nat → Nat} {ts : List (Nat × Nat × Nat × Nat)} {h : PH}
end
end Dn
namespace Dn
open PySem PySem.Spec PyProof.Rows L2 PySem.SeqAt Rw

section
variable {n r most : Nat} {rm : Nat → Room} {ws : Nat → List (Bool × Nat)} {pl : Nat → Nat} {wd : Nat → Str} {nu : Nat → Nat} {ts : List (Nat × Nat × Nat × Nat)} {h : PH}
end
end Dn
namespace Dn
open PySem PySem.Spec PyProof.Rows L2 PySem.SeqAt Rw

section
variable {n r most : Nat} {rm : Nat → Room} {ws : Nat → List (Bool × Nat)} {pl : Nat → Nat} {wd : Nat → Str} {nu : Nat → Nat} {ts : List (Nat × Nat × Nat × Nat)} {h : PH}
/-- the tokens' numbers are small -/
def TsB (ts : List (Nat × Nat × Nat × Nat)) : Prop := ∀ q ∈ ts, q.1 < 64 ∧ q.2.1 < 64 ∧ q.2.2.1 < 64 ∧ q.2.2.2 < 64
end
end Dn
namespace Dn
open PySem PySem.Spec PyProof.Rows L2 PySem.SeqAt Rw

section
variable {n r most : Nat} {rm : Nat → Room} {ws : Nat → List (Bool × Nat)} {pl : Nat → Nat} {wd : Nat → Str} {nu : Nat → Nat} {ts : List (Nat × Nat × Nat × Nat)} {h : PH}
end
end Dn
namespace Dn
open PySem PySem.Spec PyProof.Rows L2 PySem.SeqAt Rw

theorem Dk.cl {d g : Nat} {h : PH} (D : Dk d g h) : Cl h.length h := by
  obtain ⟨gs, a, t, w, D⟩ := D
  exact D.cl
section
variable {n r most : Nat} {rm : Nat → Room} {ws : Nat → List (Bool × Nat)} {h : PH}
end
end Dn
namespace Dn
open PySem PySem.Spec PyProof.Rows L2 PySem.SeqAt Rw

theorem SpotOk.form2 {n i : Nat} {rm : Nat → Room} {st : List (Bool × Nat)} {x : PV} (n1 : 1 ≤ n) (l0 : 0 < st.length) (h : SpotOk n rm st i x) : ∃ p w k, x = spotP p w k ∧ SpOk n rm st i p w k := by
  rcases h with rfl | ⟨p, lp, rfl | m⟩
  · exact ⟨0, "rest", 0, rfl, l0, .inl ⟨rfl, rfl, rfl⟩⟩
  · exact ⟨p, "go", 0, rfl, lp, .inr (.inl ⟨rfl, rfl⟩)⟩
  · unfold entSpots at m
    split at m
    · rename_i room es
      split at m
      · rename_i q er
        split at m
        · cases m
        · rename_i n2
          have door : ∀ {w : Str} {k : Nat}, x = spotP p w k → ((w = "hand" ∧ k < (evensOf n (q.1 i)).length) ∨ (w = "look" ∧ k < n - 1) ∨ ((w = "yield" ∨ w = "low") ∧ k < n - 1 ∧ bowsAt q.1 q.2 i k = true)) → ∃ p w k, x = spotP p w k ∧ SpOk n rm st i p w k := fun {w k} e z => ⟨p, w, k, e, lp, .inr (.inr ⟨room, q.1, q.2, es, er, by omega, z⟩)⟩
          unfold doorSpots at m
          rcases List.mem_append.mp m with m | m
          · rcases List.mem_append.mp m with m | m
            · rcases List.mem_append.mp m with m | m
              · obtain ⟨k, hk, e⟩ := List.mem_map.mp m
                exact door e.symm (.inl ⟨rfl, by simpa using hk⟩)
              · obtain ⟨k, hk, e⟩ := List.mem_map.mp m
                exact door e.symm (.inr (.inl ⟨rfl, by simpa using hk⟩))
            · obtain ⟨k, hk, e⟩ := List.mem_map.mp m
              obtain ⟨a, b⟩ := List.mem_filter.mp hk
              exact door e.symm (.inr (.inr ⟨.inl rfl, by simpa using a, b⟩))
          · obtain ⟨k, hk, e⟩ := List.mem_map.mp m
            obtain ⟨a, b⟩ := List.mem_filter.mp hk
            exact door e.symm (.inr (.inr ⟨.inr rfl, by simpa using a, b⟩))
      · cases m
    · cases m
/-- a standing by its functions -/
theorem StandOk.fun_ {n r most : Nat} {rm : Nat → Room} {ws : Nat → List (Bool × Nat)} {sp tk : List PV} (n5 : 1 ≤ n ∧ n ≤ 5) (r6 : r ≤ 6) (ok : HouseOk n r most rm ws) (S : StandOk n r rm ws sp tk) : ∃ pl wd nu ts, PV.tup [.tup sp, .tup tk] = standP n pl wd nu ts ∧ (∀ i, i < n → SpOk n rm (ws i) i (pl i) (wd i) (nu i)) ∧ ts.length ≤ 1000 ∧ TsB ts := by
  have key : ∀ i, ∃ x : Nat × Str × Nat, i < n → sp[i]? = some (spotP x.1 x.2.1 x.2.2) ∧ SpOk n rm (ws i) i x.1 x.2.1 x.2.2 := fun i => by
    by_cases li : i < n
    · have ls := S.ls
      have e := List.getElem?_eq_getElem (l := sp) (i := i) (by omega)
      obtain ⟨p, w, k, ex, so⟩ := (S.sps i _ e).form2 n5.1 (by have := (ok.wys i li).two; omega)
      exact ⟨(p, w, k), fun _ => ⟨by rw [e, ex], so⟩⟩
    · exact ⟨(0, "", 0), fun z => absurd z li⟩
  let F := fun i => Classical.choose (key i)
  have hF : ∀ i, i < n → sp[i]? = some (spotP (F i).1 (F i).2.1 (F i).2.2) ∧ SpOk n rm (ws i) i (F i).1 (F i).2.1 (F i).2.2 := fun i => Classical.choose_spec (key i)
  have tq : ∀ xs : List PV, (∀ y ∈ xs, ∃ q, y = quadP q) → ∃ ts : List (Nat × Nat × Nat × Nat), xs = ts.map quadP := by
    intro xs
    induction xs with
    | nil => intro _; exact ⟨[], rfl⟩
    | cons x xs ih =>
      intro h
      obtain ⟨q, rfl⟩ := h x List.mem_cons_self
      obtain ⟨l, rfl⟩ := ih fun y hy => h y (List.mem_cons_of_mem _ hy)
      exact ⟨q :: l, rfl⟩
  obtain ⟨ts, ets⟩ := tq tk fun y hy => by
    obtain ⟨a, la, rfl⟩ := List.getElem_of_mem hy
    have := S.lt
    obtain ⟨room, i, j, w, _, _, e⟩ := S.tks a _ _ (List.getElem?_eq_getElem (l := tripsP n rm r) (i := a) (by omega)) (List.getElem?_eq_getElem la)
    exact ⟨(room, i, j, w), e⟩
  refine ⟨fun i => (F i).1, fun i => (F i).2.1, fun i => (F i).2.2, ts, ?_, fun i li => (hF i li).2, ?_, fun q hq => ?_⟩
  · unfold standP
    rw [← ets]
    congr 4
    apply List.ext_getElem?
    intro i
    unfold spP
    rw [List.getElem?_map]
    by_cases li : i < n
    · rw [List.getElem?_range li, (hF i li).1]
      rfl
    · have := S.ls
      rw [List.getElem?_eq_none (by omega), List.getElem?_eq_none (by simpa using li)]
      rfl
  · have l1 : ts.length = tk.length := by rw [ets, List.length_map]
    have lb := tripsP_len n rm r
    have lb2 : r * (n * n) ≤ 6 * (5 * 5) := Nat.mul_le_mul r6 (Nat.mul_le_mul n5.2 n5.2)
    have := S.lt
    omega
  · have hy : quadP q ∈ tk := by rw [ets]; exact List.mem_map.mpr ⟨q, hq, rfl⟩
    obtain ⟨a, la, e⟩ := List.getElem_of_mem hy
    have := S.lt
    have ex := List.getElem?_eq_getElem (l := tripsP n rm r) (i := a) (by omega)
    obtain ⟨room, i, j, w, e1, hw, e2⟩ := S.tks a _ _ ex (List.getElem?_eq_getElem la)
    obtain ⟨room2, i2, j2, e3, l1, l2, l3⟩ := tripsP_mem (List.mem_of_getElem? ex)
    rw [e1] at e3
    unfold tripP at e3
    simp only [PV.tup.injEq, List.cons.injEq, PV.int.injEq, and_true] at e3
    rw [e] at e2
    unfold quadP at e2
    simp only [PV.tup.injEq, List.cons.injEq, PV.int.injEq, and_true] at e2
    exact ⟨by omega, by omega, by omega, by omega⟩
end Dn
namespace Dn
open PySem PySem.Spec PyProof.Rows L2 PySem.SeqAt Rw

theorem SpOk.small {n i p k : Nat} {rm : Nat → Room} {st : List (Bool × Nat)} {w : Str} (n5 : n ≤ 5) (S : SpOk n rm st i p w k) : k < 64 ∧ w ∈ (["rest", "go", "hand", "look", "yield", "low"] : List Str) := by
  rcases S.2 with ⟨rfl, _, rfl⟩ | ⟨rfl, rfl⟩ | ⟨room, t, o, _, _, n2, ⟨rfl, lk⟩ | ⟨rfl, lk⟩ | ⟨rfl | rfl, lk, _⟩⟩
  · exact ⟨by omega, by simp⟩
  · exact ⟨by omega, by simp⟩
  · have := evens_len n (t i)
    exact ⟨by omega, by simp⟩
  · exact ⟨by omega, by simp⟩
  · exact ⟨by omega, by simp⟩
  · exact ⟨by omega, by simp⟩
end Dn
namespace Dn
open PySem PySem.Spec PyProof.Rows L2 PySem.SeqAt Rw

def lgO (p : Int × Int) (h : PH) : Out PV := if rgOk p then .ok (.ref h.length) (h ++ [.lst (rgP p.1 p.2)]) else .no
theorem eLstRg_ap (f : DRg) (s : Sl) (h : PH) : eLstRg f s h = (f s h).bind fun p h => lgO p h := rfl
end Dn
namespace Dn
open PySem PySem.Spec PyProof.Rows L2 PySem.SeqAt Rw

/-- plain data of depth n at most: None, bools, numbers, texts, tuples of such -/
inductive Pn : Nat → PV → Prop
  | non {n : Nat} : Pn n .non
  | bl {n : Nat} (b : Bool) : Pn n (.bl b)
  | int {n : Nat} (i : Int) : Pn n (.int i)
  | str {n : Nat} {x : Str} (h : PyData.strOk x = true) : Pn n (.str x)
  | tup {n : Nat} {xs : List PV} (h : ∀ x ∈ xs, Pn n x) : Pn (n + 1) (.tup xs)
theorem Pn.toE {h : PH} : ∀ {n : Nat} {v : PV}, Pn n v → ∀ k, n < k → ∃ d, toE h k v = some d ∧ strsO d = true := by
  intro n v p
  induction p with
  | non => intro k l; cases k with
    | zero => omega
    | succ k => exact ⟨.none, rfl, rfl⟩
  | bl b => intro k l; cases k with
    | zero => omega
    | succ k => exact ⟨.bool b, rfl, rfl⟩
  | int i => intro k l; cases k with
    | zero => omega
    | succ k => exact ⟨.int i, rfl, rfl⟩
  | @str n x q => intro k l; cases k with
    | zero => omega
    | succ k => exact ⟨.str x, rfl, by simpa only [strsO] using q⟩
  | @tup n xs q ih =>
    intro k l
    cases k with
    | zero => omega
    | succ k =>
      have key : ∀ ys : List PV, (∀ y ∈ ys, y ∈ xs) → ∃ ds, allD (Dn.toE h k) ys = some ds ∧ strsOA ds = true := by
        intro ys
        induction ys with
        | nil => intro _; exact ⟨[], rfl, rfl⟩
        | cons y ys ih2 =>
          intro sub
          obtain ⟨d, e1, s1⟩ := ih y (sub y List.mem_cons_self) k (by omega)
          obtain ⟨ds, e2, s2⟩ := ih2 fun z hz => sub z (List.mem_cons_of_mem _ hz)
          refine ⟨d :: ds, ?_, by simp only [strsOA, s1, s2]; rfl⟩
          show (match Dn.toE h k y, allD (Dn.toE h k) ys with
            | some d, some ds => some (d :: ds)
            | _, _ => none) = _
          rw [e1, e2]
      obtain ⟨ds, e, s⟩ := key xs fun _ h => h
      refine ⟨.tuple ds, ?_, by simpa only [strsO] using s⟩
      show (allD (Dn.toE h k) xs).map PyData.tuple = _
      rw [e]
      rfl
theorem Pn.vl {h : PH} {n : Nat} {v : PV} (p : Pn n v) (l : n < 16) : Vl h v := p.toE _ (by omega)
theorem Pn.up {n m : Nat} {v : PV} (p : Pn n v) (l : n ≤ m) : Pn m v := by
  induction p generalizing m with
  | non => exact .non
  | bl b => exact .bl b
  | int i => exact .int i
  | str q => exact .str q
  | tup q ih =>
    cases m with
    | zero => omega
    | succ m => exact .tup fun x hx => ih x hx (by omega)
theorem Pn.nats {n : Nat} (l : List Nat) : Pn (n + 1) (.tup (natsP l)) := .tup fun x hx => by
  obtain ⟨k, rfl, _⟩ := nats_mem hx
  exact .int _
theorem Pn.pair {n : Nat} {x y : PV} (a : Pn n x) (b : Pn n y) : Pn (n + 1) (.tup [x, y]) := .tup fun z hz => by
  simp only [List.mem_cons, List.not_mem_nil, or_false] at hz
  rcases hz with rfl | rfl
  · exact a
  · exact b
theorem Pn.three {n : Nat} {x y w : PV} (a : Pn n x) (b : Pn n y) (c : Pn n w) : Pn (n + 1) (.tup [x, y, w]) := .tup fun z hz => by
  simp only [List.mem_cons, List.not_mem_nil, or_false] at hz
  rcases hz with rfl | rfl | rfl
  · exact a
  · exact b
  · exact c
theorem Pn.four {n : Nat} {x y w u : PV} (a : Pn n x) (b : Pn n y) (c : Pn n w) (d : Pn n u) : Pn (n + 1) (.tup [x, y, w, u]) := .tup fun z hz => by
  simp only [List.mem_cons, List.not_mem_nil, or_false] at hz
  rcases hz with rfl | rfl | rfl | rfl
  · exact a
  · exact b
  · exact c
  · exact d
theorem Pn.lowr {n m : Nat} {v : PV} (p : Pn n v) : v.lowr m = true := by
  induction p with
  | tup q ih => exact lowrs_iff.mpr fun x hx => ih x hx
  | _ => rfl
section
variable {n r most : Nat} {rm : Nat → Room} {ws : Nat → List (Bool × Nat)} {pl : Nat → Nat} {wd : Nat → Str} {nu : Nat → Nat} {ts : List (Nat × Nat × Nat × Nat)}
theorem spw_ok {w : Str} (h : w ∈ (["rest", "go", "hand", "look", "yield", "low"] : List Str)) : PyData.strOk w = true := by
  simp only [List.mem_cons, List.not_mem_nil, or_false] at h
  rcases h with rfl | rfl | rfl | rfl | rfl | rfl <;> decide +kernel
theorem Pn.stand (n5 : n ≤ 5) (S : ∀ i, i < n → SpOk n rm (ws i) i (pl i) (wd i) (nu i)) : Pn 3 (standP n pl wd nu ts) :=
  .pair (.tup fun x hx => by
    obtain ⟨i, hi, rfl⟩ := List.mem_map.mp hx
    exact .three (.int _) (.str (spw_ok ((S i (by simpa using hi)).small n5).2)) (.int _)) (.tup fun x hx => by
    obtain ⟨q, _, rfl⟩ := List.mem_map.mp hx
    exact .four (.int _) (.int _) (.int _) (.int _))
end
end Dn
namespace Dn
open PySem PySem.Spec PyProof.Rows L2 PySem.SeqAt Rw
theorem isNon_bl (b : Bool) : isNon (.bl b) = false := rfl
theorem opIs_bl (a b : Bool) (h : PH) : opIs (.bl a) (.bl b) h = some (.bl (decide (a = b)), h) := rfl
def dnev_13 := And.intro @dnev_12 (And.intro @opIn_str2 (And.intro @opIn_str3 (And.intro @opEq_non_int (And.intro @args0_5 (And.intro @iZipP_ap (And.intro @zipV_tup (And.intro @eLstRg_ap (And.intro @isNon_bl (@opIs_bl)))))))))
/-- same, of a plain value and itself -/
theorem self_bl {n : Nat} {h : PH} (b : Bool) : m__law_same (n + 1) [.bl b, .bl b] h = .ok (.bl true) h := by
  refine eq_of_wO (wO_mk (show [PV.bl b, PV.bl b].length = 2 from rfl) ?_)
  cases b with
  | true =>
    simp -dsimp -implicitDefEqProofs only [dnev_13, dnif_1, dnw_2, g__law_same]
    exact gc_same ⟨rfl, rfl⟩
  | false =>
    simp -dsimp -implicitDefEqProofs only [dnev_13, dnif_1, dnw_2, g__law_same]
    exact gc_same ⟨rfl, rfl⟩
theorem self_tup {n : Nat} {h : PH} {ys : List PV} (ey : ∀ v ∈ ys, m__law_same n [v, v] h = .ok (.bl true) h) : m__law_same (n + 1) [.tup ys, .tup ys] h = .ok (.bl true) h := by
  refine eq_of_wO (wO_mk (show [PV.tup ys, PV.tup ys].length = 2 from rfl) ?_)
  have lc : decide (((ys.length : Nat) : Int) = ((ys.length : Nat) : Int)) = true := decide_eq_true rfl
  simp -dsimp -implicitDefEqProofs only [dnev_13, dnif_1, dnw_2, g__law_same, Bool.not_true, Bool.not_false, lc]
  refine for_ww (fun i sl h' => ∃ x2 x3, sl = [some (.tup ys), some (.tup ys), x2, x3] ∧ h' = h)
    ⟨none, none, rfl, rfl⟩ (fun _ _ _ _ => rfl) (fun i x hx sl h' ⟨x2, x3, esl, eh⟩ => ?_) fun sl h' ⟨x2, x3, esl, eh⟩ => ?_
  · subst esl
    subst eh
    obtain ⟨li, rfl⟩ := enum_at hx
    have at_ : atI ys ((i : Nat) : Int) = some ys[i] := atI_nat (List.getElem?_eq_getElem li)
    have es := ey ys[i] (List.getElem_mem li)
    refine ⟨_, rfl, ?_⟩
    simp -dsimp -implicitDefEqProofs only [dnev_13, dnif_1, dnw_2, at_, es, Bool.not_true]
    exact ⟨_, _, rfl⟩
  · subst esl
    subst eh
    simp -dsimp -implicitDefEqProofs only [dnev_13, dnif_1, dnw_2]
    exact gc_same ⟨rfl, rfl⟩
theorem Pn.self {h : PH} : ∀ {n : Nat} {v : PV}, Pn n v → ∀ m, n < m → m__law_same m [v, v] h = .ok (.bl true) h := by
  intro n v p
  have ex : ∀ {m : Nat} {v : PV}, Exact m h v → Vl h v → m__law_same m [v, v] h = .ok (.bl true) h := fun {m v} e l => by
    have := e v l
    rwa [decide_eq_true rfl] at this
  induction p with
  | non => intro m l; cases m with
    | zero => omega
    | succ m => exact ex exact_non (Pn.vl (n := 0) .non (by omega))
  | bl b => intro m l; cases m with
    | zero => omega
    | succ m => exact self_bl b
  | int i => intro m l; cases m with
    | zero => omega
    | succ m => exact ex (exact_int i) (Pn.vl (n := 0) (.int i) (by omega))
  | str q => intro m l; cases m with
    | zero => omega
    | succ m => exact ex (exact_str _) (Pn.vl (n := 0) (.str q) (by omega))
  | tup q ih => intro m l; cases m with
    | zero => omega
    | succ m => exact self_tup fun v hv => ih v hv m (by omega)
theorem Pn.same {h : PH} {n : Nat} {v : PV} (p : Pn n v) (l : n < 8) : m__law_same 8 [v, v] h = .ok (.bl true) h := p.self 8 l
end Dn
namespace Dn
open PySem PySem.Spec PyProof.Rows L2 PySem.SeqAt Rw

/-- how many even ones hand i has at the room that its step enters -/
def evLen (n : Nat) (rm : Nat → Room) (st : List (Bool × Nat)) (i p : Nat) : Nat := match st[p]? with
  | some (true, room) => (match rm room with
    | some (t, _) => (evensOf n (t i)).length
    | none => 0)
  | _ => 0
abbrev T3 (p : Nat) (w : Str) (k : Nat) : Nat × Str × Nat := (p, w, k)
/-- the spot behind a step that x tells -/
def behOf (n : Nat) (rm : Nat → Room) (st : List (Bool × Nat)) (i p k : Nat) (x : PV) : Nat × Str × Nat := match x with
  | .str s => if s = "begin" then T3 0 "go" 0 else if s = "enter" ∨ s = "leave" then (if p + 1 < st.length then T3 (p + 1) "go" 0 else T3 0 "rest" 0)
    else if s = "raise" ∨ s = "hand" then (if (if s = "hand" then k + 1 else 0) < evLen n rm st i p then T3 p "hand" (if s = "hand" then k + 1 else 0) else T3 p "look" 0)
    else if s = "look" then T3 p "look" (k + 1) else if s = "yield" then T3 p "yield" k else if s = "lower" then T3 p "low" k else T3 p "go" 0
  | _ => T3 0 "" 0
section
variable {n i p k : Nat} {rm : Nat → Room} {st : List (Bool × Nat)}
end
section
variable {n r most : Nat} {rm : Nat → Room} {ws : Nat → List (Bool × Nat)} {pl : Nat → Nat} {wd : Nat → Str} {nu : Nat → Nat} {ts : List (Nat × Nat × Nat × Nat)} {h : PH}
end
end Dn
namespace Dn
open PySem PySem.Spec PyProof.Rows L2 PySem.SeqAt Rw

def tokF (room mn mx v : Nat) (q : Nat × Nat × Nat × Nat) : Nat × Nat × Nat × Nat := if q.1 = room ∧ q.2.1 = mn ∧ q.2.2.1 = mx then (room, mn, mx, v) else q
/-- the tokens behind hand i's step -/
def stepTs (n : Nat) (rm : Nat → Room) (st : List (Bool × Nat)) (i p : Nat) (w : Str) (k : Nat) (ts : List (Nat × Nat × Nat × Nat)) : List (Nat × Nat × Nat × Nat) := if w = "hand" then (match st[p]? with
  | some (true, room) => (match rm room with
    | some (t, _) => ts.map (tokF room (min i ((evensOf n (t i)).getD k 0)) (max i ((evensOf n (t i)).getD k 0)) ((evensOf n (t i)).getD k 0))
    | none => ts)
  | _ => ts) else ts
section
variable {n r most : Nat} {rm : Nat → Room} {ws : Nat → List (Bool × Nat)} {pl : Nat → Nat} {wd : Nat → Str} {nu : Nat → Nat} {ts : List (Nat × Nat × Nat × Nat)} {h : PH}
end
end Dn
namespace Dn
open PySem PySem.Spec PyProof.Rows L2 PySem.SeqAt Rw

/-! ### the program's next step -/
section
variable {n r most : Nat} {rm : Nat → Room} {ws : Nat → List (Bool × Nat)} {pl : Nat → Nat} {wd : Nat → Str} {nu : Nat → Nat} {ts : List (Nat × Nat × Nat × Nat)} {h : PH}
/-- the tokens stand for even pairs -/
def TsK (n : Nat) (rm : Nat → Room) (ts : List (Nat × Nat × Nat × Nat)) : Prop := ∀ q ∈ ts, q.2.1 < q.2.2.1 ∧ q.2.2.1 < n ∧ ∃ t o, rm q.1 = some (t, o) ∧ t q.2.1 q.2.2.1 = "even"
end
end Dn
namespace Dn
open PySem PySem.Spec PyProof.Rows L2 PySem.SeqAt Rw

/-! ### the program's standing behind a step -/
section
variable {n r most : Nat} {rm : Nat → Room} {ws : Nat → List (Bool × Nat)} {pl : Nat → Nat} {wd : Nat → Str} {nu : Nat → Nat} {ts : List (Nat × Nat × Nat × Nat)} {h : PH}
end
end Dn
namespace Dn
open PySem PySem.Spec PyProof.Rows L2 PySem.SeqAt Rw

section
variable {n r most : Nat} {rm : Nat → Room} {ws : Nat → List (Bool × Nat)} {pl : Nat → Nat} {wd : Nat → Str} {nu : Nat → Nat} {ts : List (Nat × Nat × Nat × Nat)} {h : PH}
end
end Dn
namespace Dn
open PySem PySem.Spec PyProof.Rows L2 PySem.SeqAt Rw

section
variable {n r most : Nat} {rm : Nat → Room} {ws : Nat → List (Bool × Nat)} {pl : Nat → Nat} {wd : Nat → Str} {nu : Nat → Nat} {ts : List (Nat × Nat × Nat × Nat)} {h : PH}
open Classical in
end
end Dn
namespace Dn
open PySem PySem.Spec PyProof.Rows L2 PySem.SeqAt Rw

section
variable {n r most : Nat} {rm : Nat → Room} {ws : Nat → List (Bool × Nat)} {pl : Nat → Nat} {wd : Nat → Str} {nu : Nat → Nat} {ts : List (Nat × Nat × Nat × Nat)} {h : PH}
end
end Dn
namespace Dn
open PySem PySem.Spec PyProof.Rows L2 PySem.SeqAt Rw

section
variable {n r most : Nat} {rm : Nat → Room} {ws : Nat → List (Bool × Nat)} {pl : Nat → Nat} {wd : Nat → Str} {nu : Nat → Nat} {ts : List (Nat × Nat × Nat × Nat)} {h : PH}
/-! ### what a step keeps -/
/-- a standing that steps may begin with: its spots and its tokens -/
structure StOk (n : Nat) (rm : Nat → Room) (ws : Nat → List (Bool × Nat)) (pl : Nat → Nat) (wd : Nat → Str) (nu : Nat → Nat) (ts : List (Nat × Nat × Nat × Nat)) : Prop where
  S : ∀ i, i < n → SpOk n rm (ws i) i (pl i) (wd i) (nu i)
  lt : ts.length ≤ 1000
  B : TsB ts
  K : TsK n rm ts
theorem trips_even {room i j m : Nat} (h : tripP room i j ∈ tripsP n rm m) : i < j ∧ j < n ∧ ∃ t o, rm room = some (t, o) ∧ t i j = "even" := by
  unfold tripsP at h
  obtain ⟨l, hl, h⟩ := List.mem_flatten.mp h
  obtain ⟨room', _, rfl⟩ := List.mem_map.mp hl
  unfold tripsOf at h
  split at h
  · cases h
  · rename_i p er
    unfold tripsAt at h
    obtain ⟨l, hl, h⟩ := List.mem_flatten.mp h
    obtain ⟨a, _, rfl⟩ := List.mem_map.mp hl
    unfold tripsRow at h
    obtain ⟨b, hb, e⟩ := List.mem_map.mp h
    obtain ⟨hb, lab⟩ := List.mem_filter.mp hb
    unfold evensOf at hb
    obtain ⟨lb, ev⟩ := List.mem_filter.mp hb
    unfold tripP at e
    simp only [PV.tup.injEq, List.cons.injEq, PV.int.injEq, and_true] at e
    obtain ⟨e1, e2, e3⟩ := e
    obtain rfl : room' = room := by omega
    obtain rfl : a = i := by omega
    obtain rfl : b = j := by omega
    exact ⟨by simpa using lab, by simpa using lb, p.1, p.2, er, by simpa using ev⟩
theorem StandOk.st {sp tk : List PV} (n5 : 1 ≤ n ∧ n ≤ 5) (r6 : r ≤ 6) (ok : HouseOk n r most rm ws) (S : StandOk n r rm ws sp tk) : ∃ pl wd nu ts, PV.tup [.tup sp, .tup tk] = standP n pl wd nu ts ∧ StOk n rm ws pl wd nu ts := by
  obtain ⟨pl, wd, nu, ts, e, S1, l1, B1⟩ := S.fun_ n5 r6 ok
  refine ⟨pl, wd, nu, ts, e, ⟨S1, l1, B1, fun q hq => ?_⟩⟩
  have et : tk = ts.map quadP := by
    unfold standP at e
    simp only [PV.tup.injEq, List.cons.injEq, and_true] at e
    exact e.2
  have hy : quadP q ∈ tk := by rw [et]; exact List.mem_map.mpr ⟨q, hq, rfl⟩
  obtain ⟨a, la, e⟩ := List.getElem_of_mem hy
  have := S.lt
  have ex := List.getElem?_eq_getElem (l := tripsP n rm r) (i := a) (by omega)
  obtain ⟨room, i, j, w, e1, hw, e2⟩ := S.tks a _ _ ex (List.getElem?_eq_getElem la)
  have m := List.mem_of_getElem? ex
  rw [e1] at m
  obtain ⟨x1, x2, t, o, er, ev⟩ := trips_even m
  rw [e] at e2
  unfold quadP at e2
  simp only [PV.tup.injEq, List.cons.injEq, PV.int.injEq, and_true] at e2
  obtain ⟨z1, z2, z3, z4⟩ := e2
  obtain rfl : q.1 = room := by omega
  obtain rfl : q.2.1 = i := by omega
  obtain rfl : q.2.2.1 = j := by omega
  exact ⟨x1, x2, t, o, er, ev⟩
end
end Dn
namespace Dn
open PySem PySem.Spec PyProof.Rows L2 PySem.SeqAt Rw

/-! ### outcomes with exceptions -/
/-- of a statement: how it goes on, what it returns, what it raises -/
@[irreducible] def wE (o : OutS) (N : Sl → PH → Prop) (R : PV → PH → Prop) (E : PErr → Sl → PH → Prop) : Prop := match o with
  | .nx s h => N s h
  | .rt v h => R v h
  | .err z s h => E z s h
  | _ => False
theorem wE_of {o : OutS} {N : Sl → PH → Prop} {R : PV → PH → Prop} {E : PErr → Sl → PH → Prop} (q : wS o N R) : wE o N R E := by
  unfold wE
  cases o with
  | nx s h => rw [wS_nx] at q; exact q
  | rt s h => rw [wS_rt] at q; exact q
  | bk s h => rw [wS_bk] at q; exact q.elim
  | ct s h => rw [wS_ct] at q; exact q.elim
  | err z s h => rw [wS_err] at q; exact q.elim
  | no => rw [wS_no] at q; exact q.elim
theorem wE_er {o : OutS} {z : PErr} {s : Sl} {h : PH} {N : Sl → PH → Prop} {R : PV → PH → Prop} {E : PErr → Sl → PH → Prop} (e : o = .err z s h) (q : E z s h) : wE o N R E := by rw [e]; unfold wE; exact q
/-- try: .. except X as n: .. -/
theorem try_w {i : Nat} {tab : List (Str × Bool)} {f : DS} {g : PErr → DS} {s : Sl} {h : PH} {N : Sl → PH → Prop} {R : PV → PH → Prop}
    (q : wE (f s h) N R fun z s' h' => tab.lookup z.cls = some true ∧ (∃ o, s'[i]? = some o) ∧ wS (g z (s'.set i none) h') (fun s2 h2 => N (s2.set i none) h2) R) : wS (sTry i tab f g s h) N R := by
  unfold sTry
  unfold wE at q
  cases ef : f s h with
  | nx s' h' => rw [ef] at q; dsimp only; rw [wS_nx]; exact q
  | rt v h' => rw [ef] at q; dsimp only; rw [wS_rt]; exact q
  | bk _ _ => rw [ef] at q; exact q.elim
  | ct _ _ => rw [ef] at q; exact q.elim
  | no => rw [ef] at q; exact q.elim
  | err z s' h' =>
    rw [ef] at q
    obtain ⟨e1, ⟨o, e2⟩, q⟩ := q
    dsimp only
    rw [e1, e2]
    dsimp only
    unfold wS at q ⊢
    cases eg : g z (s'.set i none) h' with
    | nx _ _ => rw [eg] at q; exact q
    | rt _ _ => rw [eg] at q; exact q
    | bk _ _ => rw [eg] at q; exact q.elim
    | ct _ _ => rw [eg] at q; exact q.elim
    | err _ _ _ => rw [eg] at q; exact q.elim
    | no => rw [eg] at q; exact q.elim
section
variable {n r most : Nat} {rm : Nat → Room} {ws : Nat → List (Bool × Nat)} {pl : Nat → Nat} {wd : Nat → Str} {nu : Nat → Nat} {ts : List (Nat × Nat × Nat × Nat)} {h : PH}
end
end Dn
namespace Dn
open PySem PySem.Spec PyProof.Rows L2 PySem.SeqAt Rw

/-! ### a body that may break -/
/-- of a statement in a loop's body: how it goes on, breaks, returns -/
@[irreducible] def wK (o : OutS) (Nx Bk : Sl → PH → Prop) (R : PV → PH → Prop) : Prop := match o with
  | .nx s h => Nx s h
  | .bk s h => Bk s h
  | .rt v h => R v h
  | _ => False
/-! ### repr of data without objects -/
section
variable {n r most : Nat} {rm : Nat → Room} {ws : Nat → List (Bool × Nat)} {pl : Nat → Nat} {wd : Nat → Str} {nu : Nat → Nat} {ts : List (Nat × Nat × Nat × Nat)}
theorem law_end {h : PH} (D : Dk 2 4 h) : wO (gcN [] (.ok (.bl true) h)) fun v _ => v = .bl true :=
  gc_gr rfl ⟨Nat.zero_le _, fun i l => absurd l (Nat.not_lt_zero _), D.cl⟩ rfl rfl
end
end Dn
namespace Dn
open PySem PySem.Spec PyProof.Rows L2 PySem.SeqAt Rw

section
variable {n r most : Nat} {rm : Nat → Room} {ws : Nat → List (Bool × Nat)} {pl : Nat → Nat} {wd : Nat → Str} {nu : Nat → Nat} {ts : List (Nat × Nat × Nat × Nat)} {h : PH}
/-! ### each even pair has its token -/
def keyT (q : Nat × Nat × Nat × Nat) : Nat × Nat × Nat := (q.1, q.2.1, q.2.2.1)
def TsT (n r : Nat) (rm : Nat → Room) (ts : List (Nat × Nat × Nat × Nat)) : Prop := (ts.map keyT).map triP = tripsP n rm r
theorem flat_mem {α : Type} {f : Nat → List α} {m k : Nat} {x : α} (lk : k < m) (hx : x ∈ f k) : x ∈ ((List.range m).map f).flatten := List.mem_flatten.mpr ⟨f k, List.mem_map.mpr ⟨k, by simpa using lk, rfl⟩, hx⟩
theorem trips_has {room i j : Nat} {t : Nat → Nat → Str} {o : Nat → List Nat} (lr : room < r) (ij : i < j) (lj : j < n) (er : rm room = some (t, o)) (ev : t i j = "even") : tripP room i j ∈ tripsP n rm r := by
  unfold tripsP
  refine flat_mem lr ?_
  rw [er]
  unfold tripsOf
  dsimp only
  unfold tripsAt
  refine flat_mem (show i < n by omega) ?_
  unfold tripsRow
  refine List.mem_map.mpr ⟨j, List.mem_filter.mpr ⟨?_, by simpa using ij⟩, rfl⟩
  unfold evensOf
  exact List.mem_filter.mpr ⟨by simpa using lj, by simpa using ev⟩
theorem TsT.has {room i j : Nat} {t : Nat → Nat → Str} {o : Nat → List Nat} (T : TsT n r rm ts) (lr : room < r) (ij : i < j) (lj : j < n) (er : rm room = some (t, o)) (ev : t i j = "even") : ∃ q ∈ ts, keyT q = (room, i, j) := by
  have m := trips_has lr ij lj er ev
  rw [← T] at m
  obtain ⟨k, hk, e⟩ := List.mem_map.mp m
  obtain ⟨q, hq, rfl⟩ := List.mem_map.mp hk
  refine ⟨q, hq, ?_⟩
  unfold triP tripP keyT at e
  simp only [PV.tup.injEq, List.cons.injEq, PV.int.injEq, and_true] at e
  unfold keyT
  rw [show q.1 = room by omega, show q.2.1 = i by omega, show q.2.2.1 = j by omega]
end
end Dn
namespace Dn
open PySem PySem.Spec PyProof.Rows L2 PySem.SeqAt Rw

/-! ### the next step by the word -/
section
variable {n r most : Nat} {rm : Nat → Room} {ws : Nat → List (Bool × Nat)} {pl : Nat → Nat} {wd : Nat → Str} {nu : Nat → Nat} {ts : List (Nat × Nat × Nat × Nat)} {h : PH}
end
end Dn
namespace Dn
open PySem PySem.Spec PyProof.Rows L2 PySem.SeqAt Rw

/-! ### standings as one thing, runs -/
structure Sd where
  pl : Nat → Nat
  wd : Nat → Str
  nu : Nat → Nat
  ts : List (Nat × Nat × Nat × Nat)
def Sd.P (n : Nat) (s : Sd) : PV := standP n s.pl s.wd s.nu s.ts
noncomputable def Sd.nx (n : Nat) (rm : Nat → Room) (ws : Nat → List (Bool × Nat)) (s : Sd) (i : Nat) : PV := nextP n rm ws s.pl s.wd s.nu s.ts i
noncomputable def Sd.st (n : Nat) (rm : Nat → Room) (ws : Nat → List (Bool × Nat)) (s : Sd) (i : Nat) : Sd :=
  ⟨putF s.pl i (behOf n rm (ws i) i (s.pl i) (s.nu i) (s.nx n rm ws i)).1, putF s.wd i (behOf n rm (ws i) i (s.pl i) (s.nu i) (s.nx n rm ws i)).2.1, putF s.nu i (behOf n rm (ws i) i (s.pl i) (s.nu i) (s.nx n rm ws i)).2.2, stepTs n rm (ws i) i (s.pl i) (s.wd i) (s.nu i) s.ts⟩
/-- a run whose hands are never barred -/
def Runs (n : Nat) (rm : Nat → Room) (ws : Nat → List (Bool × Nat)) : Sd → List Nat → Prop
  | _, [] => True
  | s, i :: r => i < n ∧ s.nx n rm ws i ≠ .non ∧ Runs n rm ws (s.st n rm ws i) r
noncomputable def aft (n : Nat) (rm : Nat → Room) (ws : Nat → List (Bool × Nat)) : Sd → List Nat → Sd
  | s, [] => s
  | s, i :: r => aft n rm ws (s.st n rm ws i) r
section
variable {n r most : Nat} {rm : Nat → Room} {ws : Nat → List (Bool × Nat)} {s : Sd} {h : PH}
theorem Runs.app : ∀ {a b : List Nat} {s : Sd}, Runs n rm ws s (a ++ b) ↔ Runs n rm ws s a ∧ Runs n rm ws (aft n rm ws s a) b
  | [], _, _ => ⟨fun h => ⟨trivial, h⟩, fun h => h.2⟩
  | i :: a, b, s => by
    show (i < n ∧ s.nx n rm ws i ≠ .non ∧ Runs n rm ws (s.st n rm ws i) (a ++ b)) ↔ (i < n ∧ s.nx n rm ws i ≠ .non ∧ Runs n rm ws (s.st n rm ws i) a) ∧ Runs n rm ws (aft n rm ws (s.st n rm ws i) a) b
    rw [Runs.app (a := a)]
    exact ⟨fun ⟨x, y, z, w⟩ => ⟨⟨x, y, z⟩, w⟩, fun ⟨⟨x, y, z⟩, w⟩ => ⟨x, y, z, w⟩⟩
end
end Dn
namespace Dn
open PySem PySem.Spec PyProof.Rows L2 PySem.SeqAt Rw

/-! ### tuples many times; what raises -/
theorem mul_many {xs : List PV} {k : Nat} (l : xs.length ≤ 1000) (h2 : 2 ≤ k ∧ k ≤ 5000) (ne : xs ≠ []) (h : PH) : opMul (.tup xs) (.int (k : Nat)) h = some (.tup (List.replicate k xs).flatten, h) := by
  unfold opMul
  have a : decide (((k : Nat) : Int) = 1) = false := decide_eq_false (by omega)
  have b : decide ((2 : Int) ≤ ((k : Nat) : Int) ∧ ((k : Nat) : Int) ≤ 5000) = true := decide_eq_true (by omega)
  have c : decide (xs.length ≤ 1000) = true := decide_eq_true l
  have d : (!xs.isEmpty) = true := by cases xs with | nil => exact absurd rfl ne | cons _ _ => rfl
  dsimp only
  rw [a, b, c, d, if_neg (by decide), if_pos (show (true && true && true) = true from rfl), Int.toNat_natCast]
theorem mul_tup {x : PV} (k : Nat) (l : k ≤ 5000) (h : PH) : opMul (.tup [x]) (.int (k : Nat)) h = some (.tup (List.replicate k x), h) := by
  match k, l with
  | 0, _ => rfl
  | 1, _ => rfl
  | k + 2, l => rw [mul_many (by simp) (by omega) (by simp), List.flatten_replicate_singleton]
theorem gc_er {h h3 : PH} {z : PErr} (c : Cl h.length h) (G : Gr h h3) (hz : errLowr h.length z = true) : gcN h (.err z h3) = .err z h := by
  have e : h3.take h.length = h := by
    apply List.ext_getElem?
    intro i
    by_cases l : i < h.length
    · rw [List.getElem?_take_of_lt l]
      exact G.at_ i l
    · rw [List.getElem?_eq_none (by rw [List.length_take]; omega), List.getElem?_eq_none (by omega)]
  unfold gcN
  dsimp only
  rw [e, hz, decide_eq_true G.len, show phLowr h.length h = true from c]
  rfl
end Dn
namespace Dn
open PySem PySem.Spec PyProof.Rows L2 PySem.SeqAt Rw

/-! ### sorted: the one ascending row -/
def fI (v : PV) : PyData := match v with
  | .tup xs => .tuple (xs.map fun x => match x with | .int i => .int i | _ => .none)
  | _ => .none
end Dn
namespace Dn
open PySem PySem.Spec PyProof.Rows L2 PySem.SeqAt Rw

/-! ### numbers as texts -/
section
variable {h : PH}
end
end Dn
namespace Dn
open PySem PySem.Spec PyProof.Rows L2 PySem.SeqAt Rw

/-! ### rules for texts -/
theorem opAdd_str (a b : Str) (h : PH) : opAdd (.str a) (.str b) h = if sizeOk (a.length + b.length) = true then some (.str (a ++ b), h) else none := rfl
theorem eFs_ap (fs : List DE) (s : Sl) (h : PH) : eFs fs s h = eJs fs Str.empty s h := rfl
theorem eJs_nil (acc : Str) (s : Sl) (h : PH) : eJs [] acc s h = .ok (.str acc) h := rfl
theorem eJs_cons (f : DE) (fs : List DE) (acc : Str) (s : Sl) (h : PH) : eJs (f :: fs) acc s h = (f s h).bind fun x h => joinO acc x h fun acc h => eJs fs acc s h := rfl
theorem eFmt_ap (f : DE) (s : Sl) (h : PH) : eFmt f s h = (f s h).bind fun x h => fmtO x h := rfl
theorem wO_joinO (acc y : Str) (h : PH) (k : Str → PH → Out PV) (Q : PV → PH → Prop) : wO (joinO acc (.str y) h k) Q = ((acc ++ y).length ≤ 16777216 ∧ wO (k (acc ++ y) h) Q) := by
  unfold joinO
  dsimp only
  by_cases l : (acc ++ y).length ≤ 16777216
  · rw [if_pos (show sizeOk (acc ++ y).length = true from decide_eq_true l)]
    simp [l]
  · rw [if_neg (by unfold sizeOk; simpa using l), wO_no]
    simp [l]
theorem wO_fmt_str (z : Str) (h : PH) (Q : PV → PH → Prop) : wO (fmtO (.str z) h) Q = (z.length ≤ 16777216 ∧ Q (.str z) h) := by
  unfold fmtO
  dsimp only
  by_cases l : z.length ≤ 16777216
  · rw [if_pos (show sizeOk z.length = true from decide_eq_true l), wO_ok]
    simp [l]
  · rw [if_neg (by unfold sizeOk; simpa using l), wO_no]
    simp [l]
theorem kindP_str' (h : PH) (z : Str) : kindP h (.str z) = some "str" := rfl
section
variable {h : PH}
end
end Dn
namespace Dn
open PySem PySem.Spec PyProof.Rows L2 PySem.SeqAt Rw

/-! ### the text of a standing -/
theorem SpOk.wd {n i p k : Nat} {rm : Nat → Room} {st : List (Bool × Nat)} {w : Str} (n5 : n ≤ 5) (S : SpOk n rm st i p w k) : w ∈ (["rest", "go", "hand", "look", "yield", "low"] : List Str) := (S.small n5).2
section
variable {n r most : Nat} {rm : Nat → Room} {ws : Nat → List (Bool × Nat)} {pl : Nat → Nat} {wd : Nat → Str} {nu : Nat → Nat} {ts : List (Nat × Nat × Nat × Nat)} {h : PH}
/-- what is small in a standing -/
structure Sm (n : Nat) (pl : Nat → Nat) (wd : Nat → Str) (nu : Nat → Nat) (ts : List (Nat × Nat × Nat × Nat)) : Prop where
  sp : ∀ i, i < n → pl i < 64 ∧ nu i < 64 ∧ wd i ∈ (["rest", "go", "hand", "look", "yield", "low"] : List Str)
  tk : ∀ q ∈ ts, q.2.2.2 < 64
  lt : ts.length ≤ 1000
  n5 : n ≤ 5
def dnev_14 := And.intro @dnev_13 (And.intro @opAdd_str (And.intro @eFs_ap (And.intro @eJs_nil (And.intro @eJs_cons (And.intro @eFmt_ap (@kindP_str'))))))
end
end Dn
namespace Dn
open PySem PySem.Spec PyProof.Rows L2 PySem.SeqAt Rw

/-! ### each token is with one of its two -/
def TkH (ts : List (Nat × Nat × Nat × Nat)) : Prop := ∀ q ∈ ts, q.2.2.2 = q.2.1 ∨ q.2.2.2 = q.2.2.1
section
variable {n r most : Nat} {rm : Nat → Room} {ws : Nat → List (Bool × Nat)} {s : Sd} {ts : List (Nat × Nat × Nat × Nat)}
end
end Dn
namespace Dn
open PySem PySem.Spec PyProof.Rows L2 PySem.SeqAt Rw

/-! ### a text's parts -/
/-! ### reading a spot -/
end Dn
namespace Dn
open PySem PySem.Spec PyProof.Rows L2 PySem.SeqAt Rw

section
variable {n r most : Nat} {rm : Nat → Room} {ws : Nat → List (Bool × Nat)} {h : PH}
end
end Dn
namespace Dn
open PySem PySem.Spec PyProof.Rows L2 PySem.SeqAt Rw

section
variable {n r most : Nat} {rm : Nat → Room} {ws : Nat → List (Bool × Nat)} {h : PH}
end
end Dn
namespace Dn
open PySem PySem.Spec PyProof.Rows L2 PySem.SeqAt Rw

section
variable {n r most : Nat} {rm : Nat → Room} {ws : Nat → List (Bool × Nat)} {ts : List (Nat × Nat × Nat × Nat)} {h : PH}
end
end Dn
namespace Dn
open PySem PySem.Spec PyProof.Rows L2 PySem.SeqAt Rw

section
variable {n r most : Nat} {rm : Nat → Room} {ws : Nat → List (Bool × Nat)} {pl : Nat → Nat} {wd : Nat → Str} {nu : Nat → Nat} {ts : List (Nat × Nat × Nat × Nat)} {h : PH}
end
end Dn
namespace Dn
open PySem PySem.Spec PyProof.Rows L2 PySem.SeqAt Rw

/-- a comprehension over things that are given as data -/
theorem comp_l {α : Type} {gs : List (Nat × List PV)} {g : GP} {e : DE} {s : Sl} {h : PH} (c : Cl h.length h) (a b : α → PV) (ok : ∀ H, Gr h H → okG gs H = true) : ∀ (l : List α) (acc : List PV), PV.lowrs h.length acc = true → acc.length + l.length < 16777216 →
    (∀ x ∈ l, (b x).lowr h.length = true ∧ ∃ as, g (a x) = some as ∧ ∀ H, Gr h H → e (setP as s) H = .ok (b x) H) → compItems gs g tYesD e h.length s (l.map a) (h ++ [.lst acc]) = .ok () (h ++ [.lst (acc ++ l.map b)])
  | [], acc, la, _, _ => by
    have G : Gr h (h ++ [.lst acc]) := (Gr.refl c).pushL (lowrs_mono (by omega) _ la)
    rw [List.map_nil]
    unfold compItems
    rw [if_pos (ok _ G), List.map_nil, List.append_nil]
  | x :: r, acc, la, l, q => by
    have G : Gr h (h ++ [.lst acc]) := (Gr.refl c).pushL (lowrs_mono (by omega) _ la)
    obtain ⟨lx, as, e1, e2⟩ := q x List.mem_cons_self
    have ih := comp_l c a b ok r (acc ++ [b x]) (lowrs_snoc la lx) (by simp only [List.length_append, List.length_cons, List.length_nil] at l ⊢; omega) fun y hy => q y (List.mem_cons_of_mem x hy)
    simp only [List.length_cons] at l
    obtain ⟨t, eb⟩ : ∃ t : Bool, t = true := ⟨_, rfl⟩
    have ey : tYesD (setP as s) (h ++ [MO.lst acc]) = .ok t (h ++ [MO.lst acc]) := by rw [eb]; rfl
    rw [List.map_cons]
    unfold compItems
    rw [if_pos (ok _ G), e1]
    dsimp only
    rw [ey]
    show (if t = true then _ else _) = _
    rw [if_pos eb, e2 _ G]
    show (match (h ++ [MO.lst acc])[h.length]? with
        | some (.lst acc) => if acc.length < 16777216 then compItems gs g tYesD e h.length s (r.map a) ((h ++ [MO.lst _]).set h.length (.lst (acc ++ [b x]))) else .no
        | _ => .no) = _
    rw [get_last]
    dsimp only
    rw [if_pos (by omega), set_last, ih, List.map_cons, List.append_assoc]
    rfl
section
variable {n r most : Nat} {rm : Nat → Room} {ws : Nat → List (Bool × Nat)} {h : PH}
/-- a standing that has a text, and its text -/
structure Gd (n r : Nat) (rm : Nat → Room) (ws : Nat → List (Bool × Nat)) (s : Sd) : Prop where
  O : StOk n rm ws s.pl s.wd s.nu s.ts
  T : TsT n r rm s.ts
  K : TkH s.ts
theorem Gd.same {s : Sd} (n5 : n ≤ 5) (g : Gd n r rm ws s) : m__law_same 8 [s.P n, s.P n] h = .ok (.bl true) h := (Pn.stand n5 g.O.S : Pn 3 (standP n s.pl s.wd s.nu s.ts)).same (by decide)
end
end Dn
namespace Dn
open PySem PySem.Spec PyProof.Rows L2 PySem.SeqAt Rw

/-! ### values that are no texts -/
def NoText (h : PH) (v : PV) : Prop := ∃ ty, tyP h v = some ty ∧ Rw.isC "str" ty = false
theorem da_kind {k w n : Nat} {h : PH} {v : PV} (a : Da k w n h v) : (∃ z, v = .str z) ∨ NoText h v := by
  obtain ⟨d, e, _, _⟩ := a
  cases k with
  | zero => cases e
  | succ k =>
    cases v with
    | str z => exact .inl ⟨z, rfl⟩
    | non => exact .inr ⟨_, rfl, by decide +kernel⟩
    | bl b => exact .inr ⟨_, rfl, by decide +kernel⟩
    | int i => exact .inr ⟨_, rfl, by decide +kernel⟩
    | tup xs => exact .inr ⟨_, rfl, by decide +kernel⟩
    | kt xs => cases e
    | fz xs => cases e
    | ref m =>
      unfold toE at e
      dsimp only at e
      split at e
      · rename_i xs q
        obtain ⟨_, q2⟩ := msk_at q rfl
        exact .inr ⟨"list", by unfold tyP; dsimp only; rw [q2], by decide +kernel⟩
      · rename_i z y q
        obtain ⟨_, q2⟩ := msk_at q rfl
        exact .inr ⟨"dict", by unfold tyP; dsimp only; rw [q2], by decide +kernel⟩
      · cases e
theorem NoText.gr {h H : PH} {v : PV} (nt : NoText h v) (G : Gr h H) : NoText H v := by
  obtain ⟨ty, e1, e2⟩ := nt
  refine ⟨ty, ?_, e2⟩
  cases v with
  | ref m =>
    unfold tyP at e1 ⊢
    dsimp only at e1 ⊢
    by_cases l : m < h.length
    · rw [G.at_ m l]
      exact e1
    · rw [List.getElem?_eq_none (by omega)] at e1
      cases e1
  | _ => exact e1
section
variable {n r most : Nat} {rm : Nat → Room} {ws : Nat → List (Bool × Nat)} {h : PH} {v : PV}
end
end Dn
namespace Dn
open PySem PySem.Spec PyProof.Rows L2 PySem.SeqAt Rw

/-! ### texts that are spoilt: only how long they may be, and that their signs are signs -/
def wt (y : List Nat) : List (List Nat) → Nat
  | [] => 0
  | p :: ps => p.length + y.length + wt y ps
def dnw_3 := And.intro @dnw_2 (And.intro @wO_joinO (@wO_fmt_str))
end Dn
namespace Dn
open PySem PySem.Spec PyProof.Rows L2 PySem.SeqAt Rw

/-! ### texts of houses -/
def tabO (tab : List (Str × Str)) (x : PV) (h : PH) : Out PV := match x with
  | .str z => (match tab.lookup z with
    | some v => .ok (.str v) h
    | none => .no)
  | _ => .no
theorem eTab_ap (tab : List (Str × Str)) (e : DE) (s : Sl) (h : PH) : eTab tab e s h = (e s h).bind fun x h => tabO tab x h := rfl
section
variable {n r most : Nat} {rm : Nat → Room} {ws : Nat → List (Bool × Nat)} {h : PH}
end
end Dn
namespace Dn
open PySem PySem.Spec PyProof.Rows L2 PySem.SeqAt Rw

section
variable {n r most : Nat} {rm : Nat → Room} {ws : Nat → List (Bool × Nat)} {h : PH}
theorem lows_str {α : Type} (k : Nat) (f : α → Str) (l : List α) : PV.lowrs k (l.map fun x => PV.str (f x)) = true := lowrs_iff.mpr fun y hy => by
  obtain ⟨_, _, rfl⟩ := List.mem_map.mp hy
  rfl
theorem app_see {H : PH} {k : Nat} {o p : MO} (e : H[k]? = some o) : (H ++ [p])[k]? = some o := by rw [List.getElem?_append_left (List.getElem?_eq_some_iff.mp e).1]; exact e
def strsL (ps : List (List Nat)) : List PV := ps.map fun p => PV.str (mkS p)
theorem strsL_low (k : Nat) (a : List (List Nat)) : PV.lowrs k (strsL a) = true := lows_str k mkS a
def dnev_15 := And.intro @dnev_14 (@eTab_ap)
end
end Dn
namespace Dn
open PySem PySem.Spec PyProof.Rows L2 PySem.SeqAt Rw

/-! ### the law's own texts of houses -/
def sgK : List (Key × PV) := [(.inr "-", .str "-"), (.inr "stand", .str "s"), (.inr "bow", .str "b"), (.inr "even", .str "e")]
section
variable {n r most : Nat} {rm : Nat → Room} {ws : Nat → List (Bool × Nat)} {h : PH}
/-- the items of a line while they are filled: I the list, K the dict of the signs -/
structure Itm (h : PH) (I K : Nat) (ps : List (List Nat)) (H : PH) : Prop where
  G : Gr h H
  i : h.length ≤ I
  at_ : H[I]? = some (.lst (strsL ps))
  ne : I ≠ K
  k : H[K]? = some (.dK sgK)
theorem Itm.cl {I K : Nat} {ps : List (List Nat)} {H : PH} (S : Itm h I K ps H) : Cl H.length H := S.G.cl
theorem Itm.push {I K : Nat} {ps : List (List Nat)} {H : PH} {qs : List (List Nat)} (S : Itm h I K ps H) : Itm h I K ps (H ++ [.lst (strsL qs)]) := ⟨S.G.pushL (strsL_low _ _), S.i, app_see S.at_, S.ne, app_see S.k⟩
end
end Dn
namespace Dn
open PySem PySem.Spec PyProof.Rows L2 PySem.SeqAt Rw

/-! ### items of lines -/
def inTabO (tab : List (Str × Str)) (x : PV) (h : PH) : Out PV := match x with
  | .str z => .ok (.bl (tab.lookup z).isSome) h
  | _ => .no
theorem eInTab_ap (tab : List (Str × Str)) (e : DE) (s : Sl) (h : PH) : eInTab tab e s h = (e s h).bind fun x h => inTabO tab x h := rfl
section
variable {h : PH}
end
end Dn
namespace Dn
open PySem PySem.Spec PyProof.Rows L2 PySem.SeqAt Rw

/-! ### lines -/
section
variable {h : PH}
def dnev_16 := And.intro @dnev_15 (@eInTab_ap)
end
end Dn
namespace Dn
open PySem PySem.Spec PyProof.Rows L2 PySem.SeqAt Rw

/-! ### what lines tell -/
/-- a generator expression over things that are given as data -/
theorem gen_l {α : Type} {gs : List (Nat × List PV)} {g : GP} {e : DE} {s : Sl} {h : PH} (a b : α → PV) (ok : okG gs h = true) : ∀ (l : List α) (acc : List PV), acc.length + l.length < 16777216 →
    (∀ x ∈ l, ∃ as, g (a x) = some as ∧ e (setP as s) h = .ok (b x) h) → genItems gs g tYesD e s (l.map a) acc h = .ok (acc ++ l.map b) h
  | [], acc, _, _ => by
    rw [List.map_nil, List.map_nil, List.append_nil]
    unfold genItems
    rw [if_pos ok]
  | x :: r, acc, l, q => by
    obtain ⟨as, e1, e2⟩ := q x List.mem_cons_self
    simp only [List.length_cons] at l
    have ih := gen_l (gs := gs) (g := g) (e := e) (s := s) (h := h) a b ok r (acc ++ [b x]) (by simp only [List.length_append, List.length_cons, List.length_nil]; omega) fun y hy => q y (List.mem_cons_of_mem x hy)
    rw [List.map_cons]
    unfold genItems
    rw [if_pos ok, e1]
    show (if true = true then (e (setP as s) h).ne.bind fun y h => if acc.length < 16777216 then genItems gs g tYesD e s (r.map a) (acc ++ [y]) h else .no else genItems gs g tYesD e s (r.map a) acc h) = _
    rw [if_pos rfl, e2]
    show (if acc.length < 16777216 then genItems gs g tYesD e s (r.map a) (acc ++ [b x]) h else .no) = _
    rw [if_pos (by omega), ih, List.map_cons, List.append_assoc]
    rfl
section
variable {h : PH}
theorem lowr_row (k : Nat) (r : List Str) : (PV.tup (r.map PV.str)).lowr k = true := lows_str k id r
end
end Dn
namespace Dn
open PySem PySem.Spec PyProof.Rows L2 PySem.SeqAt Rw

/-! ### all lines of a text -/
theorem lowr_wayP (k : Nat) (st : List (Bool × Nat)) : (wayP st).lowr k = true := lowrs_iff.mpr fun y hy => by
  obtain ⟨_, _, rfl⟩ := List.mem_map.mp hy
  rfl
section
variable {h : PH}
end
end Dn
namespace Dn
open PySem PySem.Spec PyProof.Rows L2 PySem.SeqAt Rw

/-! ### what is wrong with ways that lines tell -/
section
variable {h : PH}
end
end Dn
namespace Dn
open PySem PySem.Spec PyProof.Rows L2 PySem.SeqAt Rw

section
variable {h : PH}
end
end Dn
namespace Dn
open PySem PySem.Spec PyProof.Rows L2 PySem.SeqAt Rw

/-! ### what is wrong with tables that lines tell -/
def rowQ (r : List Str) : PV := .tup (r.map PV.str)
section
variable {h : PH}
theorem rg_at {lo : Int} {k m : Nat} {x : PV} (hx : (rangeP lo k)[m]? = some x) : m < k ∧ x = .int (lo + (m : Nat)) := by
  unfold rangeP at hx
  rw [List.getElem?_map] at hx
  by_cases l : m < k
  · rw [List.getElem?_range l] at hx
    cases hx
    exact ⟨l, rfl⟩
  · rw [List.getElem?_eq_none (by simpa using l)] at hx
    cases hx
end
end Dn
namespace Dn
open PySem PySem.Spec PyProof.Rows L2 PySem.SeqAt Rw

/-! ### sorted numbers -/
/-! ### equal lists of numbers -/
end Dn
namespace Dn
open PySem PySem.Spec PyProof.Rows L2 PySem.SeqAt Rw

/-! ### what is wrong with orders that lines tell -/
section
variable {h : PH}
theorem is_int_eq (i : Int) (h : PH) : m_is_integer [.int i] h = .ok (.bl true) h := by
  refine eq_of_wO (wO_mk (show [PV.int i].length = 1 from rfl) ?_)
  simp -dsimp -implicitDefEqProofs only [dnev_16, dnif_1, dnw_3, g_is_integer]
  exact gc_same ⟨rfl, rfl⟩
end
end Dn
namespace Dn
open PySem PySem.Spec PyProof.Rows L2 PySem.SeqAt Rw

/-! ### what is wrong with houses that lines tell -/
section
variable {h : PH}
end
end Dn
namespace Dn
open PySem PySem.Spec PyProof.Rows L2 PySem.SeqAt Rw

/-! ### lines lead back what they are of -/
end Dn
namespace Dn
open PySem PySem.Spec PyProof.Rows L2 PySem.SeqAt Rw

/-! ### a house's text leads it back -/
section
variable {n r most : Nat} {rm : Nat → Room} {ws : Nat → List (Bool × Nat)} {h : PH}
/-! ### nothing is wrong with a house -/
end
end Dn
namespace Dn
open PySem PySem.Spec PyProof.Rows L2 PySem.SeqAt Rw

/-! ### the whole text read -/
section
variable {n r most : Nat} {rm : Nat → Room} {ws : Nat → List (Bool × Nat)} {h : PH}
end
end Dn
namespace Dn
open PySem PySem.Spec PyProof.Rows L2 PySem.SeqAt Rw

/-! ### another house, near by -/
section
variable {n r : Nat} {rm : Nat → Room} {ws : Nat → List (Bool × Nat)}
theorem WayOk.up {r m m2 : Nat} {st : List (Bool × Nat)} (k : WayOk r m st) (l : m ≤ m2) : WayOk r m2 st := ⟨k.two, Nat.le_trans k.few l, k.low, k.nst⟩
theorem HouseOk.up {m m2 : Nat} (ok : HouseOk n r m rm ws) (l : m ≤ m2) : HouseOk n r m2 rm ws := ⟨ok.rms, fun i li => (ok.wys i li).up l⟩
end
end Dn
namespace Dn
open PySem PySem.Spec PyProof.Rows L2 PySem.SeqAt Rw

/-! ### equal data -/
/-- data without truth values -/
inductive Ps : Nat → PV → Prop
  | non {n : Nat} : Ps n .non
  | int {n : Nat} (i : Int) : Ps n (.int i)
  | str {n : Nat} {x : Str} (h : PyData.strOk x = true) : Ps n (.str x)
  | tup {n : Nat} {xs : List PV} (h : ∀ x ∈ xs, Ps n x) : Ps (n + 1) (.tup xs)
theorem Ps.eqv {h : PH} {n : Nat} {v : PV} (p : Ps n v) : ∀ k, n < k → ∃ d, toD h k v = some d ∧ d.canLay0 = true ∧ d.depth ≤ n ∧ ∀ {m : Nat} {w : PV}, Ps m w → ∀ k2, m < k2 → ∀ e, toD h k2 w = some e → (PyData.eqv d e = true ↔ v = w) := by
  induction p with
  | non =>
    intro k l
    cases k with
    | zero => omega
    | succ k =>
      refine ⟨.none, rfl, rfl, Nat.zero_le _, fun p2 k2 l2 e he => ?_⟩
      cases k2 with
      | zero => omega
      | succ k2 =>
        cases p2 with
        | non => cases he; simp [PyData.eqv]
        | int i => cases he; simp [PyData.eqv]
        | str q => cases he; simp [PyData.eqv]
        | tup q =>
          unfold toD at he
          obtain ⟨es, _, rfl⟩ := Option.map_eq_some_iff.mp he
          simp [PyData.eqv]
  | int i =>
    intro k l
    cases k with
    | zero => omega
    | succ k =>
      refine ⟨.int i, rfl, rfl, Nat.zero_le _, fun p2 k2 l2 e he => ?_⟩
      cases k2 with
      | zero => omega
      | succ k2 =>
        cases p2 with
        | non => cases he; simp [PyData.eqv]
        | int j => cases he; simp [PyData.eqv]
        | str q => cases he; simp [PyData.eqv]
        | tup q =>
          unfold toD at he
          obtain ⟨es, _, rfl⟩ := Option.map_eq_some_iff.mp he
          simp [PyData.eqv]
  | @str n x q =>
    intro k l
    cases k with
    | zero => omega
    | succ k =>
      refine ⟨.str x, rfl, q, Nat.zero_le _, fun p2 k2 l2 e he => ?_⟩
      cases k2 with
      | zero => omega
      | succ k2 =>
        cases p2 with
        | non => cases he; simp [PyData.eqv]
        | int j => cases he; simp [PyData.eqv]
        | str q => cases he; simp [PyData.eqv]
        | tup q =>
          unfold toD at he
          obtain ⟨es, _, rfl⟩ := Option.map_eq_some_iff.mp he
          simp [PyData.eqv]
  | @tup n xs q ih =>
    intro k l
    cases k with
    | zero => omega
    | succ k =>
      have key : ∀ ys : List PV, (∀ y ∈ ys, y ∈ xs) → ∃ ds, allD (toD h k) ys = some ds ∧ PyData.canLayAll0 ds = true ∧ PyData.depthAll ds ≤ n ∧ ∀ {m : Nat} {ws : List PV}, (∀ w ∈ ws, Ps m w) → ∀ k2, m < k2 → ∀ es, allD (toD h k2) ws = some es → (PyData.eqvAll ds es = true ↔ ys = ws) := by
        intro ys
        induction ys with
        | nil =>
          intro _
          refine ⟨[], rfl, rfl, by simp [PyData.depthAll], fun {m ws} a k2 l2 es he => ?_⟩
          cases ws with
          | nil => cases he; simp [PyData.eqvAll]
          | cons w ws =>
            obtain ⟨e, es2, rfl, _, _⟩ := allD_cons he
            simp [PyData.eqvAll]
        | cons y ys ih2 =>
          intro sub
          obtain ⟨d, e1, c1, p1, f1⟩ := ih y (sub y List.mem_cons_self) k (by omega)
          obtain ⟨ds, e2, c2, p2, f2⟩ := ih2 fun z hz => sub z (List.mem_cons_of_mem _ hz)
          refine ⟨d :: ds, ?_, ?_, ?_, fun {m ws} a k2 l2 es he => ?_⟩
          · unfold allD
            rw [e1, e2]
          · show (d.canLay0 && PyData.canLayAll0 ds) = true
            rw [c1, c2]
            rfl
          · simp only [PyData.depthAll]
            exact Nat.max_le.mpr ⟨p1, p2⟩
          · cases ws with
            | nil => cases he; simp [PyData.eqvAll]
            | cons w ws =>
              obtain ⟨e, es2, rfl, g1, g2⟩ := allD_cons he
              have a1 := f1 (a w List.mem_cons_self) k2 l2 e g1
              have a2 := f2 (fun z hz => a z (List.mem_cons_of_mem _ hz)) k2 l2 es2 g2
              simp only [PyData.eqvAll, Bool.and_eq_true, List.cons.injEq]
              rw [a1, a2]
      obtain ⟨ds, e, c, p, f⟩ := key xs fun _ h => h
      refine ⟨.tuple ds, ?_, c, ?_, fun {m w} p2 k2 l2 e2 he => ?_⟩
      · show (allD (toD h k) xs).map PyData.tuple = _
        rw [e]
        rfl
      · simp only [PyData.depth]
        omega
      · cases k2 with
        | zero => omega
        | succ k2 =>
          cases p2 with
          | non => cases he; simp [PyData.eqv]
          | int j => cases he; simp [PyData.eqv]
          | str q => cases he; simp [PyData.eqv]
          | @tup m2 ws q2 =>
            unfold toD at he
            obtain ⟨es, he3, rfl⟩ := Option.map_eq_some_iff.mp he
            have := f q2 k2 (by omega) es he3
            simp only [PyData.eqv, PV.tup.injEq]
            exact this
section
variable {n r most : Nat} {rm : Nat → Room} {ws : Nat → List (Bool × Nat)} {h : PH}
end
end Dn
namespace Dn
open PySem PySem.Spec PyProof.Rows L2 PySem.SeqAt Rw

/-! ### texts that are of no house -/
section
variable {h : PH}
end
end Dn
namespace Dn
open PySem PySem.Spec PyProof.Rows L2 PySem.SeqAt Rw

/-! ### what the law's own code finds wrong with ways and rows -/
section
variable {h : PH}
end
end Dn
namespace Dn
open PySem PySem.Spec PyProof.Rows L2 PySem.SeqAt Rw

/-! ### what the law's own code finds wrong with doors and houses -/
section
variable {h : PH}
end
end Dn
namespace Dn
open PySem PySem.Spec PyProof.Rows L2 PySem.SeqAt Rw

/-! ### comprehensions with a test, and such that leave more objects -/
theorem comp_f {α : Type} {gs : List (Nat × List PV)} {g : GP} {t : DT} {e : DE} {s : Sl} {h : PH} (c : Cl h.length h) (a b : α → PV) (p : α → Bool) (ok : ∀ H, Gr h H → okG gs H = true) : ∀ (l : List α) (acc : List PV), PV.lowrs h.length acc = true → acc.length + l.length < 16777216 →
    (∀ x ∈ l, (b x).lowr h.length = true ∧ ∃ as, g (a x) = some as ∧ ∀ H, Gr h H → t (setP as s) H = .ok (p x) H ∧ (p x = true → e (setP as s) H = .ok (b x) H)) → compItems gs g t e h.length s (l.map a) (h ++ [.lst acc]) = .ok () (h ++ [.lst (acc ++ (l.filter p).map b)])
  | [], acc, la, _, _ => by
    have G : Gr h (h ++ [.lst acc]) := (Gr.refl c).pushL (lowrs_mono (by omega) _ la)
    rw [List.map_nil]
    unfold compItems
    rw [if_pos (ok _ G)]
    simp
  | x :: r, acc, la, l, q => by
    have G : Gr h (h ++ [.lst acc]) := (Gr.refl c).pushL (lowrs_mono (by omega) _ la)
    obtain ⟨lx, as, e1, e2⟩ := q x List.mem_cons_self
    obtain ⟨e3, e4⟩ := e2 _ G
    have q2 := fun y hy => q y (List.mem_cons_of_mem x hy)
    simp only [List.length_cons] at l
    rw [List.map_cons]
    unfold compItems
    rw [if_pos (ok _ G), e1]
    dsimp only
    rw [e3]
    show (if p x = true then _ else _) = _
    by_cases k : p x = true
    · have ih := comp_f (t := t) c a b p ok r (acc ++ [b x]) (lowrs_snoc la lx) (by simp only [List.length_append, List.length_cons, List.length_nil]; omega) q2
      rw [if_pos k, e4 k]
      show (match (h ++ [MO.lst acc])[h.length]? with
        | some (.lst acc) => if acc.length < 16777216 then compItems gs g t e h.length s (r.map a) ((h ++ [MO.lst _]).set h.length (.lst (acc ++ [b x]))) else .no
        | _ => .no) = _
      rw [get_last]
      dsimp only
      rw [if_pos (by omega), set_last, ih, List.filter_cons_of_pos k, List.map_cons, List.append_assoc]
      rfl
    · rw [if_neg k]
      have ih := comp_f (t := t) c a b p ok r acc la (by omega) q2
      rw [List.filter_cons_of_neg k]
      exact ih
theorem comp_g {α : Type} {gs : List (Nat × List PV)} {g : GP} {e : DE} {s : Sl} {h : PH} (c : Cl h.length h) (a b : α → PV) (ok : ∀ H, Gr h H → okG gs H = true) (l : List α) (len : l.length < 16777216)
    (q : ∀ x ∈ l, (b x).lowr h.length = true ∧ ∃ as, g (a x) = some as ∧ ∀ H, Gr h H → ∃ H2, e (setP as s) H = .ok (b x) H2 ∧ Gr H H2) : ∃ H2, compItems gs g tYesD e h.length s (l.map a) (h ++ [.lst []]) = .ok () H2 ∧ Gr h H2 ∧ H2[h.length]? = some (.lst (l.map b)) := by
  have low : ∀ m, PV.lowrs h.length ((l.take m).map b) = true := fun m => lowrs_iff.mpr fun y hy => by
    obtain ⟨x, hx, rfl⟩ := List.mem_map.mp hy
    exact (q x (List.mem_of_mem_take hx)).1
  have w : wO (compItems gs g tYesD e h.length s (l.map a) (h ++ [.lst []])) fun _ H => Gr h H ∧ H[h.length]? = some (.lst (l.map b)) := by
    refine lc_w (fun i acc H => acc = (l.take i).map b ∧ Gr h H ∧ H[h.length]? = some (.lst acc)) ⟨rfl, (Gr.refl c).pushL rfl, get_last _ _⟩ (fun i acc H ⟨_, G, e⟩ => ⟨e, ok _ G⟩) (fun i x hx acc H ⟨ea, G, eH⟩ => ?_) fun acc H ⟨ea, G, eH⟩ => ?_
    · rw [List.getElem?_map] at hx
      have li : i < l.length := by
        by_cases z : i < l.length
        · exact z
        · rw [List.getElem?_eq_none (by omega)] at hx
          cases hx
      rw [List.getElem?_eq_getElem li] at hx
      cases hx
      obtain ⟨lx, as, e1, e2⟩ := q l[i] (List.getElem_mem li)
      obtain ⟨H2, e3, G2⟩ := e2 H G
      refine ⟨as, e1, ?_⟩
      show wO (Out.ok true H) _
      rw [wO_ok]
      refine ⟨fun _ => ?_, fun z => by cases z⟩
      rw [e3, wO_ok]
      have l1 := (List.getElem?_eq_some_iff.mp eH).1
      have eH2 : H2[h.length]? = some (.lst acc) := by rw [G2.at_ _ l1]; exact eH
      refine ⟨eH2, by rw [ea, List.length_map, List.length_take]; omega, ?_, (G.trans G2).set (Nat.le_refl _) ?_, List.getElem?_set_self (List.getElem?_eq_some_iff.mp eH2).1⟩
      · rw [ea, List.take_succ, List.getElem?_eq_getElem li, List.map_append]
        rfl
      · rw [ea]
        exact lowrs_mono (G.trans G2).len _ (lowrs_snoc (low i) lx)
    · rw [List.length_map, List.take_length] at ea
      rw [ea] at eH
      exact ⟨G, eH⟩
  obtain ⟨_, H2, e, G, g2⟩ := wO_ex.mp w
  exact ⟨H2, e, G, g2⟩
/-! ### signs of items -/
section
variable {h : PH}
end
end Dn
namespace Dn
open PySem PySem.Spec PyProof.Rows L2 PySem.SeqAt Rw

/-! ### a line by the law's own reader -/
section
variable {h : PH}
end
end Dn
namespace Dn
open PySem PySem.Spec PyProof.Rows L2 PySem.SeqAt Rw

section
variable {h : PH}
end
end Dn
namespace Dn
open PySem PySem.Spec PyProof.Rows L2 PySem.SeqAt Rw

section
variable {h : PH}
end
end Dn
namespace Dn
open PySem PySem.Spec PyProof.Rows L2 PySem.SeqAt Rw

section
variable {h : PH}
end
end Dn
namespace Dn
open PySem PySem.Spec PyProof.Rows L2 PySem.SeqAt Rw

/-! ### the law's own look at doors and houses that lines tell -/
section
variable {h : PH}
end
end Dn
namespace Dn
open PySem PySem.Spec PyProof.Rows L2 PySem.SeqAt Rw

section
variable {h : PH}
end
end Dn
namespace Dn
open PySem PySem.Spec PyProof.Rows L2 PySem.SeqAt Rw

/-! ### what comes of reading a text -/
section
variable {h : PH}
end
end Dn
namespace Dn
open PySem PySem.Spec PyProof.Rows L2 PySem.SeqAt Rw

/-! ### texts of any rooms and ways, houses or not -/
section
variable {h : PH}
end
structure RsOk (Rs : List (Nat × Room)) : Prop where
  few : Rs.length ≤ 18
  ok : ∀ q ∈ Rs, q.1 ≤ 5 ∧ ∀ d, q.2 = some d → DoorOk q.1 d.1 d.2
structure WsOk (k : Nat) (Ws : List (List (Bool × Nat))) : Prop where
  few : Ws.length ≤ 15
  ok : ∀ w ∈ Ws, w.length ≤ k ∧ ∀ p ∈ w, p.2 < 10
section
variable {h : PH}
end
end Dn
namespace Dn
open PySem PySem.Spec PyProof.Rows L2 PySem.SeqAt Rw

/-! ### long ways -/
theorem mod_nat (a : Nat) {b : Nat} (hb : b ≠ 0) (H : PH) : opMod (.int (a : Nat)) (.int (b : Nat)) H = some (.int ((a % b : Nat) : Nat), H) := by
  rw [opMod_ap (by omega), Int.fmod_eq_emod_of_nonneg _ (by omega)]
  rfl
section
variable {h : PH}
end
end Dn
namespace Dn
open PySem PySem.Spec PyProof.Rows L2 PySem.SeqAt Rw

/-! ### what comes of reading is plain data -/
theorem repr1 {n : Nat} {h : PH} {v : PV} (a : Da 16 140000 n h v) : ∃ z, ∀ H, Kp n h n H → fRepr [v] H = some (.str z, H) := by
  obtain ⟨d, e, nc, w⟩ := a
  refine ⟨PyData.shown d, fun H K => ?_⟩
  have e2 := toE_ext K.msk 16 e
  have d3 : toD H 50 v = some d := toE_toD 50 (toE_up (by decide) (toE_ext (fun _ _ q s => (msk_at q s).2) 16 e2))
  have ft := nc.fits (by omega)
  unfold fRepr
  dsimp only
  rw [d3]
  dsimp only
  rw [if_pos]
  rw [nc.sw, decide_eq_true (show d.depth ≤ 100 from Nat.le_trans nc.dp (by decide))]
  unfold sizeOk
  rw [sizeLine_eq] at ft
  rw [decide_eq_true ft]
  rfl
end Dn
namespace Dn
open PySem PySem.Spec PyProof.Rows L2 PySem.SeqAt Rw

/-! ### the known houses, by the program -/
theorem gen_f {α : Type} {gs : List (Nat × List PV)} {g : GP} {t : DT} {e : DE} {s : Sl} {h : PH} (a b : α → PV) (p : α → Bool) (ok : okG gs h = true) : ∀ (l : List α) (acc : List PV), acc.length + l.length < 16777216 →
    (∀ x ∈ l, ∃ as, g (a x) = some as ∧ t (setP as s) h = .ok (p x) h ∧ (p x = true → e (setP as s) h = .ok (b x) h)) → genItems gs g t e s (l.map a) acc h = .ok (acc ++ (l.filter p).map b) h
  | [], acc, _, _ => by
    rw [List.map_nil]
    unfold genItems
    rw [if_pos ok]
    simp
  | x :: r, acc, l, q => by
    obtain ⟨as, e1, e2, e3⟩ := q x List.mem_cons_self
    have q2 := fun y hy => q y (List.mem_cons_of_mem x hy)
    simp only [List.length_cons] at l
    rw [List.map_cons]
    unfold genItems
    rw [if_pos ok, e1]
    dsimp only
    rw [e2]
    show (if p x = true then (e (setP as s) h).ne.bind fun y h => if acc.length < 16777216 then genItems gs g t e s (r.map a) (acc ++ [y]) h else .no else genItems gs g t e s (r.map a) acc h) = _
    by_cases k : p x = true
    · have ih := gen_f (gs := gs) (g := g) (t := t) (e := e) (s := s) (h := h) a b p ok r (acc ++ [b x]) (by simp only [List.length_append, List.length_cons, List.length_nil]; omega) q2
      rw [if_pos k, e3 k]
      show (if acc.length < 16777216 then genItems gs g t e s (r.map a) (acc ++ [b x]) h else .no) = _
      rw [if_pos (by omega), ih, List.filter_cons_of_pos k, List.map_cons, List.append_assoc]
      rfl
    · have ih := gen_f (gs := gs) (g := g) (t := t) (e := e) (s := s) (h := h) a b p ok r acc (by omega) q2
      rw [if_neg k, ih, List.filter_cons_of_neg k]
def nestL (rs : List Nat) : List (Bool × Nat) := rs.map (fun r => (true, r)) ++ rs.reverse.map fun r => (false, r)
section
variable {h : PH}
theorem nested_way_eq (c : Cl h.length h) (rs : List Nat) (few : rs.length ≤ 1000) : m_nested_way [.tup (natsP rs)] h = .ok (wayP (nestL rs)) h := by
  refine eq_of_wO (wO_mk (show [PV.tup (natsP rs)].length = 1 from rfl) ?_)
  have cp := comp_l (gs := []) (g := gNm 1) (e := eTup (eCons (eC (.str "in")) (eCons (eVar 1) eNil))) (s := [some (.tup (natsP rs)), none]) c (fun r : Nat => PV.int ((r : Nat) : Int)) (fun r => stepP (true, r)) (fun _ _ => rfl) rs [] rfl (by simp; omega) (fun r hr => ⟨rfl, _, rfl, fun H G => by
    show eTup _ [_, some (.int ((r : Nat) : Int))] H = _
    simp -dsimp -implicitDefEqProofs only [dnev_16]
    rfl⟩)
  have en : (rs.map fun r : Nat => PV.int ((r : Nat) : Int)) = natsP rs := rfl
  rw [List.nil_append, en] at cp
  have G1 : Gr h (h ++ [.lst (rs.map fun r => stepP (true, r))]) := (Gr.refl c).pushL (lowrs_iff.mpr fun y hy => by
    obtain ⟨_, _, rfl⟩ := List.mem_map.mp hy
    rfl)
  have e1 := get_last h (.lst (rs.map fun r => stepP (true, r)))
  generalize hH1 : h ++ [MO.lst (rs.map fun r => stepP (true, r))] = H1 at G1 e1 cp
  have cp2 := comp_l (gs := []) (g := gNm 1) (e := eTup (eCons (eC (.str "out")) (eCons (eVar 1) eNil))) (s := [some (.tup (natsP rs)), none]) G1.cl (fun r : Nat => PV.int ((r : Nat) : Int)) (fun r => stepP (false, r)) (fun _ _ => rfl) rs.reverse [] rfl (by simp; omega) (fun r hr => ⟨rfl, _, rfl, fun H G => by
    show eTup _ [_, some (.int ((r : Nat) : Int))] H = _
    simp -dsimp -implicitDefEqProofs only [dnev_16]
    rfl⟩)
  have en2 : (rs.reverse.map fun r : Nat => PV.int ((r : Nat) : Int)) = (natsP rs).reverse := by rw [List.map_reverse]; rfl
  rw [List.nil_append, en2] at cp2
  have ir : ∀ H, iRev (eVar 0) [some (.tup (natsP rs)), none] H = .ok ([], (natsP rs).reverse) H := fun _ => rfl
  have e12 := app_see (p := .lst (rs.reverse.map fun r => stepP (false, r))) e1
  have e2 := get_last H1 (.lst (rs.reverse.map fun r => stepP (false, r)))
  have G2 : Gr h (H1 ++ [.lst (rs.reverse.map fun r => stepP (false, r))]) := G1.pushL (lowrs_iff.mpr fun y hy => by
    obtain ⟨_, _, rfl⟩ := List.mem_map.mp hy
    rfl)
  have wp : wayP (nestL rs) = .tup ((rs.map fun r => stepP (true, r)) ++ rs.reverse.map fun r => stepP (false, r)) := by
    unfold nestL
    show PV.tup (List.map stepP _) = _
    rw [List.map_append, List.map_map, List.map_map]
    rfl
  have lowk := fun k => lowr_wayP k (nestL rs)
  unfold g_nested_way
  simp -dsimp -implicitDefEqProofs only [dnev_16, dnif_1, dnw_3, cp, ir, cp2, e12, e2, hH1]
  refine ⟨by simp; omega, ?_⟩
  rw [wp] at lowk ⊢
  exact gc_gr c (G2.pushL (lowk _)) (lowk _) ⟨rfl, rfl⟩
theorem low2 {k : Nat} {xs ys : List PV} (a : PV.lowrs k xs = true) (b : PV.lowrs k ys = true) : (PV.tup [.tup xs, .tup ys]).lowr k = true := by simp only [PV.lowr, PV.lowrs, a, b, Bool.and_self]
def wayN (a b : Nat) : PV := wayP (nestL [a, b])
def tblW (n : Nat) : List PV := (List.range n).map fun i => wayN i ((i + 1) % n)
def nons (n : Nat) : List PV := List.replicate n .non
theorem lowr_wayN (k a b : Nat) : (wayN a b).lowr k = true := lowr_wayP _ _
theorem lows_nons (k n : Nat) : PV.lowrs k (nons n) = true := lowrs_iff.mpr fun y hy => by
  rw [List.eq_of_mem_replicate hy]
  rfl
theorem lows_tbl (k n : Nat) : PV.lowrs k (tblW n) = true := lowrs_iff.mpr fun y hy => by
  obtain ⟨_, _, rfl⟩ := List.mem_map.mp hy
  exact lowr_wayN _ _ _
theorem nested_two (c : Cl h.length h) (a b : Nat) : m_nested_way [.tup [.int ((a : Nat) : Int), .int ((b : Nat) : Int)]] h = .ok (wayN a b) h := nested_way_eq c [a, b] (by simp)
theorem table_house_eq (c : Cl h.length h) {n : Nat} (n5 : 1 ≤ n ∧ n ≤ 5) : m_table_house [.int n] h = .ok (.tup [.tup (nons n), .tup (tblW n)]) h := by
  refine eq_of_wO (wO_mk (show [PV.int n].length = 1 from rfl) ?_)
  have gp := gen_l (gs := []) (g := gNm 2) (e := eCallF (m_nested_way) (eCons (eTup (eCons (eVar 2) (eCons (eOp opMod (eOp opAdd (eVar 2) (eC (.int 1))) (eVar 0)) eNil))) eNil)) (s := [some (.int n), none, none]) (h := h) (fun i : Nat => PV.int (0 + (i : Nat))) (fun i => wayN i ((i + 1) % n)) rfl (List.range n) [] (by simp; omega) (fun i hi => by
    refine ⟨_, rfl, ?_⟩
    have om : ∀ H, opMod (.int (((i : Nat) : Int) + 1)) (.int n) H = some (.int (((i + 1) % n : Nat) : Nat), H) := fun H => by
      have e : (((i : Nat) : Int) + 1) = ((i + 1 : Nat) : Int) := rfl
      rw [e]
      exact mod_nat (i + 1) (by omega) H
    have nw := nested_two c i ((i + 1) % n)
    rw [Int.zero_add]
    show eCallF _ _ [_, _, some (.int ((i : Nat) : Int))] h = _
    simp -dsimp -implicitDefEqProofs only [dnev_16, om, nw])
  rw [List.nil_append] at gp
  have er : (List.range n).map (fun i : Nat => PV.int (0 + (i : Nat))) = rangeP 0 n := rfl
  rw [er] at gp
  have mt := mul_tup (x := .non) n (by omega) h
  unfold g_table_house
  refine seq_h ?_
  simp -dsimp -implicitDefEqProofs only [dnev_16, dnif_1, dnw_3]
  refine ⟨by omega, ?_⟩
  rw [Int.toNat_natCast]
  simp -dsimp -implicitDefEqProofs only [dnev_16, dnif_1, dnw_3, gp]
  refine hold ?_
  simp -dsimp -implicitDefEqProofs only [dnev_16, dnif_1, dnw_3, mt]
  exact gc_gr c (.refl c) (by
    have a := lows_nons h.length n
    have b := lows_tbl h.length n
    unfold nons at a
    unfold tblW at b
    exact low2 a b) ⟨rfl, rfl⟩
theorem handed_house_eq (c : Cl h.length h) {n : Nat} (n5 : 1 ≤ n ∧ n ≤ 5) : m_handed_house [.int n] h = .ok (.tup [.tup (nons n), .tup ((tblW n).dropLast ++ [wayN 0 (n - 1)])]) h := by
  refine eq_of_wO (wO_mk (show [PV.int n].length = 1 from rfl) ?_)
  have th := table_house_eq c n5
  have gp : ∀ (x y : PV), gTp 2 (gsCons (gNm 1) (gsCons (gNm 2) gsNil)) (.tup [x, y]) = some [(1, x), (2, y)] := fun _ _ => rfl
  have sb : ∀ H, opSub (.int n) (.int 1) H = some (.int ((n - 1 : Nat) : Nat), H) := fun H => by
    show some (PV.int _, H) = _
    congr 3
    omega
  have nw := nested_two c 0 (n - 1)
  have ci : cutP (tblW n) none (some (-1)) = (tblW n).dropLast := by
    unfold cutP
    have s1 : HT.sIx (tblW n).length 0 none = 0 := rfl
    have s2 : HT.sIx (tblW n).length (tblW n).length (some (-1)) = (tblW n).length - 1 := by
      unfold HT.sIx
      dsimp only
      rw [if_pos (by decide)]
      omega
    rw [s1, s2, List.drop_zero, Nat.sub_zero, List.dropLast_eq_take]
  have lt : (tblW n).length = n := by simp [tblW]
  unfold g_handed_house
  refine seq_h ?_
  simp -dsimp -implicitDefEqProofs only [dnev_16, dnif_1, dnw_3, th, gp]
  refine hold ?_
  have z0 : PV.int ((0 : Nat) : Int) = .int 0 := rfl
  rw [z0] at nw
  simp -dsimp -implicitDefEqProofs only [dnev_16, dnif_1, dnw_3, sb, nw, ci]
  refine ⟨by simp [lt]; omega, ?_⟩
  exact gc_gr c (.refl c) (by
    have a := lows_nons h.length n
    have b : PV.lowrs h.length ((tblW n).dropLast ++ [wayN 0 (n - 1)]) = true := lowrs_iff.mpr fun y hy => by
      rcases List.mem_append.mp hy with hy | hy
      · exact lowrs_iff.mp (lows_tbl h.length n) y (List.dropLast_subset _ hy)
      · rw [List.mem_singleton.mp hy]
        exact lowr_wayN _ _ _
    exact low2 a b) ⟨rfl, rfl⟩
def gateW (n : Nat) : List PV := (List.range n).map fun i => wayP ([(true, n)] ++ nestL [i, (i + 1) % n] ++ [(false, n)])
theorem gated_house_eq (c : Cl h.length h) {n : Nat} (n5 : 1 ≤ n ∧ n ≤ 5) : m_gated_house [.int n] h = .ok (.tup [.tup (nons n ++ [.non]), .tup (gateW n)]) h := by
  refine eq_of_wO (wO_mk (show [PV.int n].length = 1 from rfl) ?_)
  have th := table_house_eq c n5
  have gp : ∀ (x y : PV), gTp 2 (gsCons (gNm 1) (gsCons (gNm 2) gsNil)) (.tup [x, y]) = some [(1, x), (2, y)] := fun _ _ => rfl
  have ge := gen_l (gs := []) (g := gNm 3) (e := eOp opAdd (eOp opAdd (eTup (eCons (eTup (eCons (eC (.str "in")) (eCons (eVar 0) eNil))) eNil)) (eVar 3)) (eTup (eCons (eTup (eCons (eC (.str "out")) (eCons (eVar 0) eNil))) eNil))) (s := [some (.int n), some (.tup (nons n)), some (.tup (tblW n)), none]) (h := h) (fun i : Nat => wayN i ((i + 1) % n)) (fun i => wayP ([(true, n)] ++ nestL [i, (i + 1) % n] ++ [(false, n)])) rfl (List.range n) [] (by simp; omega) (fun i hi => by
    refine ⟨_, rfl, ?_⟩
    rfl)
  rw [List.nil_append] at ge
  have et : (List.range n).map (fun i => wayN i ((i + 1) % n)) = tblW n := rfl
  rw [et] at ge
  have lt : (tblW n).length = n := by simp [tblW]
  unfold g_gated_house
  refine seq_h ?_
  simp -dsimp -implicitDefEqProofs only [dnev_16, dnif_1, dnw_3, th, gp]
  refine hold ?_
  simp -dsimp -implicitDefEqProofs only [dnev_16, dnif_1, dnw_3, ge]
  refine ⟨by simp [nons]; omega, ?_⟩
  exact gc_gr c (.refl c) (by
    have a : PV.lowrs h.length (nons n ++ [PV.non]) = true := lowrs_iff.mpr fun y hy => by
      rcases List.mem_append.mp hy with hy | hy
      · exact lowrs_iff.mp (lows_nons h.length n) y hy
      · rw [List.mem_singleton.mp hy]
        rfl
    have b : PV.lowrs h.length ((List.range n).map fun i => wayP ([(true, n)] ++ nestL [i, (i + 1) % n] ++ [(false, n)])) = true := lowrs_iff.mpr fun y hy => by
      obtain ⟨_, _, rfl⟩ := List.mem_map.mp hy
      exact lowr_wayP _ _
    exact low2 a b) ⟨rfl, rfl⟩
theorem row_house_eq (c : Cl h.length h) {n : Nat} (n5 : 1 ≤ n ∧ n ≤ 5) : m_row_house [.int n] h = .ok (.tup [.tup [.non, .non], .tup (List.replicate n (wayN 0 1))]) h := by
  refine eq_of_wO (wO_mk (show [PV.int n].length = 1 from rfl) ?_)
  have nw := nested_two c 0 1
  have z0 : PV.int ((0 : Nat) : Int) = .int 0 := rfl
  have z1 : PV.int ((1 : Nat) : Int) = .int 1 := rfl
  rw [z0, z1] at nw
  have mt := mul_tup (x := wayN 0 1) n (by omega) h
  unfold g_row_house
  simp -dsimp -implicitDefEqProofs only [dnev_16, dnif_1, dnw_3, nw, mt]
  exact gc_gr c (.refl c) (by
    have b : PV.lowrs h.length (List.replicate n (wayN 0 1)) = true := lowrs_iff.mpr fun y hy => by
      rw [List.eq_of_mem_replicate hy]
      exact lowr_wayN _ _ _
    simp only [PV.lowr, PV.lowrs, b, Bool.and_self]) ⟨rfl, rfl⟩
def crsW (n : Nat) : List PV := (List.range n).map fun i => wayN (i % 2) (1 - i % 2)
theorem crossed_house_eq (c : Cl h.length h) {n : Nat} (n5 : 1 ≤ n ∧ n ≤ 5) : m_crossed_house [.int n] h = .ok (.tup [.tup [.non, .non], .tup (crsW n)]) h := by
  refine eq_of_wO (wO_mk (show [PV.int n].length = 1 from rfl) ?_)
  have gp := gen_l (gs := []) (g := gNm 1) (e := eCallF (m_nested_way) (eCons (eTup (eCons (eOp opAnd (eVar 1) (eC (.int 1))) (eCons (eOp opSub (eC (.int 1)) (eOp opAnd (eVar 1) (eC (.int 1)))) eNil))) eNil)) (s := [some (.int n), none]) (h := h) (fun i : Nat => PV.int (0 + (i : Nat))) (fun i => wayN (i % 2) (1 - i % 2)) rfl (List.range n) [] (by simp; omega) (fun i hi => by
    refine ⟨_, rfl, ?_⟩
    have li : i < 5 := by have := List.mem_range.mp hi; omega
    have oa : ∀ H, opAnd (.int (0 + ((i : Nat) : Int))) (.int 1) H = some (.int ((i % 2 : Nat) : Nat), H) := fun H => by
      have : i = 0 ∨ i = 1 ∨ i = 2 ∨ i = 3 ∨ i = 4 := by omega
      rcases this with rfl | rfl | rfl | rfl | rfl <;> rfl
    have ob : ∀ H, opSub (.int 1) (.int ((i % 2 : Nat) : Nat)) H = some (.int ((1 - i % 2 : Nat) : Nat), H) := fun H => by
      show some (PV.int _, H) = _
      congr 3
      omega
    have nw := nested_two c (i % 2) (1 - i % 2)
    show eCallF _ _ [_, some (.int (0 + ((i : Nat) : Int)))] h = _
    simp -dsimp -implicitDefEqProofs only [dnev_16, oa, ob, nw])
  rw [List.nil_append] at gp
  have er : (List.range n).map (fun i : Nat => PV.int (0 + (i : Nat))) = rangeP 0 n := rfl
  rw [er] at gp
  unfold g_crossed_house
  simp -dsimp -implicitDefEqProofs only [dnev_16, dnif_1, dnw_3]
  refine ⟨by omega, ?_⟩
  rw [Int.toNat_natCast]
  simp -dsimp -implicitDefEqProofs only [dnev_16, dnif_1, dnw_3, gp]
  exact gc_gr c (.refl c) (by
    have b : PV.lowrs h.length ((List.range n).map fun i => wayN (i % 2) (1 - i % 2)) = true := lowrs_iff.mpr fun y hy => by
      obtain ⟨_, _, rfl⟩ := List.mem_map.mp hy
      exact lowr_wayN _ _ _
    simp only [PV.lowr, PV.lowrs, b, Bool.and_self]) ⟨rfl, rfl⟩
def rowN (n i : Nat) (a b : Str) : List Str := List.replicate i a ++ [("-" : Str)] ++ List.replicate (n - i - 1) b
def ordN (n i : Nat) : PV := .tup (natsP (othersOf n i))
def doorH (n : Nat) (a b : Str) : PV := .tup [.tup [.tup [.tup ((List.range n).map fun i => rowQ (rowN n i a b)), .tup ((List.range n).map (ordN n))]], .tup (List.replicate n (wayP (nestL [0])))]
theorem lowr_doorH (k n : Nat) (a b : Str) : (doorH n a b).lowr k = true := by
  have x : PV.lowrs k ((List.range n).map fun i => rowQ (rowN n i a b)) = true := lowrs_iff.mpr fun y hy => by
    obtain ⟨_, _, rfl⟩ := List.mem_map.mp hy
    exact lowr_row _ _
  have z : PV.lowrs k ((List.range n).map (ordN n)) = true := lowrs_iff.mpr fun y hy => by
    obtain ⟨_, _, rfl⟩ := List.mem_map.mp hy
    exact lowrs_nats _ _
  have w : PV.lowrs k (List.replicate n (wayP (nestL [0]))) = true := lowrs_iff.mpr fun y hy => by
    rw [List.eq_of_mem_replicate hy]
    exact lowr_wayP _ _
  unfold doorH
  simp only [PV.lowr, PV.lowrs, x, z, w, Bool.and_self]
theorem row_of_words_eq (c : Cl h.length h) {n i : Nat} (n5 : n ≤ 5) (li : i < n) (a b : Str) : m_row_of_words [.int n, .int i, .str a, .str b] h = .ok (rowQ (rowN n i a b)) h := by
  refine eq_of_wO (wO_mk (show [PV.int n, .int i, .str a, .str b].length = 4 from rfl) ?_)
  have m1 := mul_tup (x := .str a) i (by omega) h
  have sb : ∀ H, opSub (.int n) (.int i) H = some (.int ((n - i : Nat) : Nat), H) := fun H => by
    show some (PV.int _, H) = _
    congr 3
    omega
  have sb2 : ∀ H, opSub (.int ((n - i : Nat) : Nat)) (.int 1) H = some (.int ((n - i - 1 : Nat) : Nat), H) := fun H => by
    show some (PV.int _, H) = _
    congr 3
    omega
  have m2 := mul_tup (x := .str b) (n - i - 1) (by omega) h
  unfold g_row_of_words
  simp -dsimp -implicitDefEqProofs only [dnev_16, dnif_1, dnw_3, m1, sb, sb2, m2]
  refine ⟨by simp; omega, by simp; omega, ?_⟩
  have e : rowQ (rowN n i a b) = .tup (List.replicate i (PV.str a) ++ [.str "-"] ++ List.replicate (n - i - 1) (.str b)) := by
    unfold rowQ rowN
    rw [List.map_append, List.map_append, List.map_replicate, List.map_replicate]
    rfl
  have lo := lowr_row h.length (rowN n i a b)
  have e2 : rowQ (rowN n i a b) = PV.tup ((rowN n i a b).map PV.str) := rfl
  rw [← e2] at lo
  rw [e] at lo ⊢
  exact gc_gr c (.refl c) lo ⟨rfl, rfl⟩
theorem others_eqN (c : Cl h.length h) {n i : Nat} (n5 : n ≤ 5) : m_others [.int n, .int i] h = .ok (ordN n i) h := by
  refine eq_of_wO (wO_mk (show [PV.int n, .int i].length = 2 from rfl) ?_)
  have gp := gen_f (gs := []) (g := gNm 2) (t := tV (eOp opNe (eVar 2) (eVar 1))) (e := eVar 2) (s := [some (.int n), some (.int i), none]) (h := h) (fun j : Nat => PV.int (0 + (j : Nat))) (fun j => PV.int ((j : Nat) : Int)) (fun j => !decide (j = i)) rfl (List.range n) [] (by simp; omega) (fun j hj => by
    refine ⟨_, rfl, ?_, fun _ => ?_⟩
    · rw [Int.zero_add]
      show tV _ [_, some (.int (i : Nat)), some (.int ((j : Nat) : Int))] h = _
      have dj : decide (((j : Nat) : Int) = (i : Int)) = decide (j = i) := decide_eq_decide.mpr (by omega)
      simp -dsimp -implicitDefEqProofs only [dnev_16, dj]
    · rw [Int.zero_add]
      rfl)
  have er : (List.range n).map (fun j : Nat => PV.int (0 + (j : Nat))) = rangeP 0 n := rfl
  have eo : ((List.range n).filter fun j => !decide (j = i)).map (fun j => PV.int ((j : Nat) : Int)) = natsP (othersOf n i) := rfl
  rw [List.nil_append, er, eo] at gp
  unfold g_others
  simp -dsimp -implicitDefEqProofs only [dnev_16, dnif_1, dnw_3]
  refine ⟨by omega, ?_⟩
  rw [Int.toNat_natCast]
  simp -dsimp -implicitDefEqProofs only [dnev_16, dnif_1, dnw_3, gp]
  exact gc_gr c (.refl c) (lowrs_nats _ _) ⟨rfl, rfl⟩
theorem door_house_eq (c : Cl h.length h) {n : Nat} (n5 : 1 ≤ n ∧ n ≤ 5) (a b : Str) : m_door_house [.int n, .str a, .str b] h = .ok (doorH n a b) h := by
  refine eq_of_wO (wO_mk (show [PV.int n, .str a, .str b].length = 3 from rfl) ?_)
  have nw := nested_way_eq c [0] (by simp)
  have z0 : natsP [0] = [PV.int 0] := rfl
  rw [z0] at nw
  have mt := mul_tup (x := wayP (nestL [0])) n (by omega) h
  have er : (List.range n).map (fun i : Nat => PV.int (0 + (i : Nat))) = rangeP 0 n := rfl
  have g1 := gen_l (gs := []) (g := gNm 5) (e := eCallF (m_row_of_words) (eCons (eVar 0) (eCons (eVar 5) (eCons (eVar 1) (eCons (eVar 2) eNil))))) (s := [some (.int n), some (.str a), some (.str b), none, none, none]) (h := h) (fun i : Nat => PV.int (0 + (i : Nat))) (fun i => rowQ (rowN n i a b)) rfl (List.range n) [] (by simp; omega) (fun i hi => by
    refine ⟨_, rfl, ?_⟩
    have t := row_of_words_eq c n5.2 (List.mem_range.mp hi) a b
    rw [Int.zero_add]
    show eCallF _ _ [_, _, _, _, _, some (.int ((i : Nat) : Int))] h = _
    simp -dsimp -implicitDefEqProofs only [dnev_16, t])
  have g2 := gen_l (gs := []) (g := gNm 5) (e := eCallF (m_others) (eCons (eVar 0) (eCons (eVar 5) eNil))) (s := [some (.int n), some (.str a), some (.str b), some (.tup ((List.range n).map fun i => rowQ (rowN n i a b))), none, none]) (h := h) (fun i : Nat => PV.int (0 + (i : Nat))) (fun i => ordN n i) rfl (List.range n) [] (by simp; omega) (fun i hi => by
    refine ⟨_, rfl, ?_⟩
    have t := others_eqN c (n := n) (i := i) n5.2
    rw [Int.zero_add]
    show eCallF _ _ [_, _, _, _, _, some (.int ((i : Nat) : Int))] h = _
    simp -dsimp -implicitDefEqProofs only [dnev_16, t])
  rw [List.nil_append, er] at g1 g2
  unfold g_door_house
  refine seq_h ?_
  simp -dsimp -implicitDefEqProofs only [dnev_16, dnif_1, dnw_3]
  refine ⟨by omega, ?_⟩
  rw [Int.toNat_natCast]
  simp -dsimp -implicitDefEqProofs only [dnev_16, dnif_1, dnw_3, g1]
  refine hold (seq_h ?_)
  simp -dsimp -implicitDefEqProofs only [dnev_16, dnif_1, dnw_3]
  refine ⟨by omega, ?_⟩
  rw [Int.toNat_natCast]
  simp -dsimp -implicitDefEqProofs only [dnev_16, dnif_1, dnw_3, g2]
  refine hold ?_
  simp -dsimp -implicitDefEqProofs only [dnev_16, dnif_1, dnw_3, nw, mt]
  exact gc_gr c (.refl c) (lowr_doorH h.length n a b) ⟨rfl, rfl⟩
end
end Dn
namespace Dn
open PySem PySem.Spec PyProof.Rows L2 PySem.SeqAt Rw

/-! ### the known houses by their names -/
def knownT : List (Str × (Nat → PV)) := [("crossed", fun n => .tup [.tup [.non, .non], .tup (crsW n)]), ("gated", fun n => .tup [.tup (nons n ++ [.non]), .tup (gateW n)]), ("handed", fun n => .tup [.tup (nons n), .tup ((tblW n).dropLast ++ [wayN 0 (n - 1)])]),
  ("level", fun n => doorH n "even" "even"), ("meek", fun n => doorH n "bow" "bow"), ("proud", fun n => doorH n "stand" "stand"), ("ranked", fun n => doorH n "bow" "stand"), ("row", fun n => .tup [.tup [.non, .non], .tup (List.replicate n (wayN 0 1))]), ("table", fun n => .tup [.tup (nons n), .tup (tblW n)])]
def knownL : List Str := ["crossed", "gated", "handed", "level", "meek", "proud", "ranked", "row", "table"]
abbrev mkTab : List (Str × Str) := [("crossed", "crossed_house"), ("gated", "gated_house"), ("handed", "handed_house"), ("level", "level_house"), ("meek", "meek_house"), ("proud", "proud_house"), ("ranked", "ranked_house"), ("row", "row_house"), ("table", "table_house")]
abbrev mkDfs : List (Str × DF) := [("crossed_house", m_crossed_house), ("gated_house", m_gated_house), ("handed_house", m_handed_house), ("level_house", m_level_house), ("meek_house", m_meek_house), ("proud_house", m_proud_house), ("ranked_house", m_ranked_house), ("row_house", m_row_house), ("table_house", m_table_house)]
theorem look_ne {α : Type} {k k' : Str} {v : α} {r : List (Str × α)} (e : decide (k = k') = false) : ((k', v) :: r).lookup k = r.lookup k := by
  have hb : (k == k') = false := by simpa using of_decide_eq_false e
  simp [List.lookup, hb]
theorem look_tab (z : Str) : (mkTab.lookup z).isSome = decide (z ∈ knownL) := by
  have key : ∀ l : List (Str × Str), (l.lookup z).isSome = decide (z ∈ l.map (·.1)) := by
    intro l
    induction l with
    | nil => rfl
    | cons p r ih =>
      obtain ⟨k, v⟩ := p
      by_cases e : z = k
      · subst e
        rw [List.lookup_cons_self, List.map_cons]
        simp
      · rw [look_ne (decide_eq_false e), ih, List.map_cons]
        exact decide_eq_decide.mpr (by simp [e])
  exact key mkTab
theorem nt_eq {z : Str} {s : Sl} {h : PH} (hs : s[0]? = some (some (.str z))) : eNotInTab mkTab (eVar 0) s h = .ok (.bl (!decide (z ∈ knownL))) h := by
  have e : (eVar 0) s h = .ok (.str z) h := by
    show varO s[0]? h = _
    rw [hs]
    rfl
  unfold eNotInTab
  rw [e]
  show Out.ok (PV.bl (!(mkTab.lookup z).isSome)) h = _
  rw [look_tab]
section
variable {h : PH}
def unfitE : PErr := ⟨"Unfit", none⟩
theorem mk_one {z y : Str} {m : DF} {n : Nat} {P : PV} (e2 : mkTab.lookup z = some y) (e3 : mkDfs.lookup y = some m) (e5 : m [.int n] h = .ok P h) : sMaker 2 mkTab mkDfs (eVar 0) (eCons (eVar 1) eNil) [some (.str z), some (.int n), none] h = .rt P h := by
  have e1 : (eVar 0) [some (.str z), some (.int n), none] h = .ok (.str z) h := rfl
  have e4 : (eCons (eVar 1) eNil) ([some (PV.str z), some (.int n), none].set 2 none) h = .ok [.int n] h := rfl
  unfold sMaker
  rw [e1]
  dsimp only
  rw [e2]
  dsimp only
  rw [e3]
  dsimp only
  rw [if_pos (show 2 < [some (PV.str z), some (.int n), none].length by simp), e4]
  dsimp only
  rw [e5]
theorem known_one {z y : Str} {m : DF} {n : Nat} {P : PV} (c : Cl h.length h) (hz : z ∈ knownL) (n2 : 2 ≤ n ∧ n ≤ 5) (e2 : mkTab.lookup z = some y) (e3 : mkDfs.lookup y = some m) (e5 : m [.int n] h = .ok P h) (lp : P.lowr h.length = true) : m_known [.str z, .int n] h = .ok P h := by
  refine (mk_at (show [PV.str z, .int n].length = 2 from rfl)).trans ?_
  have ii := is_int_eq (n : Nat) h
  have d1 : decide ((2 : Int) ≤ ((n : Nat) : Int)) = true := decide_eq_true (by omega)
  have d2 : decide (((n : Nat) : Int) ≤ 5) = true := decide_eq_true (by omega)
  have nt := nt_eq (z := z) (s := [some (.str z), some (.int n), none]) (h := h) rfl
  rw [decide_eq_true hz] at nt
  have mk1 := mk_one e2 e3 e5
  have er : runB g_known 3 [.str z, .int n] h = .ok P h := by
    unfold runB g_known
    simp only [dnev_16, dnif_1, nt, ii, d1, d2, mk1, Bool.not_true]
  rw [er]
  exact eq_of_wO (gc_gr c (.refl c) lp ⟨rfl, rfl⟩)
theorem known_names_eq (c : Cl h.length h) : m_known_names [] h = .ok (.tup (knownL.map PV.str)) h := by
  refine eq_of_wO (wO_mk (show ([] : List PV).length = 0 from rfl) ?_)
  have so : ∀ s, eSortedF ["crossed", "gated", "handed", "level", "meek", "proud", "ranked", "row", "table"] s h = .ok (.ref h.length) (h ++ [.lst (knownL.map PV.str)]) := fun _ => rfl
  have gl := get_last h (.lst (knownL.map PV.str))
  unfold g_known_names
  simp -dsimp -implicitDefEqProofs only [dnev_16, dnif_1, dnw_3, so, gl]
  exact gc_gr c ((Gr.refl c).pushL (lows_str _ id _)) (lows_str _ id _) ⟨rfl, rfl⟩
theorem level_house_eq (c : Cl h.length h) {n : Nat} (n5 : 1 ≤ n ∧ n ≤ 5) : m_level_house [.int n] h = .ok (doorH n "even" "even") h := by
  refine eq_of_wO (wO_mk (show [PV.int n].length = 1 from rfl) ?_)
  have t := door_house_eq c n5 "even" "even"
  unfold g_level_house
  simp -dsimp -implicitDefEqProofs only [dnev_16, dnif_1, dnw_3, t]
  exact gc_gr c (.refl c) (lowr_doorH _ _ _ _) ⟨rfl, rfl⟩
theorem meek_house_eq (c : Cl h.length h) {n : Nat} (n5 : 1 ≤ n ∧ n ≤ 5) : m_meek_house [.int n] h = .ok (doorH n "bow" "bow") h := by
  refine eq_of_wO (wO_mk (show [PV.int n].length = 1 from rfl) ?_)
  have t := door_house_eq c n5 "bow" "bow"
  unfold g_meek_house
  simp -dsimp -implicitDefEqProofs only [dnev_16, dnif_1, dnw_3, t]
  exact gc_gr c (.refl c) (lowr_doorH _ _ _ _) ⟨rfl, rfl⟩
theorem proud_house_eq (c : Cl h.length h) {n : Nat} (n5 : 1 ≤ n ∧ n ≤ 5) : m_proud_house [.int n] h = .ok (doorH n "stand" "stand") h := by
  refine eq_of_wO (wO_mk (show [PV.int n].length = 1 from rfl) ?_)
  have t := door_house_eq c n5 "stand" "stand"
  unfold g_proud_house
  simp -dsimp -implicitDefEqProofs only [dnev_16, dnif_1, dnw_3, t]
  exact gc_gr c (.refl c) (lowr_doorH _ _ _ _) ⟨rfl, rfl⟩
theorem ranked_house_eq (c : Cl h.length h) {n : Nat} (n5 : 1 ≤ n ∧ n ≤ 5) : m_ranked_house [.int n] h = .ok (doorH n "bow" "stand") h := by
  refine eq_of_wO (wO_mk (show [PV.int n].length = 1 from rfl) ?_)
  have t := door_house_eq c n5 "bow" "stand"
  unfold g_ranked_house
  simp -dsimp -implicitDefEqProofs only [dnev_16, dnif_1, dnw_3, t]
  exact gc_gr c (.refl c) (lowr_doorH _ _ _ _) ⟨rfl, rfl⟩
theorem known_eq (c : Cl h.length h) {z : Str} (hz : z ∈ knownL) {n : Nat} (n2 : 2 ≤ n ∧ n ≤ 5) : ∃ f, knownT.lookup z = some f ∧ m_known [.str z, .int n] h = .ok (f n) h ∧ (f n).lowr h.length = true := by
  have n5 : 1 ≤ n ∧ n ≤ 5 := by omega
  have hz' := hz
  simp only [knownL, List.mem_cons, List.not_mem_nil, or_false] at hz'
  have lw : ∀ k a b, (wayN a b).lowr k = true := lowr_wayN
  rcases hz' with rfl | rfl | rfl | rfl | rfl | rfl | rfl | rfl | rfl
  · have l : (PV.tup [.tup [.non, .non], .tup (crsW n)]).lowr h.length = true := low2 rfl (lowrs_iff.mpr fun y hy => by
      obtain ⟨_, _, rfl⟩ := List.mem_map.mp hy
      exact lowr_wayN _ _ _)
    exact ⟨_, rfl, known_one c hz n2 rfl rfl (crossed_house_eq c n5) l, l⟩
  · have l : (PV.tup [.tup (nons n ++ [.non]), .tup (gateW n)]).lowr h.length = true := low2 (lowrs_iff.mpr fun y hy => by
      rcases List.mem_append.mp hy with hy | hy
      · exact lowrs_iff.mp (lows_nons h.length n) y hy
      · rw [List.mem_singleton.mp hy]
        rfl) (lowrs_iff.mpr fun y hy => by
      obtain ⟨_, _, rfl⟩ := List.mem_map.mp hy
      exact lowr_wayP _ _)
    exact ⟨_, rfl, known_one c hz n2 rfl rfl (gated_house_eq c n5) l, l⟩
  · have l : (PV.tup [.tup (nons n), .tup ((tblW n).dropLast ++ [wayN 0 (n - 1)])]).lowr h.length = true := low2 (lows_nons _ _) (lowrs_iff.mpr fun y hy => by
      rcases List.mem_append.mp hy with hy | hy
      · exact lowrs_iff.mp (lows_tbl h.length n) y (List.dropLast_subset _ hy)
      · rw [List.mem_singleton.mp hy]
        exact lowr_wayN _ _ _)
    exact ⟨_, rfl, known_one c hz n2 rfl rfl (handed_house_eq c n5) l, l⟩
  · exact ⟨_, rfl, known_one c hz n2 rfl rfl (level_house_eq c n5) (lowr_doorH _ _ _ _), lowr_doorH _ _ _ _⟩
  · exact ⟨_, rfl, known_one c hz n2 rfl rfl (meek_house_eq c n5) (lowr_doorH _ _ _ _), lowr_doorH _ _ _ _⟩
  · exact ⟨_, rfl, known_one c hz n2 rfl rfl (proud_house_eq c n5) (lowr_doorH _ _ _ _), lowr_doorH _ _ _ _⟩
  · exact ⟨_, rfl, known_one c hz n2 rfl rfl (ranked_house_eq c n5) (lowr_doorH _ _ _ _), lowr_doorH _ _ _ _⟩
  · have l : (PV.tup [.tup [.non, .non], .tup (List.replicate n (wayN 0 1))]).lowr h.length = true := low2 rfl (lowrs_iff.mpr fun y hy => by
      rw [List.eq_of_mem_replicate hy]
      exact lowr_wayN _ _ _)
    exact ⟨_, rfl, known_one c hz n2 rfl rfl (row_house_eq c n5) l, l⟩
  · have l : (PV.tup [.tup (nons n), .tup (tblW n)]).lowr h.length = true := low2 (lows_nons _ _) (lows_tbl _ _)
    exact ⟨_, rfl, known_one c hz n2 rfl rfl (table_house_eq c n5) l, l⟩
theorem int_any {w : PV} (ht : ∃ ty, tyP h w = some ty) : m_is_integer [w] h = .ok (.bl (intB w)) h := by
  refine eq_of_wO (wO_mk (show [w].length = 1 from rfl) ?_)
  obtain ⟨ty, et⟩ := ht
  obtain ⟨q1, _, _, q4⟩ := isC_ty et
  unfold g_is_integer
  by_cases a : Rw.isC "int" ty = true
  · rcases q1 a with ⟨i, rfl⟩ | ⟨b, rfl⟩
    · simp -dsimp -implicitDefEqProofs only [dnev_16, dnif_1, dnw_3]
      exact gc_same ⟨rfl, rfl⟩
    · simp -dsimp -implicitDefEqProofs only [dnev_16, dnif_1, dnw_3]
      exact gc_same ⟨rfl, rfl⟩
  · have ni : intB w = false := by
      cases w with
      | int i =>
        cases et
        exact absurd (by decide +kernel) a
      | _ => rfl
    rw [ni]
    rw [Bool.not_eq_true] at a
    simp -dsimp -implicitDefEqProofs only [dnev_16, dnif_1, dnw_3, et, a]
    exact gc_same ⟨rfl, rfl⟩
theorem known_no1 {v w : PV} (c : Cl h.length h) (nt : NoText h v) : m_known [v, w] h = .err unfitE h := by
  obtain ⟨ty, t1, t2⟩ := nt
  refine (mk_at (show [v, w].length = 2 from rfl)).trans ?_
  have er : runB g_known 3 [v, w] h = .err unfitE h := by
    unfold runB g_known
    simp only [dnev_16, dnif_1, t1, t2, Bool.not_false]
    rfl
  rw [er]
  exact gc_er c (.refl c) rfl
theorem known_no2 {z : Str} {w : PV} (c : Cl h.length h) (hz : z ∉ knownL) : m_known [.str z, w] h = .err unfitE h := by
  refine (mk_at (show [PV.str z, w].length = 2 from rfl)).trans ?_
  have nt := nt_eq (z := z) (s := [some (.str z), some w, none]) (h := h) rfl
  rw [decide_eq_false hz] at nt
  have er : runB g_known 3 [.str z, w] h = .err unfitE h := by
    unfold runB g_known
    simp only [dnev_16, dnif_1, nt, Bool.not_false]
    rfl
  rw [er]
  exact gc_er c (.refl c) rfl
theorem known_no3 {z : Str} {w : PV} (c : Cl h.length h) (hz : z ∈ knownL) (ht : ∃ ty, tyP h w = some ty) (bad : wholeB w 2 5 = false) : m_known [.str z, w] h = .err unfitE h := by
  refine (mk_at (show [PV.str z, w].length = 2 from rfl)).trans ?_
  have nt := nt_eq (z := z) (s := [some (.str z), some w, none]) (h := h) rfl
  rw [decide_eq_true hz] at nt
  have ii := int_any ht
  have er : runB g_known 3 [.str z, w] h = .err unfitE h := by
    unfold runB g_known
    cases w with
    | int i =>
      have ii : m_is_integer [.int i] h = .ok (.bl true) h := ii
      by_cases a : (2 : Int) ≤ i
      · have b : ¬ i ≤ 5 := fun b => by
          unfold wholeB at bad
          dsimp only at bad
          rw [decide_eq_true a, decide_eq_true b] at bad
          cases bad
        simp only [dnev_16, dnif_1, nt, ii, decide_eq_true a, decide_eq_false b, Bool.not_true, Bool.not_false]
        rfl
      · simp only [dnev_16, dnif_1, nt, ii, decide_eq_false a, Bool.not_true, Bool.not_false]
        rfl
    | _ =>
      have ii : m_is_integer [_] h = .ok (.bl false) h := ii
      simp only [dnev_16, dnif_1, nt, ii, Bool.not_true, Bool.not_false]
      rfl
  rw [er]
  exact gc_er c (.refl c) rfl
end
end Dn
namespace Dn
open PySem PySem.Spec PyProof.Rows L2 PySem.SeqAt Rw

/-! ### the known houses, by the law's own tables -/
theorem gk2 (h0 : PH) (a b : MO) : (h0 ++ [a] ++ [b])[h0.length]? = some a := by simp
theorem gk3 (h0 : PH) (a b c : MO) : (h0 ++ [a] ++ [b] ++ [c])[h0.length]? = some a := by simp
theorem gk4 (h0 : PH) (a b c d : MO) : (h0 ++ [a] ++ [b] ++ [c] ++ [d])[h0.length]? = some a := by simp
theorem gk5 (h0 : PH) (a b c d e : MO) : (h0 ++ [a] ++ [b] ++ [c] ++ [d] ++ [e])[h0.length]? = some a := by simp
theorem gk6 (h0 : PH) (a b c d e f : MO) : (h0 ++ [a] ++ [b] ++ [c] ++ [d] ++ [e] ++ [f])[h0.length]? = some a := by simp
theorem gk7 (h0 : PH) (a b c d e f g : MO) : (h0 ++ [a] ++ [b] ++ [c] ++ [d] ++ [e] ++ [f] ++ [g])[h0.length]? = some a := by simp
theorem gk8 (h0 : PH) (a b c d e f g h : MO) : (h0 ++ [a] ++ [b] ++ [c] ++ [d] ++ [e] ++ [f] ++ [g] ++ [h])[h0.length]? = some a := by simp
theorem gk9 (h0 : PH) (a b c d e f g h i : MO) : (h0 ++ [a] ++ [b] ++ [c] ++ [d] ++ [e] ++ [f] ++ [g] ++ [h] ++ [i])[h0.length]? = some a := by simp
theorem gk10 (h0 : PH) (a b c d e f g h i j : MO) : (h0 ++ [a] ++ [b] ++ [c] ++ [d] ++ [e] ++ [f] ++ [g] ++ [h] ++ [i] ++ [j])[h0.length]? = some a := by simp
theorem gk11 (h0 : PH) (a b c d e f g h i j k : MO) : (h0 ++ [a] ++ [b] ++ [c] ++ [d] ++ [e] ++ [f] ++ [g] ++ [h] ++ [i] ++ [j] ++ [k])[h0.length]? = some a := by simp
theorem gk12 (h0 : PH) (a b c d e f g h i j k l : MO) : (h0 ++ [a] ++ [b] ++ [c] ++ [d] ++ [e] ++ [f] ++ [g] ++ [h] ++ [i] ++ [j] ++ [k] ++ [l])[h0.length]? = some a := by simp
theorem gk13 (h0 : PH) (a b c d e f g h i j k l m : MO) : (h0 ++ [a] ++ [b] ++ [c] ++ [d] ++ [e] ++ [f] ++ [g] ++ [h] ++ [i] ++ [j] ++ [k] ++ [l] ++ [m])[h0.length]? = some a := by simp
theorem kv_low {κ : Type} (n : Nat) : ∀ l : List (κ × PV), kvLowr n l = PV.lowrs n (l.map (·.2))
  | [] => rfl
  | (k, x) :: r => by
    show (PV.lowr n x && kvLowr n r) = (PV.lowr n x && PV.lowrs n (r.map (·.2)))
    rw [kv_low n r]
theorem wF_sm (h : PH) (N : PH → Prop) : wF (some h) N = N h := rfl
def oneRow (z : Str) (n i : Nat) : List Str := (if z = "ranked" then List.replicate i ("bow" : Str) ++ [("-" : Str)] ++ List.replicate (n - i - 1) ("stand" : Str) else if z = "level" then List.replicate n ("even" : Str) else if z = "meek" then List.replicate n ("bow" : Str) else List.replicate n ("stand" : Str)).set i "-"
def oneH (z : Str) (n : Nat) : PV := .tup [.tup [.tup [.tup ((List.range n).map fun i => rowQ (oneRow z n i)), .tup ((List.range n).map (ordN n))]], .tup (List.replicate n (wayP (nestL [0])))]
section
variable {h : PH}
theorem around_eq (a b : Nat) (h : PH) : m__law_around [.int ((a : Nat) : Int), .int ((b : Nat) : Int)] h = .ok (wayN a b) h := by
  refine eq_of_wO (wO_mk (show [PV.int ((a : Nat) : Int), .int ((b : Nat) : Int)].length = 2 from rfl) ?_)
  unfold g__law_around
  simp -dsimp -implicitDefEqProofs only [dnev_16, dnif_1, dnw_3]
  exact gc_same ⟨rfl, rfl⟩
theorem one_door_eq (c : Cl h.length h) {z : Str} (hz : z = "ranked" ∨ z = "level" ∨ z = "meek" ∨ z = "proud") {n : Nat} (n5 : 1 ≤ n ∧ n ≤ 5) : m__law_one_door [.str z, .int n] h = .ok (oneH z n) h := by
  refine eq_of_wO (wO_mk (show [PV.str z, .int n].length = 2 from rfl) ?_)
  have G1 : Gr h (h ++ [.lst []]) := (Gr.refl c).pushL rfl
  have e1 := get_last h (.lst [])
  unfold g__law_one_door
  refine seq_h ?_
  simp -dsimp -implicitDefEqProofs only [dnev_16, dnif_1, dnw_3]
  generalize h ++ [MO.lst []] = H1 at G1 e1 ⊢
  refine hold (seq_h ?_)
  simp -dsimp -implicitDefEqProofs only [dnev_16, dnif_1, dnw_3]
  refine ⟨by omega, ?_⟩
  rw [Int.toNat_natCast]
  refine for_ww (fun m sl H => ∃ x3 x4 x5, sl = [some (.str z), some (.int n), some (.ref h.length), x3, x4, x5, none, none] ∧ m ≤ n ∧ Gr h H ∧ H[h.length]? = some (.lst ((List.range m).map fun i => rowQ (oneRow z n i)))) ⟨_, _, _, rfl, Nat.zero_le _, G1, e1⟩ (fun _ _ _ _ => rfl) (fun m x hx sl H ⟨x3, x4, x5, esl, lm, G, eH⟩ => ?_) fun sl H ⟨x3, x4, x5, esl, lm, G, eH⟩ => ?_
  · subst esl
    obtain ⟨li, rfl⟩ := rg_at hx
    rw [Int.zero_add]
    refine ⟨_, rfl, ?_⟩
    have lh : h.length < H.length := (List.getElem?_eq_some_iff.mp eH).1
    refine seq_h ?_
    have ps : setP [(3, PV.int (m : Nat))] [some (.str z), some (.int n), some (.ref h.length), x3, x4, x5, none, none] = [some (.str z), some (.int n), some (.ref h.length), some (.int (m : Nat)), x4, x5, none, none] := rfl
    rw [ps]
    have mm : ∀ (x : PV) k H, mulO (some (.lst [x])) k ((m : Nat) : Int) H = some (.ref H.length, H ++ [.lst (List.replicate m x)]) := fun _ _ _ => mulO_one (by omega)
    have mn : ∀ (x : PV) k H, mulO (some (.lst [x])) k ((n : Nat) : Int) H = some (.ref H.length, H ++ [.lst (List.replicate n x)]) := fun _ _ _ => mulO_one (by omega)
    have mq : ∀ (x : PV) k H, mulO (some (.lst [x])) k ((n - m - 1 : Nat) : Int) H = some (.ref H.length, H ++ [.lst (List.replicate (n - m - 1) x)]) := fun _ _ _ => mulO_one (by omega)
    have sb : ∀ H, opSub (.int n) (.int m) H = some (.int ((n - m : Nat) : Nat), H) := fun H => by
      show some (PV.int _, H) = _
      congr 3
      omega
    have sb2 : ∀ H, opSub (.int ((n - m : Nat) : Nat)) (.int 1) H = some (.int ((n - m - 1 : Nat) : Nat), H) := fun H => by
      show some (PV.int _, H) = _
      congr 3
      omega
    simp -dsimp -implicitDefEqProofs only [dnev_16, dnif_1, dnw_3, mm, mn, mq, sb, sb2, get_last, gk2, gk3, gk4, gk5, gk6, gk7, gk8, gk9, gk10, gk11, gk12, gk13]
    refine ⟨by simp; omega, by simp; omega, ?_⟩
    obtain ⟨P1, hP1⟩ : ∃ P1, P1 = H ++ [MO.dK []] ++ [MO.lst [PV.str "bow"]] ++ [MO.lst (List.replicate m (PV.str "bow"))] ++ [MO.lst [PV.str "-"]] ++ [MO.lst (List.replicate m (PV.str "bow") ++ [PV.str "-"])] ++ [MO.lst [PV.str "stand"]] ++ [MO.lst (List.replicate (n - m - 1) (PV.str "stand"))] := ⟨_, rfl⟩
    have lowr_ : ∀ (k j : Nat) (w : Str), PV.lowrs k (List.replicate j (PV.str w)) = true := fun k j w => lowrs_iff.mpr fun y hy => by
      rw [List.eq_of_mem_replicate hy]
      rfl
    have lowR : ∀ k, PV.lowrs k (List.replicate m (PV.str "bow") ++ [PV.str "-"] ++ List.replicate (n - m - 1) (PV.str "stand")) = true := fun k => lowrs_iff.mpr fun y hy => by
      rcases List.mem_append.mp hy with hy | hy
      · rcases List.mem_append.mp hy with hy | hy
        · rw [List.eq_of_mem_replicate hy]; rfl
        · rw [List.mem_singleton.mp hy]; rfl
      · rw [List.eq_of_mem_replicate hy]; rfl
    have lowS : ∀ k, PV.lowrs k (List.replicate m (PV.str "bow") ++ [PV.str "-"]) = true := fun k => lowrs_iff.mpr fun y hy => by
      rcases List.mem_append.mp hy with hy | hy
      · rw [List.eq_of_mem_replicate hy]; rfl
      · rw [List.mem_singleton.mp hy]; rfl
    have GP1 : Gr H P1 := by
      rw [hP1]
      exact ((((((Gr.push (o := .dK []) G.cl rfl).pushL rfl).pushL (lowr_ _ _ _)).pushL rfl).pushL (lowS _)).pushL rfl).pushL (lowr_ _ _ _)
    have eD1 : P1[H.length]? = some (.dK []) := by
      rw [hP1]
      exact gk7 _ _ _ _ _ _ _ _
    rw [← hP1]
    clear hP1
    have GP : Gr H (P1 ++ [.lst (List.replicate m (PV.str "bow") ++ [PV.str "-"] ++ List.replicate (n - m - 1) (PV.str "stand"))] ++ [.lst [PV.str "even"]] ++ [.lst (List.replicate n (PV.str "even"))]) := ((GP1.pushL (lowR _)).pushL rfl).pushL (lowr_ _ _ _)
    have eR := gk3 P1 (.lst (List.replicate m (PV.str "bow") ++ [PV.str "-"] ++ List.replicate (n - m - 1) (PV.str "stand"))) (.lst [PV.str "even"]) (.lst (List.replicate n (PV.str "even")))
    have eL := get_last (P1 ++ [.lst (List.replicate m (PV.str "bow") ++ [PV.str "-"] ++ List.replicate (n - m - 1) (PV.str "stand"))] ++ [.lst [PV.str "even"]]) (.lst (List.replicate n (PV.str "even")))
    have eD : (P1 ++ [.lst (List.replicate m (PV.str "bow") ++ [PV.str "-"] ++ List.replicate (n - m - 1) (PV.str "stand"))] ++ [.lst [PV.str "even"]] ++ [.lst (List.replicate n (PV.str "even"))])[H.length]? = some (.dK []) := app_see (app_see (app_see eD1))
    have lR : H.length < P1.length := (List.getElem?_eq_some_iff.mp eD1).1
    have lL : H.length < (P1 ++ [MO.lst (List.replicate m (PV.str "bow") ++ [PV.str "-"] ++ List.replicate (n - m - 1) (PV.str "stand"))] ++ [MO.lst [PV.str "even"]]).length := by simp; omega
    have nRL : P1.length ≠ (P1 ++ [MO.lst (List.replicate m (PV.str "bow") ++ [PV.str "-"] ++ List.replicate (n - m - 1) (PV.str "stand"))] ++ [MO.lst [PV.str "even"]]).length := by simp
    generalize (P1 ++ [MO.lst (List.replicate m (PV.str "bow") ++ [PV.str "-"] ++ List.replicate (n - m - 1) (PV.str "stand"))] ++ [MO.lst [PV.str "even"]]).length = L at eL lL nRL ⊢
    generalize P1 ++ [MO.lst (List.replicate m (PV.str "bow") ++ [PV.str "-"] ++ List.replicate (n - m - 1) (PV.str "stand"))] ++ [MO.lst [PV.str "even"]] ++ [MO.lst (List.replicate n (PV.str "even"))] = Hp at GP eR eL eD ⊢
    generalize P1.length = R at eR lR nRL ⊢
    have dz : dispO H.length [(.inr "ranked", PV.ref R), (.inr "level", PV.ref L)] Hp = .ok (.ref H.length) (Hp.set H.length (.dK [(.inr "ranked", .ref R), (.inr "level", .ref L)])) := by
      have nk : isNewK Hp H.length = true := by
        unfold isNewK
        rw [eD]
      unfold dispO
      rw [if_pos ⟨nk, by simp⟩]
      rfl
    have lD := (List.getElem?_eq_some_iff.mp eD).1
    have lR2 := (List.getElem?_eq_some_iff.mp eR).1
    have lL2 := (List.getElem?_eq_some_iff.mp eL).1
    have G2 : Gr H (Hp.set H.length (.dK [(.inr "ranked", .ref R), (.inr "level", .ref L)])) := ⟨by rw [List.length_set]; exact GP.len, fun i l => by rw [List.getElem?_set_ne (by omega)]; exact GP.at_ i l, by
      rw [List.length_set]
      exact Cl.set (o := .dK [(.inr "ranked", .ref R), (.inr "level", .ref L)]) ((kv_low _ [((.inr "ranked" : Key), PV.ref R), (.inr "level", .ref L)]).trans (lowrs_iff.mpr fun y hy => by
        simp only [List.map_cons, List.map_nil, List.mem_cons, List.not_mem_nil, or_false] at hy
        rcases hy with rfl | rfl <;> exact decide_eq_true (by omega))) _ GP.cl⟩
    have eD2 : (Hp.set H.length (.dK [(.inr "ranked", .ref R), (.inr "level", .ref L)]))[H.length]? = some (.dK [(.inr "ranked", .ref R), (.inr "level", .ref L)]) := List.getElem?_set_self lD
    have eR2 : (Hp.set H.length (.dK [(.inr "ranked", .ref R), (.inr "level", .ref L)]))[R]? = some (MO.lst (List.replicate m (PV.str "bow") ++ [PV.str "-"] ++ List.replicate (n - m - 1) (PV.str "stand"))) := by
      rw [List.getElem?_set_ne (by omega)]
      exact eR
    have eL2 : (Hp.set H.length (.dK [(.inr "ranked", .ref R), (.inr "level", .ref L)]))[L]? = some (.lst (List.replicate n (PV.str "even"))) := by
      rw [List.getElem?_set_ne (by omega)]
      exact eL
    rw [dz, wO_ok]
    generalize Hp.set H.length (.dK [(.inr "ranked", .ref R), (.inr "level", .ref L)]) = H2 at G2 eD2 eR2 eL2 ⊢
    have GH := G.trans G2
    have eH2 : H2[h.length]? = some (.lst ((List.range m).map fun i => rowQ (oneRow z n i))) := (G2.at_ _ lh).trans eH
    clear eD eR eL dz GP GP1 eD1
    simp -dsimp -implicitDefEqProofs only [dnev_16, dnif_1, dnw_3]
    refine hold (seq_h ?_)
    simp -dsimp -implicitDefEqProofs only [dnev_16, dnif_1, dnw_3, mm, mn, mq, sb, sb2, get_last, gk2, gk3, gk4, gk5, gk6, gk7, gk8, gk9, gk10, gk11, gk12, gk13]
    refine ⟨rfl, ?_⟩
    have GB : Gr H (H2 ++ [.lst [PV.str "bow"]] ++ [.lst (List.replicate n (PV.str "bow"))] ++ [.lst [PV.str "stand"]] ++ [.lst (List.replicate n (PV.str "stand"))]) := (((G2.pushL rfl).pushL (lowr_ _ _ _)).pushL rfl).pushL (lowr_ _ _ _)
    have eM := gk3 (H2 ++ [MO.lst [PV.str "bow"]]) (.lst (List.replicate n (PV.str "bow"))) (.lst [PV.str "stand"]) (.lst (List.replicate n (PV.str "stand")))
    have eP := get_last (H2 ++ [MO.lst [PV.str "bow"]] ++ [MO.lst (List.replicate n (PV.str "bow"))] ++ [MO.lst [PV.str "stand"]]) (.lst (List.replicate n (PV.str "stand")))
    have up4 : ∀ {i : Nat} {o : MO}, H2[i]? = some o → (H2 ++ [MO.lst [PV.str "bow"]] ++ [MO.lst (List.replicate n (PV.str "bow"))] ++ [MO.lst [PV.str "stand"]] ++ [MO.lst (List.replicate n (PV.str "stand"))])[i]? = some o := fun e => app_see (app_see (app_see (app_see e)))
    have eD3 := up4 eD2
    have eR3 := up4 eR2
    have eL3 := up4 eL2
    have eH3 := up4 eH2
    have lD2 := (List.getElem?_eq_some_iff.mp eD2).1
    have lM : H2.length < (H2 ++ [MO.lst [PV.str "bow"]]).length := by simp
    have lP : (H2 ++ [MO.lst [PV.str "bow"]]).length < (H2 ++ [MO.lst [PV.str "bow"]] ++ [MO.lst (List.replicate n (PV.str "bow"))] ++ [MO.lst [PV.str "stand"]]).length := by simp
    have lR4 := (List.getElem?_eq_some_iff.mp eR2).1
    have lL4 := (List.getElem?_eq_some_iff.mp eL2).1
    clear up4
    generalize (H2 ++ [MO.lst [PV.str "bow"]] ++ [MO.lst (List.replicate n (PV.str "bow"))] ++ [MO.lst [PV.str "stand"]]).length = Pd at eP lP ⊢
    generalize H2 ++ [MO.lst [PV.str "bow"]] ++ [MO.lst (List.replicate n (PV.str "bow"))] ++ [MO.lst [PV.str "stand"]] ++ [MO.lst (List.replicate n (PV.str "stand"))] = H3 at GB eM eP eD3 eR3 eL3 eH3 ⊢
    generalize (H2 ++ [MO.lst [PV.str "bow"]]).length = M at eM lM lP ⊢
    have lP3 := (List.getElem?_eq_some_iff.mp eP).1
    have lM3 := (List.getElem?_eq_some_iff.mp eM).1
    have lD3 := (List.getElem?_eq_some_iff.mp eD3).1
    have f1 : fSet (.ref H.length) (.str "meek") (.ref M) H3 = some (H3.set H.length (.dK [(.inr "ranked", .ref R), (.inr "level", .ref L), (.inr "meek", .ref M)])) := by
      unfold fSet
      dsimp only
      rw [eD3]
      rfl
    have eD4 : (H3.set H.length (.dK [(.inr "ranked", .ref R), (.inr "level", .ref L), (.inr "meek", .ref M)]))[H.length]? = some (.dK [(.inr "ranked", .ref R), (.inr "level", .ref L), (.inr "meek", .ref M)]) := List.getElem?_set_self lD3
    have f2 : fSet (.ref H.length) (.str "proud") (.ref Pd) (H3.set H.length (.dK [(.inr "ranked", .ref R), (.inr "level", .ref L), (.inr "meek", .ref M)])) = some (H3.set H.length (.dK [(.inr "ranked", .ref R), (.inr "level", .ref L), (.inr "meek", .ref M), (.inr "proud", .ref Pd)])) := by
      unfold fSet
      dsimp only
      rw [eD4]
      show some _ = _
      rw [List.set_set]
      rfl
    rw [f1, wF_sm, f2, wF_sm]
    have lowD : (MO.dK [(.inr "ranked", .ref R), (.inr "level", .ref L), (.inr "meek", .ref M), (.inr "proud", .ref Pd)]).lowr H3.length = true := (kv_low _ [((.inr "ranked" : Key), PV.ref R), (.inr "level", .ref L), (.inr "meek", .ref M), (.inr "proud", .ref Pd)]).trans (lowrs_iff.mpr fun y hy => by
      have r1 := (List.getElem?_eq_some_iff.mp eR3).1
      have r2 := (List.getElem?_eq_some_iff.mp eL3).1
      simp only [List.map_cons, List.map_nil, List.mem_cons, List.not_mem_nil, or_false] at hy
      rcases hy with rfl | rfl | rfl | rfl <;> exact decide_eq_true (by omega))
    have G3 : Gr H (H3.set H.length (.dK [(.inr "ranked", .ref R), (.inr "level", .ref L), (.inr "meek", .ref M), (.inr "proud", .ref Pd)])) := ⟨by rw [List.length_set]; exact GB.len, fun i l => by rw [List.getElem?_set_ne (by omega)]; exact GB.at_ i l, by
      rw [List.length_set]
      exact Cl.set lowD _ GB.cl⟩
    have eD5 : (H3.set H.length (.dK [(.inr "ranked", .ref R), (.inr "level", .ref L), (.inr "meek", .ref M), (.inr "proud", .ref Pd)]))[H.length]? = some (.dK [(.inr "ranked", .ref R), (.inr "level", .ref L), (.inr "meek", .ref M), (.inr "proud", .ref Pd)]) := List.getElem?_set_self lD3
    have nx : ∀ {i : Nat} {o : MO}, i ≠ H.length → H3[i]? = some o → (H3.set H.length (.dK [(.inr "ranked", .ref R), (.inr "level", .ref L), (.inr "meek", .ref M), (.inr "proud", .ref Pd)]))[i]? = some o := fun l e => by
      rw [List.getElem?_set_ne (by omega)]
      exact e
    have eR5 := nx (by omega) eR3
    have eL5 := nx (by omega) eL3
    have eM5 := nx (by omega) eM
    have eP5 := nx (by omega) eP
    have eH5 := nx (by omega) eH3
    clear nx
    generalize H3.set H.length (.dK [(.inr "ranked", .ref R), (.inr "level", .ref L), (.inr "meek", .ref M), (.inr "proud", .ref Pd)]) = H4 at G3 eD5 eR5 eL5 eM5 eP5 eH5 ⊢
    -- the row
    obtain ⟨S, rw_, eix, eS, er, lS⟩ : ∃ (S : Nat) (row : List Str), opIx (.ref H.length) (.str z) H4 = some (.ref S, H4) ∧ H4[S]? = some (.lst (row.map PV.str)) ∧ row.set m "-" = oneRow z n m ∧ row.length = n ∧ H.length < S := by
      have gx : ∀ {S : Nat} (w : Str), getG [((.inr "ranked" : Key), PV.ref R), (.inr "level", .ref L), (.inr "meek", .ref M), (.inr "proud", .ref Pd)] (.inr w) = some (.ref S) → opIx (.ref H.length) (.str w) H4 = some (.ref S, H4) := fun {S} w e => by
        unfold opIx
        dsimp only
        rw [eD5]
        show (match keyOf (PV.str w) with | some k => (getG [((.inr "ranked" : Key), PV.ref R), (.inr "level", .ref L), (.inr "meek", .ref M), (.inr "proud", .ref Pd)] k).map fun v => (v, H4) | none => none) = _
        rw [show keyOf (PV.str w) = some (.inr w) from rfl]
        dsimp only
        rw [e]
        rfl
      have k1 : ("level" : Str) ≠ "ranked" := by decide +kernel
      have k2 : ("meek" : Str) ≠ "ranked" := by decide +kernel
      have k3 : ("meek" : Str) ≠ "level" := by decide +kernel
      have k4 : ("proud" : Str) ≠ "ranked" := by decide +kernel
      have k5 : ("proud" : Str) ≠ "level" := by decide +kernel
      have k6 : ("proud" : Str) ≠ "meek" := by decide +kernel
      rcases hz with rfl | rfl | rfl | rfl
      · refine ⟨R, List.replicate m ("bow" : Str) ++ [("-" : Str)] ++ List.replicate (n - m - 1) ("stand" : Str), gx _ rfl, ?_, ?_, by simp; omega, lR⟩
        · rw [eR5, List.map_append, List.map_append, List.map_replicate, List.map_replicate]
          rfl
        · unfold oneRow
          rw [if_pos rfl]
      · refine ⟨L, List.replicate n ("even" : Str), gx _ rfl, ?_, ?_, by simp, lL⟩
        · rw [eL5, List.map_replicate]
        · unfold oneRow
          rw [if_neg k1, if_pos rfl]
      · refine ⟨M, List.replicate n ("bow" : Str), gx _ rfl, ?_, ?_, by simp, by omega⟩
        · rw [eM5, List.map_replicate]
        · unfold oneRow
          rw [if_neg k2, if_neg k3, if_pos rfl]
      · refine ⟨Pd, List.replicate n ("stand" : Str), gx _ rfl, ?_, ?_, by simp, by omega⟩
        · rw [eP5, List.map_replicate]
        · unfold oneRow
          rw [if_neg k4, if_neg k5, if_neg k6]
    refine hold (seq_h ?_)
    simp -dsimp -implicitDefEqProofs only [dnev_16, dnif_1, dnw_3, eix]
    refine hold (seq_h ?_)
    have lS4 := (List.getElem?_eq_some_iff.mp eS).1
    simp -dsimp -implicitDefEqProofs only [dnev_16, dnif_1, dnw_3, eS]
    refine ⟨m, by rw [ixN_of (by omega) (by rw [List.length_map]; omega), Int.toNat_natCast], ?_⟩
    have es2 : (rw_.map PV.str).set m (.str "-") = (oneRow z n m).map PV.str := by rw [← er, List.map_set]
    rw [es2]
    have eS5 : (H4.set S (.lst ((oneRow z n m).map PV.str)))[S]? = some (.lst ((oneRow z n m).map PV.str)) := List.getElem?_set_self lS4
    have eH6 : (H4.set S (.lst ((oneRow z n m).map PV.str)))[h.length]? = some (.lst ((List.range m).map fun i => rowQ (oneRow z n i))) := by
      rw [List.getElem?_set_ne (by omega)]
      exact eH5
    have G4 : Gr H (H4.set S (.lst ((oneRow z n m).map PV.str))) := G3.set (by omega) (lows_str _ id _)
    have G5 := G.trans G4
    generalize H4.set S (.lst ((oneRow z n m).map PV.str)) = H6 at eS5 eH6 G5 G4 ⊢
    refine hold ?_
    have lH6 := (List.getElem?_eq_some_iff.mp eH6).1
    simp -dsimp -implicitDefEqProofs only [dnev_16, dnif_1, dnw_3, eS5, eH6]
    have er2 : (List.range m).map (fun i => rowQ (oneRow z n i)) ++ [.tup ((oneRow z n m).map PV.str)] = (List.range (m + 1)).map fun i => rowQ (oneRow z n i) := by
      rw [List.range_succ, List.map_append]
      rfl
    rw [er2]
    refine ⟨by simp; omega, _, _, _, rfl, li, G5.set (Nat.le_refl _) (lowrs_iff.mpr fun y hy => ?_), List.getElem?_set_self lH6⟩
    obtain ⟨_, _, rfl⟩ := List.mem_map.mp hy
    exact lowr_row _ _
  · subst esl
    rw [range_len] at eH
    have rows : ∀ k, PV.lowrs k ((List.range n).map fun i => rowQ (oneRow z n i)) = true := fun k => lowrs_iff.mpr fun y hy => by
      obtain ⟨_, _, rfl⟩ := List.mem_map.mp hy
      exact lowr_row _ _
    have ords : ∀ k, PV.lowrs k ((List.range n).map (ordN n)) = true := fun k => lowrs_iff.mpr fun y hy => by
      obtain ⟨_, _, rfl⟩ := List.mem_map.mp hy
      exact lowrs_nats _ _
    obtain ⟨H2, c2, G2, e2⟩ := comp_g (gs := []) (g := gNm 3) (e := eCall fTuple (eCons (eLc (iRange1 (eVar 1)) (gNm 7) (tV (eOp opNe (eVar 7) (eVar 3))) (eVar 7) [7]) eNil)) (s := [some (.str z), some (.int n), some (.ref h.length), none, x4, x5, none, none]) G.cl (fun i : Nat => PV.int (0 + (i : Nat))) (fun i => ordN n i) (fun _ _ => rfl) (List.range n) (by simp; omega) (fun i hi => by
      refine ⟨lowrs_nats _ _, _, rfl, fun H' G' => ⟨H' ++ [.lst (natsP (othersOf n i))], ?_, (Gr.refl G'.cl).pushL (lowrs_nats _ _)⟩⟩
      have cf := comp_f (gs := []) (g := gNm 7) (t := tV (eOp opNe (eVar 7) (eVar 3))) (e := eVar 7) (s := [some (.str z), some (.int n), some (.ref h.length), some (.int ((i : Nat) : Int)), x4, x5, none, none]) G'.cl (fun j : Nat => PV.int (0 + (j : Nat))) (fun j => PV.int ((j : Nat) : Int)) (fun j => !decide (j = i)) (fun _ _ => rfl) (List.range n) [] rfl (by simp; omega) (fun j hj => by
        refine ⟨rfl, _, rfl, fun H G => ⟨?_, fun _ => ?_⟩⟩
        · rw [Int.zero_add]
          show tV _ [_, _, _, some (.int ((i : Nat) : Int)), _, _, _, some (.int ((j : Nat) : Int))] H = _
          have dj : decide (((j : Nat) : Int) = (i : Int)) = decide (j = i) := decide_eq_decide.mpr (by omega)
          simp -dsimp -implicitDefEqProofs only [dnev_16, dj]
        · rw [Int.zero_add]
          rfl)
      have er : (List.range n).map (fun j : Nat => PV.int (0 + (j : Nat))) = rangeP 0 n := rfl
      have eo : ((List.range n).filter fun j => !decide (j = i)).map (fun j => PV.int ((j : Nat) : Int)) = natsP (othersOf n i) := rfl
      rw [List.nil_append, er, eo] at cf
      have gl := get_last H' (.lst (natsP (othersOf n i)))
      rw [Int.zero_add]
      show eCall _ _ [_, some (.int n), _, some (.int ((i : Nat) : Int)), _, _, _, _] H' = _
      have rg : rg1O (.int n) H' = .ok ([], rangeP 0 n) H' := by
        unfold rg1O
        dsimp only
        rw [if_pos (decide_eq_true (by omega)), Int.toNat_natCast]
      simp -dsimp -implicitDefEqProofs only [dnev_16, rg, cf, gl]
      rfl)
    have er : (List.range n).map (fun j : Nat => PV.int (0 + (j : Nat))) = rangeP 0 n := rfl
    rw [er] at c2
    have mt := fun H => mul_tup (x := wayP (nestL [0])) n (by omega) H
    have w0 : wayP (nestL [0]) = .tup [.tup [.str "in", .int 0], .tup [.str "out", .int 0]] := rfl
    refine hold (seq_h ?_)
    simp -dsimp -implicitDefEqProofs only [dnev_16, dnif_1, dnw_3]
    refine ⟨by omega, ?_⟩
    rw [Int.toNat_natCast]
    simp -dsimp -implicitDefEqProofs only [dnev_16, dnif_1, dnw_3, c2, e2]
    have eH2 : H2[h.length]? = some (.lst ((List.range n).map fun i => rowQ (oneRow z n i))) := (G2.at_ _ (List.getElem?_eq_some_iff.mp eH).1).trans eH
    refine hold ?_
    rw [w0] at mt
    simp -dsimp -implicitDefEqProofs only [dnev_16, dnif_1, dnw_3, eH2, mt]
    rw [← w0]
    refine gc_gr c (G.trans G2) ?_ ⟨rfl, rfl⟩
    have w := lowr_wayP h.length (nestL [0])
    have lw : PV.lowrs h.length (List.replicate n (wayP (nestL [0]))) = true := lowrs_iff.mpr fun y hy => by
      rw [List.eq_of_mem_replicate hy]
      exact w
    have r := rows h.length
    have o := ords h.length
    simp only [PV.lowr, PV.lowrs, r, o, lw, Bool.and_self]
/-- both tables are one -/
theorem one_is {z : Str} {n : Nat} (n5 : 2 ≤ n ∧ n ≤ 5) : (z = "ranked" → oneH z n = doorH n "bow" "stand") ∧ (z = "level" → oneH z n = doorH n "even" "even") ∧ (z = "meek" → oneH z n = doorH n "bow" "bow") ∧ (z = "proud" → oneH z n = doorH n "stand" "stand") := by
  have k1 : ("level" : Str) ≠ "ranked" := by decide +kernel
  have k2 : ("meek" : Str) ≠ "ranked" := by decide +kernel
  have k3 : ("meek" : Str) ≠ "level" := by decide +kernel
  have k4 : ("proud" : Str) ≠ "ranked" := by decide +kernel
  have k5 : ("proud" : Str) ≠ "level" := by decide +kernel
  have k6 : ("proud" : Str) ≠ "meek" := by decide +kernel
  have key : ∀ (f : Nat → List Str) (a b : Str), (∀ i, i < n → f i = rowN n i a b) → (PV.tup [.tup [.tup [.tup ((List.range n).map fun i => rowQ (f i)), .tup ((List.range n).map (ordN n))]], .tup (List.replicate n (wayP (nestL [0])))]) = doorH n a b := fun f a b e => by
    unfold doorH
    have : (List.range n).map (fun i => rowQ (f i)) = (List.range n).map fun i => rowQ (rowN n i a b) := List.map_congr_left fun i hi => by rw [e i (List.mem_range.mp hi)]
    rw [this]
  have same : ∀ (a : Str) (i : Nat), i < n → (List.replicate n a).set i "-" = rowN n i a a := fun a i li => by
    have hn : n = 2 ∨ n = 3 ∨ n = 4 ∨ n = 5 := by omega
    have hi : i = 0 ∨ i = 1 ∨ i = 2 ∨ i = 3 ∨ i = 4 := by omega
    rcases hn with rfl | rfl | rfl | rfl <;> rcases hi with rfl | rfl | rfl | rfl | rfl <;> first | rfl | omega
  refine ⟨fun e => ?_, fun e => ?_, fun e => ?_, fun e => ?_⟩
  · subst e
    refine key _ _ _ fun i li => ?_
    unfold oneRow
    rw [if_pos rfl]
    unfold rowN
    have hn : n = 2 ∨ n = 3 ∨ n = 4 ∨ n = 5 := by omega
    have hi : i = 0 ∨ i = 1 ∨ i = 2 ∨ i = 3 ∨ i = 4 := by omega
    rcases hn with rfl | rfl | rfl | rfl <;> rcases hi with rfl | rfl | rfl | rfl | rfl <;> first | rfl | omega
  · subst e
    refine key _ _ _ fun i li => ?_
    unfold oneRow
    rw [if_neg k1, if_pos rfl]
    exact same _ i li
  · subst e
    refine key _ _ _ fun i li => ?_
    unfold oneRow
    rw [if_neg k2, if_neg k3, if_pos rfl]
    exact same _ i li
  · subst e
    refine key _ _ _ fun i li => ?_
    unfold oneRow
    rw [if_neg k4, if_neg k5, if_neg k6]
    exact same _ i li
end
end Dn
namespace Dn
open PySem PySem.Spec PyProof.Rows L2 PySem.SeqAt Rw

section
variable {h : PH}
abbrev tblB : DE := eCallF (m__law_around) (eCons (eVar 4) (eCons (eOp opMod (eCall fInt (eCons (eOp opAdd (eVar 4) (eC (.int 1))) eNil)) (eVar 1)) eNil))
theorem around_comp (c : Cl h.length h) {n : Nat} (n5 : 2 ≤ n ∧ n ≤ 5) (z : Str) : compItems [] (gNm 4) tYesD tblB h.length [some (.str z), some (.int n), none, none, none, none] (rangeP 0 n) (h ++ [.lst []]) = .ok () (h ++ [.lst (tblW n)]) := by
  have cp := comp_l (gs := []) (g := gNm 4) (e := tblB) (s := [some (.str z), some (.int n), none, none, none, none]) c (fun i : Nat => PV.int (0 + (i : Nat))) (fun i => wayN i ((i + 1) % n)) (fun _ _ => rfl) (List.range n) [] rfl (by simp; omega) (fun i hi => ⟨lowr_wayN _ _ _, _, rfl, fun H G => by
    have om : ∀ H, opMod (.int (((i : Nat) : Int) + 1)) (.int n) H = some (.int (((i + 1) % n : Nat) : Nat), H) := fun H => by
      have e : (((i : Nat) : Int) + 1) = ((i + 1 : Nat) : Int) := rfl
      rw [e]
      exact mod_nat (i + 1) (by omega) H
    have ar := around_eq i ((i + 1) % n) H
    rw [Int.zero_add]
    show tblB [_, some (.int n), _, _, some (.int ((i : Nat) : Int)), _] H = _
    simp -dsimp -implicitDefEqProofs only [dnev_16, om, ar]⟩)
  have er : (List.range n).map (fun i : Nat => PV.int (0 + (i : Nat))) = rangeP 0 n := rfl
  rw [List.nil_append, er] at cp
  exact cp
theorem mul_non {n : Nat} (n5 : n ≤ 6) (h : PH) : opMul (.tup [.non]) (.int (n : Nat)) h = some (.tup (nons n), h) := mul_tup n (by omega) h
theorem law_known_eq (c : Cl h.length h) {z : Str} (hz : z ∈ knownL) {n : Nat} (n5 : 2 ≤ n ∧ n ≤ 5) : ∃ f, knownT.lookup z = some f ∧ m__law_known [.str z, .int n] h = .ok (f n) h := by
  have oin : ∀ (w : Str) H, opIn (.str w) (.tup [.str "ranked", .str "level", .str "meek", .str "proud"]) H = some (.bl (decide (w ∈ (["ranked", "level", "meek", "proud"] : List Str))), H) := fun w H => opIn_strT w ["ranked", "level", "meek", "proud"]
  have l4 : ∀ H : PH, tupO [PV.str "ranked", PV.str "level", PV.str "meek", PV.str "proud"] H = .ok (.tup [PV.str "ranked", PV.str "level", PV.str "meek", PV.str "proud"]) H := fun _ => rfl
  have oi := one_is (z := z) n5
  have gp : ∀ {w : Str} {P : PV}, P.lowr h.length = true → wO (gcN h (.ok P h)) fun y h' => y = P ∧ h' = h := fun l => gc_gr c (.refl c) l ⟨rfl, rfl⟩
  have hz' := hz
  simp only [knownL, List.mem_cons, List.not_mem_nil, or_false] at hz'
  have door : ∀ {w a b : Str}, (w = "ranked" ∨ w = "level" ∨ w = "meek" ∨ w = "proud") → decide (w ∈ (["ranked", "level", "meek", "proud"] : List Str)) = true → oneH w n = doorH n a b → m__law_known [.str w, .int n] h = .ok (doorH n a b) h := fun {w a b} hw dw e => by
    refine eq_of_wO (wO_mk (show [PV.str w, .int n].length = 2 from rfl) ?_)
    have od := one_door_eq c hw (n := n) (by omega)
    rw [e] at od
    have o1 := oin w h
    rw [dw] at o1
    unfold g__law_known
    refine seq_h ?_
    simp -dsimp -implicitDefEqProofs only [dnev_16, dnif_1, dnw_3, l4, o1, od]
    exact gc_gr c (.refl c) (lowr_doorH _ _ _ _) ⟨rfl, rfl⟩
  have ways : ∀ {w : Str} {P : PV}, decide (w ∈ (["ranked", "level", "meek", "proud"] : List Str)) = false → decide (w = "row") = false → decide (w = "crossed") = false → P.lowr h.length = true →
      (∀ H A, Gr h H → h.length ≤ A → H[A]? = some (.lst (tblW n)) → wS ((sSeq (sIf (tV (eOp opEq (eVar 0) (eC (.str "handed")))) (sAsgH (hSub fSet (eVar 3) (eUn opNeg (eC (.int 1)))) (eCallF (m__law_around) (eCons (eC (.int 0)) (eCons (eOp opSub (eVar 1) (eC (.int 1))) eNil)))) sNx) (sSeq (sIf (tV (eOp opEq (eVar 0) (eC (.str "gated")))) (sAsg (gNm 3) (eLc (iSeq (eVar 3)) (gNm 5) tYesD (eOp opAdd (eOp opAdd (eTup (eCons (eTup (eCons (eC (.str "in")) (eCons (eVar 1) eNil))) eNil)) (eVar 5)) (eTup (eCons (eTup (eCons (eC (.str "out")) (eCons (eVar 1) eNil))) eNil))) [5])) sNx) (sRet (eTup (eCons (eOp opMul (eTup (eCons (eC .non) eNil)) (eOp opAdd (eVar 1) (eCall fInt (eCons (eOp opEq (eVar 0) (eC (.str "gated"))) eNil)))) (eCons (eCall fTuple (eCons (eVar 3) eNil)) eNil)))))) [some (.str w), some (.int n), none, some (.ref A), none, none] H) (fun _ _ => False) fun v H' => v = P ∧ Gr h H') → m__law_known [.str w, .int n] h = .ok P h := fun {w P} d1 d2 d3 lp k => by
    refine eq_of_wO (wO_mk (show [PV.str w, .int n].length = 2 from rfl) ?_)
    have o1 := oin w h
    rw [d1] at o1
    have cp := around_comp c n5 w
    unfold g__law_known
    refine seq_h ?_
    simp -dsimp -implicitDefEqProofs only [dnev_16, dnif_1, dnw_3, l4, o1]
    refine hold (seq_h ?_)
    simp -dsimp -implicitDefEqProofs only [dnev_16, dnif_1, dnw_3, d2]
    refine hold (seq_h ?_)
    simp -dsimp -implicitDefEqProofs only [dnev_16, dnif_1, dnw_3, d3]
    refine hold (seq_h ?_)
    simp -dsimp -implicitDefEqProofs only [dnev_16, dnif_1, dnw_3]
    refine ⟨by omega, ?_⟩
    rw [Int.toNat_natCast, cp, wO_ok]
    simp -dsimp -implicitDefEqProofs only [dnev_16, dnif_1, dnw_3]
    refine hold (wS_mono (k _ _ ((Gr.refl c).pushL (lows_tbl _ _)) (Nat.le_refl _) (get_last _ _)) (fun _ _ z => z.elim) fun v H' ⟨ev, G⟩ => ?_)
    subst ev
    exact gc_gr c G lp ⟨rfl, rfl⟩
  have lt : (tblW n).length = n := by simp [tblW]
  rcases hz' with rfl | rfl | rfl | rfl | rfl | rfl | rfl | rfl | rfl
  · -- crossed
    refine ⟨_, rfl, ?_⟩
    refine eq_of_wO (wO_mk (show [PV.str "crossed", .int n].length = 2 from rfl) ?_)
    have o1 := oin "crossed" h
    rw [show decide (("crossed" : Str) ∈ (["ranked", "level", "meek", "proud"] : List Str)) = false from by decide +kernel] at o1
    have d2 : decide (("crossed" : Str) = "row") = false := by decide +kernel
    have d3 : decide (("crossed" : Str) = "crossed") = true := by decide +kernel
    have a1 := fun H => around_eq 0 1 H
    have a2 := fun H => around_eq 1 0 H
    have z0 : PV.int ((0 : Nat) : Int) = .int 0 := rfl
    have z1 : PV.int ((1 : Nat) : Int) = .int 1 := rfl
    rw [z0, z1] at a1 a2
    unfold g__law_known
    refine seq_h ?_
    simp -dsimp -implicitDefEqProofs only [dnev_16, dnif_1, dnw_3, l4, o1]
    refine hold (seq_h ?_)
    simp -dsimp -implicitDefEqProofs only [dnev_16, dnif_1, dnw_3, d2]
    refine hold (seq_h ?_)
    have e1 := get_last h (.lst [wayN 0 1, wayN 1 0])
    have mo : mulO (some (.lst [wayN 0 1, wayN 1 0])) h.length 3 (h ++ [.lst [wayN 0 1, wayN 1 0]]) = some (.ref (h ++ [MO.lst [wayN 0 1, wayN 1 0]]).length, h ++ [.lst [wayN 0 1, wayN 1 0]] ++ [.lst [wayN 0 1, wayN 1 0, wayN 0 1, wayN 1 0, wayN 0 1, wayN 1 0]]) := rfl
    have lows : ∀ k, PV.lowrs k [wayN 0 1, wayN 1 0] = true := fun k => lowrs_iff.mpr fun y hy => by
      simp only [List.mem_cons, List.not_mem_nil, or_false] at hy
      rcases hy with rfl | rfl <;> exact lowr_wayN _ _ _
    have lows6 : ∀ k, PV.lowrs k [wayN 0 1, wayN 1 0, wayN 0 1, wayN 1 0, wayN 0 1, wayN 1 0] = true := fun k => lowrs_iff.mpr fun y hy => by
      simp only [List.mem_cons, List.not_mem_nil, or_false] at hy
      rcases hy with rfl | rfl | rfl | rfl | rfl | rfl <;> exact lowr_wayN _ _ _
    have G2 : Gr h (h ++ [.lst [wayN 0 1, wayN 1 0]] ++ [.lst [wayN 0 1, wayN 1 0, wayN 0 1, wayN 1 0, wayN 0 1, wayN 1 0]]) := ((Gr.refl c).pushL (lows _)).pushL (lows6 _)
    have e2 := get_last (h ++ [.lst [wayN 0 1, wayN 1 0]]) (.lst [wayN 0 1, wayN 1 0, wayN 0 1, wayN 1 0, wayN 0 1, wayN 1 0])
    have ct : cutP [wayN 0 1, wayN 1 0, wayN 0 1, wayN 1 0, wayN 0 1, wayN 1 0] none (some ((n : Nat) : Int)) = crsW n := by
      rw [cut_to (by omega), Int.toNat_natCast]
      have hn : n = 2 ∨ n = 3 ∨ n = 4 ∨ n = 5 := by omega
      rcases hn with rfl | rfl | rfl | rfl <;> rfl
    have lc : ∀ k, PV.lowrs k (crsW n) = true := fun k => lowrs_iff.mpr fun y hy => by
      obtain ⟨_, _, rfl⟩ := List.mem_map.mp hy
      exact lowr_wayN _ _ _
    have sl : opSl (.ref (h ++ [MO.lst [wayN 0 1, wayN 1 0]]).length) none (some ((n : Nat) : Int)) (h ++ [.lst [wayN 0 1, wayN 1 0]] ++ [.lst [wayN 0 1, wayN 1 0, wayN 0 1, wayN 1 0, wayN 0 1, wayN 1 0]]) = some (.ref (h ++ [MO.lst [wayN 0 1, wayN 1 0]] ++ [MO.lst [wayN 0 1, wayN 1 0, wayN 0 1, wayN 1 0, wayN 0 1, wayN 1 0]]).length, h ++ [.lst [wayN 0 1, wayN 1 0]] ++ [.lst [wayN 0 1, wayN 1 0, wayN 0 1, wayN 1 0, wayN 0 1, wayN 1 0]] ++ [.lst (crsW n)]) := by
      unfold opSl
      dsimp only
      rw [e2]
      dsimp only
      rw [ct]
    have e3 := get_last (h ++ [.lst [wayN 0 1, wayN 1 0]] ++ [.lst [wayN 0 1, wayN 1 0, wayN 0 1, wayN 1 0, wayN 0 1, wayN 1 0]]) (.lst (crsW n))
    have lo : lstO [wayN 0 1, wayN 1 0] h = .ok (.ref h.length) (h ++ [.lst [wayN 0 1, wayN 1 0]]) := lstO_ok (by simp)
    simp -dsimp -implicitDefEqProofs only [dnev_16, dnif_1, dnw_3, d3, a1, a2, lo, e1, mo]
    simp -dsimp -implicitDefEqProofs only [dnev_16, dnif_1, dnw_3, sl, e3]
    exact gc_gr c (G2.pushL (lc _)) (low2 rfl (lc _)) ⟨rfl, rfl⟩
  · -- gated
    have lg : (PV.tup [.tup (nons n ++ [.non]), .tup (gateW n)]).lowr h.length = true := low2 (lowrs_iff.mpr fun y hy => by
      rcases List.mem_append.mp hy with hy | hy
      · exact lowrs_iff.mp (lows_nons h.length n) y hy
      · rw [List.mem_singleton.mp hy]
        rfl) (lowrs_iff.mpr fun y hy => by
      obtain ⟨_, _, rfl⟩ := List.mem_map.mp hy
      exact lowr_wayP _ _)
    refine ⟨_, rfl, ways (by decide +kernel) (by decide +kernel) (by decide +kernel) lg fun H A G lA eA => ?_⟩
    have d1 : decide (("gated" : Str) = "handed") = false := by decide +kernel
    have d2 : decide (("gated" : Str) = "gated") = true := by decide +kernel
    have lAH := (List.getElem?_eq_some_iff.mp eA).1
    have cp := comp_l (gs := [(A, tblW n)]) (g := gNm 5) (e := eOp opAdd (eOp opAdd (eTup (eCons (eTup (eCons (eC (.str "in")) (eCons (eVar 1) eNil))) eNil)) (eVar 5)) (eTup (eCons (eTup (eCons (eC (.str "out")) (eCons (eVar 1) eNil))) eNil))) (s := [some (.str "gated"), some (.int n), none, some (.ref A), none, none]) G.cl (fun i : Nat => wayN i ((i + 1) % n)) (fun i => wayP ([(true, n)] ++ nestL [i, (i + 1) % n] ++ [(false, n)])) (fun H' G' => by
      unfold okG
      simp only [List.all_cons, List.all_nil, Bool.and_true]
      exact decide_eq_true ((G'.at_ A lAH).trans eA)) (List.range n) [] rfl (by simp; omega) (fun i hi => ⟨lowr_wayP _ _, _, rfl, fun H' G' => rfl⟩)
    have et : (List.range n).map (fun i => wayN i ((i + 1) % n)) = tblW n := rfl
    rw [List.nil_append, et] at cp
    have gw : (List.range n).map (fun i => wayP ([(true, n)] ++ nestL [i, (i + 1) % n] ++ [(false, n)])) = gateW n := rfl
    rw [gw] at cp
    have mn := mul_non (n := n + 1) (by omega)
    have ad : ((n : Nat) : Int) + 1 = ((n + 1 : Nat) : Int) := rfl
    have nn : nons (n + 1) = nons n ++ [.non] := List.replicate_succ'
    have lgw : ∀ k, PV.lowrs k (gateW n) = true := fun k => lowrs_iff.mpr fun y hy => by
      obtain ⟨_, _, rfl⟩ := List.mem_map.mp hy
      exact lowr_wayP _ _
    have e2 := get_last H (.lst (gateW n))
    have fi : ∀ (b : Bool) H, fInt [.bl b] H = some (.int (if b then 1 else 0), H) := fun _ _ => rfl
    refine seq_h ?_
    simp -dsimp -implicitDefEqProofs only [dnev_16, dnif_1, dnw_3, d1]
    refine hold (seq_h ?_)
    simp -dsimp -implicitDefEqProofs only [dnev_16, dnif_1, dnw_3, d2, eA, cp]
    refine hold ?_
    simp -dsimp -implicitDefEqProofs only [dnev_16, dnif_1, dnw_3, d2, fi, e2]
    rw [if_pos trivial, ad]
    simp -dsimp -implicitDefEqProofs only [dnev_16, dnif_1, dnw_3, mn, e2]
    rw [nn]
    first
      | exact G.pushL (lgw _)
      | exact ⟨rfl, G.pushL (lgw _)⟩
  · -- handed
    have lh : (PV.tup [.tup (nons n), .tup ((tblW n).dropLast ++ [wayN 0 (n - 1)])]).lowr h.length = true := low2 (lows_nons _ _) (lowrs_iff.mpr fun y hy => by
      rcases List.mem_append.mp hy with hy | hy
      · exact lowrs_iff.mp (lows_tbl h.length n) y (List.dropLast_subset _ hy)
      · rw [List.mem_singleton.mp hy]
        exact lowr_wayN _ _ _)
    refine ⟨_, rfl, ways (by decide +kernel) (by decide +kernel) (by decide +kernel) lh fun H A G lA eA => ?_⟩
    have d1 : decide (("handed" : Str) = "handed") = true := by decide +kernel
    have d2 : decide (("handed" : Str) = "gated") = false := by decide +kernel
    have lAH := (List.getElem?_eq_some_iff.mp eA).1
    have sb : ∀ H, opSub (.int n) (.int 1) H = some (.int ((n - 1 : Nat) : Nat), H) := fun H => by
      show some (PV.int _, H) = _
      congr 3
      omega
    have a1 := fun H => around_eq 0 (n - 1) H
    have z0 : PV.int ((0 : Nat) : Int) = .int 0 := rfl
    rw [z0] at a1
    have st : (tblW n).set (n - 1) (wayN 0 (n - 1)) = (tblW n).dropLast ++ [wayN 0 (n - 1)] := by
      have hn : n = 2 ∨ n = 3 ∨ n = 4 ∨ n = 5 := by omega
      rcases hn with rfl | rfl | rfl | rfl <;> rfl
    have mn := mul_non (n := n) (by omega)
    have fi : ∀ (b : Bool) H, fInt [.bl b] H = some (.int (if b then 1 else 0), H) := fun _ _ => rfl
    refine seq_h ?_
    simp -dsimp -implicitDefEqProofs only [dnev_16, dnif_1, dnw_3, d1, sb, a1, eA]
    refine ⟨n - 1, by
      unfold ixN
      rw [lt]
      rw [if_neg (by decide), if_pos (by omega)]
      congr 1
      omega, ?_⟩
    rw [st]
    have e2 : (H.set A (.lst ((tblW n).dropLast ++ [wayN 0 (n - 1)])))[A]? = some (.lst ((tblW n).dropLast ++ [wayN 0 (n - 1)])) := List.getElem?_set_self lAH
    have G2 : Gr h (H.set A (.lst ((tblW n).dropLast ++ [wayN 0 (n - 1)]))) := G.set lA (lowrs_iff.mpr fun y hy => by
      rcases List.mem_append.mp hy with hy | hy
      · exact lowrs_iff.mp (lows_tbl _ n) y (List.dropLast_subset _ hy)
      · rw [List.mem_singleton.mp hy]
        exact lowr_wayN _ _ _)
    generalize H.set A (.lst ((tblW n).dropLast ++ [wayN 0 (n - 1)])) = H2 at e2 G2 ⊢
    refine hold (seq_h ?_)
    simp -dsimp -implicitDefEqProofs only [dnev_16, dnif_1, dnw_3, d2]
    refine hold ?_
    simp -dsimp -implicitDefEqProofs only [dnev_16, dnif_1, dnw_3, d2, fi, e2]
    have ad : ((n : Nat) : Int) + (if false = true then 1 else 0) = ((n : Nat) : Int) := by simp
    rw [ad]
    simp -dsimp -implicitDefEqProofs only [dnev_16, dnif_1, dnw_3, mn, e2]
    exact G2
  · exact ⟨_, rfl, door (.inr (.inl rfl)) (by decide +kernel) (oi.2.1 rfl)⟩
  · exact ⟨_, rfl, door (.inr (.inr (.inl rfl))) (by decide +kernel) (oi.2.2.1 rfl)⟩
  · exact ⟨_, rfl, door (.inr (.inr (.inr rfl))) (by decide +kernel) (oi.2.2.2 rfl)⟩
  · exact ⟨_, rfl, door (.inl rfl) (by decide +kernel) (oi.1 rfl)⟩
  · -- row
    refine ⟨_, rfl, ?_⟩
    refine eq_of_wO (wO_mk (show [PV.str "row", .int n].length = 2 from rfl) ?_)
    have o1 := oin "row" h
    rw [show decide (("row" : Str) ∈ (["ranked", "level", "meek", "proud"] : List Str)) = false from by decide +kernel] at o1
    have d2 : decide (("row" : Str) = "row") = true := by decide +kernel
    have a1 := fun H => around_eq 0 1 H
    have z0 : PV.int ((0 : Nat) : Int) = .int 0 := rfl
    have z1 : PV.int ((1 : Nat) : Int) = .int 1 := rfl
    rw [z0, z1] at a1
    have mt := mul_tup (x := wayN 0 1) n (by omega) h
    unfold g__law_known
    refine seq_h ?_
    simp -dsimp -implicitDefEqProofs only [dnev_16, dnif_1, dnw_3, l4, o1]
    refine hold (seq_h ?_)
    simp -dsimp -implicitDefEqProofs only [dnev_16, dnif_1, dnw_3, d2, a1, mt]
    exact gc_gr c (.refl c) (low2 rfl (lowrs_iff.mpr fun y hy => by
      rw [List.eq_of_mem_replicate hy]
      exact lowr_wayN _ _ _)) ⟨rfl, rfl⟩
  · -- table
    refine ⟨_, rfl, ways (by decide +kernel) (by decide +kernel) (by decide +kernel) (low2 (lows_nons _ _) (lows_tbl _ _)) fun H A G lA eA => ?_⟩
    have d1 : decide (("table" : Str) = "handed") = false := by decide +kernel
    have d2 : decide (("table" : Str) = "gated") = false := by decide +kernel
    have mn := mul_non (n := n) (by omega)
    have fi : ∀ (b : Bool) H, fInt [.bl b] H = some (.int (if b then 1 else 0), H) := fun _ _ => rfl
    refine seq_h ?_
    simp -dsimp -implicitDefEqProofs only [dnev_16, dnif_1, dnw_3, d1]
    refine hold (seq_h ?_)
    simp -dsimp -implicitDefEqProofs only [dnev_16, dnif_1, dnw_3, d2]
    refine hold ?_
    simp -dsimp -implicitDefEqProofs only [dnev_16, dnif_1, dnw_3, d2, fi, eA]
    have ad : ((n : Nat) : Int) + (if false = true then 1 else 0) = ((n : Nat) : Int) := by simp
    rw [ad]
    simp -dsimp -implicitDefEqProofs only [dnev_16, dnif_1, dnw_3, mn, eA]
    exact G
end
end Dn
namespace Dn
open PySem PySem.Spec PyProof.Rows L2 PySem.SeqAt Rw

theorem opIn_strL {h : PH} {m : Nat} (w : Str) (vs : List Str) (e : h[m]? = some (.lst (vs.map PV.str))) : opIn (.str w) (.ref m) h = some (.bl (decide (w ∈ vs)), h) := by
  have s : inB h (.str w) (.ref m) = some (decide (w ∈ vs)) := by
    unfold inB
    dsimp only
    have q : seqOf h (.ref m) = some (vs.map PV.str) := by
      unfold seqOf
      dsimp only
      rw [e]
    rw [q]
    exact anyO_str w vs
  unfold opIn
  rw [s]
  rfl
theorem pn_step (p : Bool × Nat) : Pn 1 (stepP p) := by
  obtain ⟨b, r⟩ := p
  cases b
  · exact .pair (x := .str "out") (.str (by decide +kernel)) (.int _)
  · exact .pair (x := .str "in") (.str (by decide +kernel)) (.int _)
theorem pn_way (st : List (Bool × Nat)) : Pn 2 (wayP st) := .tup fun x hx => by
  obtain ⟨p, _, rfl⟩ := List.mem_map.mp hx
  exact pn_step p
theorem pn_wayN (a b : Nat) : Pn 2 (wayN a b) := pn_way _
theorem pn_two {n : Nat} {xs ys : List PV} (a : ∀ x ∈ xs, Pn n x) (b : ∀ x ∈ ys, Pn n x) : Pn (n + 2) (.tup [.tup xs, .tup ys]) := .pair (.tup a) (.tup b)
theorem pn_nons (n : Nat) : ∀ x ∈ nons n, Pn 4 x := fun x hx => by rw [List.eq_of_mem_replicate hx]; exact .non
theorem pn_non2 : ∀ x ∈ ([.non, .non] : List PV), Pn 4 x := fun x hx => by
  simp only [List.mem_cons, List.not_mem_nil, or_false] at hx
  rcases hx with rfl | rfl <;> exact .non
theorem Pn.doorH (n : Nat) {a b : Str} (ha : PyData.strOk a = true) (hb : PyData.strOk b = true) : Pn 5 (doorH n a b) := by
  have rows : ∀ x ∈ (List.range n).map fun i => rowQ (rowN n i a b), Pn 1 x := fun x hx => by
    obtain ⟨i, _, rfl⟩ := List.mem_map.mp hx
    exact .tup fun y hy => by
      obtain ⟨w, hw, rfl⟩ := List.mem_map.mp hy
      refine .str ?_
      unfold rowN at hw
      rcases List.mem_append.mp hw with hw | hw
      · rcases List.mem_append.mp hw with hw | hw
        · rw [List.eq_of_mem_replicate hw]; exact ha
        · rw [List.mem_singleton.mp hw]; decide +kernel
      · rw [List.eq_of_mem_replicate hw]; exact hb
  have ords : ∀ x ∈ (List.range n).map (ordN n), Pn 1 x := fun x hx => by
    obtain ⟨i, _, rfl⟩ := List.mem_map.mp hx
    exact .nats _
  have ways : ∀ x ∈ List.replicate n (wayP (nestL [0])), Pn 3 x := fun x hx => by
    rw [List.eq_of_mem_replicate hx]
    exact (pn_way _).up (by omega)
  have inner : Pn 3 (.tup [.tup ((List.range n).map fun i => rowQ (rowN n i a b)), .tup ((List.range n).map (ordN n))]) := .pair (.tup rows) (.tup ords)
  exact .pair (.tup fun x hx => by rw [List.mem_singleton.mp hx]; exact inner) (.tup ways)
theorem pn_up {n m : Nat} {xs : List PV} (l : n ≤ m) (q : ∀ x ∈ xs, Pn n x) : ∀ x ∈ xs, Pn m x := fun x hx => (q x hx).up l
theorem pn_crs (n : Nat) : ∀ x ∈ crsW n, Pn 2 x := fun x hx => by
  obtain ⟨_, _, rfl⟩ := List.mem_map.mp hx
  exact pn_wayN _ _
theorem pn_tbl (n : Nat) : ∀ x ∈ tblW n, Pn 2 x := fun x hx => by
  obtain ⟨_, _, rfl⟩ := List.mem_map.mp hx
  exact pn_wayN _ _
theorem pn_gate (n : Nat) : ∀ x ∈ gateW n, Pn 2 x := fun x hx => by
  obtain ⟨_, _, rfl⟩ := List.mem_map.mp hx
  exact pn_way _
theorem knownT_pn {z : Str} {f : Nat → PV} (e : knownT.lookup z = some f) (n : Nat) : Pn 6 (f n) := by
  have m := lookup_memG e
  have n2 : ∀ x ∈ ([.non, .non] : List PV), Pn 4 x := pn_non2
  have nn := pn_nons n
  unfold knownT at m
  simp only [List.mem_cons, List.not_mem_nil, or_false, Prod.mk.injEq] at m
  rcases m with ⟨_, rfl⟩ | ⟨_, rfl⟩ | ⟨_, rfl⟩ | ⟨_, rfl⟩ | ⟨_, rfl⟩ | ⟨_, rfl⟩ | ⟨_, rfl⟩ | ⟨_, rfl⟩ | ⟨_, rfl⟩
  · exact pn_two n2 (pn_up (by omega) (pn_crs n))
  · refine pn_two (fun x hx => ?_) (pn_up (by omega) (pn_gate n))
    rcases List.mem_append.mp hx with hx | hx
    · exact nn x hx
    · rw [List.mem_singleton.mp hx]; exact .non
  · refine pn_two nn fun x hx => ?_
    rcases List.mem_append.mp hx with hx | hx
    · exact (pn_tbl n x (List.dropLast_subset _ hx)).up (by omega)
    · rw [List.mem_singleton.mp hx]; exact (pn_wayN _ _).up (by omega)
  · exact (Pn.doorH n (by decide +kernel) (by decide +kernel)).up (by omega)
  · exact (Pn.doorH n (by decide +kernel) (by decide +kernel)).up (by omega)
  · exact (Pn.doorH n (by decide +kernel) (by decide +kernel)).up (by omega)
  · exact (Pn.doorH n (by decide +kernel) (by decide +kernel)).up (by omega)
  · refine pn_two n2 fun x hx => ?_
    rw [List.eq_of_mem_replicate hx]; exact (pn_wayN _ _).up (by omega)
  · exact pn_two nn (pn_up (by omega) (pn_tbl n))
section
variable {h : PH} {v w : PV} {b : Bool}
theorem heard_kn {x : PV} (c : Cl h.length h) (e : m_known [v, w] h = .ok x h) (lx : x.lowr h.length = true) : m__law_heard [v, w, .bl b] h = .ok (.tup [.str "told", x]) h := by
  refine eq_of_wO (wO_mk (show [v, w, .bl b].length = 3 from rfl) ?_)
  have p1 : ∀ x y : PV, atPl [1, 0] [x, y] = [y, x] := fun _ _ => rfl
  unfold g__law_heard
  refine try_w (wE_of ?_)
  cases b <;> simp -dsimp -implicitDefEqProofs only [dnev_16, dnif_1, dnw_3, e, p1] <;> exact gc_gr c (.refl c) (by simp only [PV.lowr, PV.lowrs, lx, Bool.and_self]) ⟨rfl, rfl⟩
theorem heard_un (c : Cl h.length h) (e : m_known [v, w] h = .err unfitE h) : m__law_heard [v, w, .bl b] h = .ok (.tup [.str "unfit", .bl true]) h := by
  refine eq_of_wO (wO_mk (show [v, w, .bl b].length = 3 from rfl) ?_)
  have p1 : ∀ x y : PV, atPl [1, 0] [x, y] = [y, x] := fun _ _ => rfl
  unfold g__law_heard
  refine try_w (wE_er (z := unfitE) (s := [some v, some w, some (.bl b), none]) (h := h) ?_ ⟨rfl, ⟨_, rfl⟩, ?_⟩)
  · cases b
    · simp only [dnev_16, dnif_1, e, p1]
    · simp only [dnev_16, dnif_1, e, p1]
  · show wS (OutS.rt (.tup [.str "unfit", .bl true]) h) _ _
    rw [wS_rt]
    exact gc_gr c (.refl c) rfl ⟨rfl, rfl⟩
end
abbrev isKn : DE := eAnd (eIsi "str" (eVar 4)) (eAnd (eOp opIn (eVar 4) (eVar 2)) (eCallF (m__law_whole) (eCons (eVar 6) (eCons (eC (.int 2)) (eCons (eC (.int 5)) eNil)))))
abbrev dueE : DE := eIf (tTru (eVar 8)) (eTup (eCons (eC (.str "told")) (eCons (eCallF (m__law_known) (eCons (eVar 4) (eCons (eVar 6) eNil))) eNil))) (eTup (eCons (eC (.str "unfit")) (eCons (eC (.bl true)) eNil)))
theorem whole_ty {h : PH} {x : PV} {a b : Int} (ht : ∃ c, tyP h x = some c) : m__law_whole [x, .int a, .int b] h = .ok (.bl (wholeB x a b)) h := eq_of_wO (whole_w ht ⟨rfl, rfl⟩)
theorem not_notext {h : PH} {z : Str} (nt : NoText h (.str z)) : False := by
  obtain ⟨ty, t1, t2⟩ := nt
  cases t1
  exact absurd t2 (by decide +kernel)
theorem due7 {v w : PV} {h : PH} (kv : (∃ z, v = .str z) ∨ NoText h v) (ht : ∃ ty, tyP h w = some ty) {NA : Nat} (eN : h[NA]? = some (.lst (knownL.map PV.str))) (c : Cl h.length h) : ∃ k P, Pn 7 P ∧ 
    (∀ x0 x1 x3 x5 x7 x8 x9 x10, isKn [x0, x1, some (.ref NA), x3, some v, x5, some w, x7, x8, x9, x10] h = .ok (.bl k) h) ∧
    ((k = true ∧ ∃ x, P = .tup [.str "told", x] ∧ m__law_known [v, w] h = .ok x h) ∨ (k = false ∧ P = .tup [.str "unfit", .bl true])) ∧ ∀ b H, Cl H.length H → (NoText h v → NoText H v) → (∃ ty, tyP H w = some ty) → m__law_heard [v, w, .bl b] H = .ok P H := by
  have un : Pn 7 (.tup [.str "unfit", .bl true]) := .pair (.str (by decide +kernel)) (.bl _)
  rcases kv with ⟨z, rfl⟩ | nt
  · have oi := opIn_strL (h := h) z knownL eN
    have wh := whole_ty (a := 2) (b := 5) ht
    by_cases hz : z ∈ knownL
    · rw [decide_eq_true hz] at oi
      cases hw : wholeB w 2 5 with
      | false =>
        rw [hw] at wh
        refine ⟨false, _, un, fun x0 x1 x3 x5 x7 x8 x9 x10 => ?_, .inr ⟨rfl, rfl⟩, fun b H cH _ tH => heard_un cH (known_no3 cH hz tH hw)⟩
        · simp only [dnev_16, dnif_1, oi, wh]
      | true =>
        rw [hw] at wh
        cases w with
        | int i =>
          unfold wholeB at hw
          dsimp only at hw
          rw [Bool.and_eq_true] at hw
          obtain ⟨n, rfl⟩ : ∃ n : Nat, i = n := ⟨i.toNat, by have := of_decide_eq_true hw.1; omega⟩
          have n5 : 2 ≤ n ∧ n ≤ 5 := ⟨by have := of_decide_eq_true hw.1; omega, by have := of_decide_eq_true hw.2; omega⟩
          obtain ⟨f, ef, lk⟩ := law_known_eq c hz n5
          have pf := knownT_pn ef n
          refine ⟨true, .tup [.str "told", f n], .pair (.str (by decide +kernel)) pf, fun x0 x1 x3 x5 x7 x8 x9 x10 => ?_, .inl ⟨rfl, _, rfl, lk⟩, fun b H cH _ _ => ?_⟩
          · simp only [dnev_16, dnif_1, oi, wh]
          · obtain ⟨f', ef', k', l'⟩ := known_eq cH hz n5
            rw [ef] at ef'
            cases ef'
            exact heard_kn cH k' l'
        | _ => cases hw
    · rw [decide_eq_false hz] at oi
      refine ⟨false, _, un, fun x0 x1 x3 x5 x7 x8 x9 x10 => ?_, .inr ⟨rfl, rfl⟩, fun b H cH _ _ => heard_un cH (known_no2 cH hz)⟩
      · simp only [dnev_16, dnif_1, oi]
  · obtain ⟨ty, t1, t2⟩ := id nt
    refine ⟨false, _, un, fun x0 x1 x3 x5 x7 x8 x9 x10 => ?_, .inr ⟨rfl, rfl⟩, fun b H cH g _ => heard_un cH (known_no1 cH (g nt))⟩
    · simp only [dnev_16, dnif_1, t1, t2]
end Dn
namespace Dn
open PySem PySem.Spec PyProof.Rows L2 PySem.SeqAt Rw

def anyD : Nat := 16000
abbrev pairP (p : PV × PV) : PV := .tup [p.1, p.2]
theorem lowP {k : Nat} {x y : PV} (a : x.lowr k = true) (b : y.lowr k = true) : (PV.tup [x, y]).lowr k = true := by simp only [PV.lowr, PV.lowrs, a, b, Bool.and_self]
structure Prs (n0 N : Nat) (L : List (PV × PV)) (H : PH) : Prop where
  few : L.length ≤ N
  all : ∀ p ∈ L, Da 6 anyD n0 H p.1 ∧ Da 6 anyD n0 H p.2
section
variable {n0 N : Nat} {L : List (PV × PV)} {H H2 : PH}
theorem Prs.kp (S : Prs n0 N L H) (k : Kp n0 H n0 H2) : Prs n0 N L H2 := ⟨S.few, fun p hp => ⟨(S.all p hp).1.kp k, (S.all p hp).2.kp k⟩⟩
theorem Prs.app {M : Nat} {R : List (PV × PV)} (S : Prs n0 N L H) (S2 : Prs n0 M R H) : Prs n0 (N + M) (L ++ R) H where
  few := by rw [List.length_append]; exact Nat.add_le_add S.few S2.few
  all := fun p hp => by
    rcases List.mem_append.mp hp with m | m
    · exact S.all p m
    · exact S2.all p m
theorem Prs.low (S : Prs n0 N L H) : PV.lowrs H.length (L.map pairP) = true := lowrs_iff.mpr fun y hy => by
  obtain ⟨p, hp, rfl⟩ := List.mem_map.mp hy
  exact lowP (S.all p hp).1.low (S.all p hp).2.low
end
abbrev anyE (k : Nat) : DE := eIf (tV (eOp opEq (eCallF (m__law_draw) (eCons (eVar 1) (eCons (eC (.int 8)) eNil))) (eC (.int 0)))) (eCallF (m__law_any 8) (eCons (eVar 1) (eCons (eC (.int 2)) eNil))) (eVar k)
theorem anyE_w {k n0 : Nat} {s : Sl} {v : PV} {H : PH} {Q : PV → PH → Prop} (h1 : s[1]? = some (some (.ref 2))) (hk : s[k]? = some (some v)) (D : Dk 2 4 H) (l0 : 4 < n0 ∧ n0 ≤ H.length) (a : Da 6 anyD n0 H v) (q : ∀ v2 H2, Dk 2 4 H2 → Ov 2 4 H H2 → Da 6 anyD n0 H2 v2 → Q v2 H2) : wO (anyE k s H) Q := by
  unfold anyE
  simp -dsimp -implicitDefEqProofs only [dnev_16, dnw_3, h1]
  refine draw_w D (by decide) fun i H2 D2 L2 i0 _ _ => ?_
  simp -dsimp -implicitDefEqProofs only [dnev_16, dnw_3]
  refine ⟨fun e => ?_, fun e => by
    rw [hk]
    show wO (.ok v H2) Q
    rw [wO_ok]
    exact q v H2 D2 L2.ov (a.kp (L2.ov.kp (by omega) (by omega)))⟩
  have le := L2.ov.len
  exact any_w 8 D2 (by decide) fun v2 H3 D3 O3 a3 => q v2 H3 D3 (L2.ov.trans O3) ((a3.kp (Kp.less (by omega))).up (by decide) (by decide))
theorem known_da {w : Str} {n : Nat} {h : PH} (hw : w ∈ knownL) : Da 6 anyD n h (.str w) := by
  have : ∀ w ∈ knownL, (w.cps.toList.all fun c => decide (c < 1114112)) = true ∧ w.cps.size ≤ anyD := by decide +kernel
  exact .str (this w hw).1 (this w hw).2
theorem law_w (ns : List Int) (len : ns.length ≤ 63) : wO (m_law [.fz (ns.map PV.int)] []) fun v _ => v = .bl true := by
  refine wO_mk (show [PV.fz (ns.map PV.int)].length = 1 from rfl) ?_
  obtain ⟨h0, e0, D0⟩ := deck_ok ns len
  have l0 := D0.lt
  have kn : ∀ H, Cl H.length H → m_known_names [] H = .ok (.tup (knownL.map PV.str)) H := fun H c => known_names_eq c
  have sk : ∀ H, m__law_same 8 [.tup (knownL.map PV.str), .tup (knownL.map PV.str)] H = .ok (.bl true) H := fun H => (Pn.tup (n := 0) fun x hx => by
    obtain ⟨w, hw, rfl⟩ := List.mem_map.mp hx
    refine .str ?_
    have : ∀ w ∈ knownL, PyData.strOk w = true := by decide +kernel
    exact this w hw).same (by decide)
  have lN : ∀ H : PH, lstO [PV.str "crossed", PV.str "gated", PV.str "handed", PV.str "level", PV.str "meek", PV.str "proud", PV.str "ranked", PV.str "row", PV.str "table"] H = .ok (.ref H.length) (H ++ [.lst (knownL.map PV.str)]) := fun H => lstO_ok (by simp)
  unfold g_law
  refine seq_h ?_
  simp -dsimp -implicitDefEqProofs only [dnev_16, dnw_3, e0]
  refine hold (seq_h ?_)
  simp -dsimp -implicitDefEqProofs only [dnev_16, dnw_3, lN]
  have lk : ∀ k, PV.lowrs k (knownL.map PV.str) = true := fun k => lows_str _ id _
  have D1 : Dk 2 4 (h0 ++ [MO.lst (knownL.map PV.str)]) := D0.push (o := .lst _) (lk _)
  have aN := get_last h0 (.lst (knownL.map PV.str))
  have n1 : (h0 ++ [MO.lst (knownL.map PV.str)]).length = h0.length + 1 := by simp
  generalize h0 ++ [MO.lst (knownL.map PV.str)] = H1 at D1 aN n1 ⊢
  generalize h0.length = NA at aN n1 l0 ⊢
  have k1 := kn H1 D1.cl
  refine hold (seq_h ?_)
  simp -dsimp -implicitDefEqProofs only [dnev_16, dnif_1, dnw_3, k1, aN, sk, Bool.not_true]
  refine hold (seq_h ?_)
  simp -dsimp -implicitDefEqProofs only [dnev_16, dnw_3]
  rw [n1]
  have D2 : Dk 2 4 (H1 ++ [MO.lst []]) := D1.push (o := MO.lst []) rfl
  have aN2 : (H1 ++ [MO.lst []])[NA]? = some (.lst (knownL.map PV.str)) := by rw [List.getElem?_append_left (by omega)]; exact aN
  have aP2 : (H1 ++ [MO.lst []])[NA + 1]? = some (.lst []) := by rw [← n1]; exact get_last _ _
  have n2 : (H1 ++ [MO.lst []]).length = NA + 2 := by simp [n1]
  generalize H1 ++ [MO.lst []] = H2 at D2 aN2 aP2 n2 ⊢
  refine hold (seq_h ?_)
  simp -dsimp -implicitDefEqProofs only [dnev_16, dnw_3, aN2]
  refine for_ww (fun i sl H => ∃ x4 x6 L, sl = [some (.fz (ns.map PV.int)), some (.ref 2), some (.ref NA), some (.ref (NA + 1)), x4, none, x6, none, none, none, none] ∧ Dk 2 4 H ∧ NA + 2 ≤ H.length ∧ Prs (NA + 2) (4 * i) L H ∧ H[NA]? = some (.lst (knownL.map PV.str)) ∧ H[NA + 1]? = some (.lst (L.map pairP)))
    ⟨none, none, [], rfl, D2, by omega, ⟨Nat.zero_le _, fun _ m => (nomatch m)⟩, aN2, aP2⟩ (fun i s h ⟨_, _, _, _, _, _, _, aN3, _⟩ => by
      unfold okG
      simp only [List.all_cons, List.all_nil, Bool.and_true]
      exact decide_eq_true aN3) (fun i x hx sl H ⟨x4, x6, L, esl, D3, l3, S3, aN3, aP3⟩ => ?_) fun sl H ⟨x4, x6, L, esl, D3, l3, S3, aN3, aP3⟩ => ?_
  · subst esl
    have xm := List.mem_of_getElem? hx
    obtain ⟨w, hw, rfl⟩ := List.mem_map.mp xm
    refine ⟨_, rfl, ?_⟩
    have c3 := D3.cl
    have cp := comp_l (gs := []) (g := gNm 6) (e := eTup (eCons (eVar 4) (eCons (eVar 6) eNil))) (s := [some (.fz (ns.map PV.int)), some (.ref 2), some (.ref NA), some (.ref (NA + 1)), some (.str w), none, none, none, none, none, none]) c3 PV.int (fun i => .tup [.str w, .int i]) (fun _ _ => rfl) [2, 3, 4, 5] [] rfl (by decide) (fun i hi => ⟨rfl, _, rfl, fun H G => rfl⟩)
    rw [List.nil_append] at cp
    have cp : compItems [] (gNm 6) tYesD (eTup (eCons (eVar 4) (eCons (eVar 6) eNil))) H.length [some (.fz (ns.map PV.int)), some (.ref 2), some (.ref NA), some (.ref (NA + 1)), some (.str w), none, none, none, none, none, none] [.int 2, .int 3, .int 4, .int 5] (H ++ [.lst []]) = .ok () (H ++ [.lst ([2, 3, 4, 5].map fun i => .tup [.str w, .int i])]) := cp
    have aP4 : (H ++ [MO.lst ([2, 3, 4, 5].map fun i => PV.tup [.str w, .int i])])[NA + 1]? = some (.lst (L.map pairP)) := by rw [List.getElem?_append_left (by omega)]; exact aP3
    have gl := get_last H (.lst ([2, 3, 4, 5].map fun i => PV.tup [.str w, .int i]))
    simp -dsimp -implicitDefEqProofs only [dnev_16, dnif_1, dnw_3, cp, aP3, aP4, gl]
    have i9 : i < 9 := by
      have := (List.getElem?_eq_some_iff.mp hx).1
      rw [List.length_map] at this
      exact this
    have w5 : ∀ k, (PV.str w).lowr k = true := fun _ => rfl
    have R3 : Prs (NA + 2) 4 ([2, 3, 4, 5].map fun i : Int => (PV.str w, PV.int i)) H := ⟨Nat.le_refl _, fun p hp => by
      obtain ⟨q, hq, rfl⟩ := List.mem_map.mp hp
      refine ⟨known_da hw, Da.int ?_ (by decide)⟩
      simp only [List.mem_cons, List.not_mem_nil, or_false] at hq
      rcases hq with rfl | rfl | rfl | rfl <;> decide⟩
    have S4 := S3.app R3
    have em : L.map pairP ++ ([2, 3, 4, 5].map fun i => PV.tup [.str w, .int i]) = (L ++ [2, 3, 4, 5].map fun i : Int => (PV.str w, PV.int i)).map pairP := by
      rw [List.map_append, List.map_map]
      rfl
    rw [em]
    have few := S3.few
    have lo4 : PV.lowrs (H.length + 1) ([2, 3, 4, 5].map fun i => PV.tup [.str w, .int i]) = true := lowrs_iff.mpr fun y hy => by
      obtain ⟨_, _, rfl⟩ := List.mem_map.mp hy
      rfl
    have lo5 := lowrs_mono (Nat.le_succ _) _ S4.low
    refine ⟨by rw [List.length_map]; simp only [List.length_map, List.length_cons, List.length_nil]; omega, _, _, _, rfl, (D3.push (o := .lst ([2, 3, 4, 5].map fun i => PV.tup [.str w, .int i])) lo4).setL (by omega) (by omega) (by rw [List.length_append]; exact lo5), by rw [List.length_set, List.length_append]; omega, ?_, ?_, List.getElem?_set_self (by rw [List.length_append]; omega)⟩
    · have : 4 * i + 4 = 4 * (i + 1) := by omega
      rw [← this]
      exact S4.kp (Kp.trans .push (.set (by omega)))
    · rw [List.getElem?_set_ne (by omega), List.getElem?_append_left (by omega)]
      exact aN3
  · subst esl
    have S3 : Prs (NA + 2) 36 L H := S3
    refine hold (seq_h ?_)
    simp -dsimp -implicitDefEqProofs only [dnev_16, dnw_3]
    refine ⟨by decide, ?_⟩
    refine for_ww (fun i sl H => ∃ x4 x5 x6 L, sl = [some (.fz (ns.map PV.int)), some (.ref 2), some (.ref NA), some (.ref (NA + 1)), x4, x5, x6, none, none, none, none] ∧ Dk 2 4 H ∧ NA + 2 ≤ H.length ∧ Prs (NA + 2) (36 + i) L H ∧ H[NA]? = some (.lst (knownL.map PV.str)) ∧ H[NA + 1]? = some (.lst (L.map pairP)))
      ⟨x4, none, x6, L, rfl, D3, l3, S3, aN3, aP3⟩ (fun _ _ _ _ => rfl) (fun i x hx sl H ⟨x4, x5, x6, L, esl, D3, l3, S3, aN3, aP3⟩ => ?_) fun sl H ⟨x4, x5, x6, L, esl, D3, l3, S3, aN3, aP3⟩ => ?_
    · subst esl
      obtain ⟨rfl, _⟩ := range_at hx
      refine ⟨_, rfl, ?_⟩
      have c3 := D3.cl
      have e0 := get_last H (.lst [PV.str "table"])
      have G0 : Gr H (H ++ [MO.lst [PV.str "table"]]) := .push (o := .lst _) c3 rfl
      have D4 : Dk 2 4 (H ++ [MO.lst [PV.str "table"]]) := D3.push (o := .lst _) rfl
      have K4 : Kp (NA + 2) H (NA + 2) (H ++ [MO.lst [PV.str "table"]]) := .push
      have aN4 : (H ++ [MO.lst [PV.str "table"]])[NA]? = some (.lst (knownL.map PV.str)) := by rw [List.getElem?_append_left (by omega)]; exact aN3
      have aP4 : (H ++ [MO.lst [PV.str "table"]])[NA + 1]? = some (.lst (L.map pairP)) := by rw [List.getElem?_append_left (by omega)]; exact aP3
      have n4 : (H ++ [MO.lst [PV.str "table"]]).length = H.length + 1 := by simp
      refine seq_h ?_
      simp -dsimp -implicitDefEqProofs only [dnev_16, dnif_1, dnw_3]
      generalize H ++ [MO.lst [PV.str "table"]] = H4 at e0 D4 K4 aN4 aP4 n4 ⊢
      refine ⟨by simp, ?_⟩
      generalize ez : [PV.str "Table", PV.str "", PV.str "tables", PV.str "none", .non, .int 3, .ref H.length, .tup [.str "table"], .bl true] = zs
      have daz : ∀ x ∈ knownL.map PV.str ++ zs, Da 6 anyD (NA + 2) H4 x := fun x hx => by
        rcases List.mem_append.mp hx with m | m
        · obtain ⟨w, hw, rfl⟩ := List.mem_map.mp m
          exact known_da hw
        · have st : ∀ {k : Nat} {w : Str}, w ∈ ([("Table" : Str), "", "tables", "none", "table", "2"] : List Str) → Da (k + 1) 10 (NA + 2) H4 (.str w) := fun {k w} hw => by
            have : ∀ w ∈ ([("Table" : Str), "", "tables", "none", "table", "2"] : List Str), (w.cps.toList.all fun c => decide (c < 1114112)) = true ∧ w.cps.size ≤ 10 := by decide +kernel
            exact .str (this w hw).1 (this w hw).2
          subst ez
          simp only [List.mem_cons, List.not_mem_nil, or_false] at m
          rcases m with rfl | rfl | rfl | rfl | rfl | rfl | rfl | rfl | rfl
          · exact (st (by simp)).up (Nat.le_refl _) (by decide)
          · exact (st (by simp)).up (Nat.le_refl _) (by decide)
          · exact (st (by simp)).up (Nat.le_refl _) (by decide)
          · exact (st (by simp)).up (Nat.le_refl _) (by decide)
          · exact .non
          · exact .int (by decide) (by decide)
          · exact (Da.lst (k := 1) (w := 11) (Das.cons (w2 := 0) (st (by simp)) .nil (Nat.le_refl _)) e0 l3).up (by decide) (by decide)
          · exact (Da.tup (k := 1) (w := 11) (Das.cons (w2 := 0) (st (by simp)) .nil (Nat.le_refl _))).up (by decide) (by decide)
          · exact .bl _
      have zl : zs.length = 9 := by rw [← ez]; rfl
      clear ez
      have loz : PV.lowrs (H4.length + 1) zs = true := lowrs_iff.mpr fun x hx => lowr_mono (Nat.le_succ _) _ (daz x (List.mem_append_right _ hx)).low
      have loz2 : PV.lowrs (H4.length + 2) (knownL.map PV.str ++ zs) = true := lowrs_iff.mpr fun x hx => lowr_mono (by omega) _ (daz x hx).low
      have D5 : Dk 2 4 (H4 ++ [MO.lst zs]) := D4.push (o := .lst _) loz
      have D6 : Dk 2 4 (H4 ++ [MO.lst zs] ++ [MO.lst (knownL.map PV.str ++ zs)]) := D5.push (o := .lst _) (by rw [List.length_append]; exact loz2)
      have aN5 : (H4 ++ [MO.lst zs])[NA]? = some (.lst (knownL.map PV.str)) := by rw [List.getElem?_append_left (by omega)]; exact aN4
      have e5 := get_last H4 (.lst zs)
      have e6 := get_last (H4 ++ [MO.lst zs]) (.lst (knownL.map PV.str ++ zs))
      have K6 : Kp (NA + 2) H4 (NA + 2) (H4 ++ [MO.lst zs] ++ [MO.lst (knownL.map PV.str ++ zs)]) := Kp.trans .push .push
      have aN6 : (H4 ++ [MO.lst zs] ++ [MO.lst (knownL.map PV.str ++ zs)])[NA]? = some (.lst (knownL.map PV.str)) := by rw [List.getElem?_append_left (by rw [List.length_append]; omega)]; exact aN5
      have aP6 : (H4 ++ [MO.lst zs] ++ [MO.lst (knownL.map PV.str ++ zs)])[NA + 1]? = some (.lst (L.map pairP)) := by rw [List.getElem?_append_left (by rw [List.length_append]; omega), List.getElem?_append_left (by omega)]; exact aP4
      have n6 : (H4 ++ [MO.lst zs] ++ [MO.lst (knownL.map PV.str ++ zs)]).length = H4.length + 2 := by simp
      have n5 : (H4 ++ [MO.lst zs]).length = H4.length + 1 := by simp
      simp -dsimp -implicitDefEqProofs only [dnev_16, dnif_1, dnw_3, aN5, e5]
      refine ⟨by rw [List.length_map, zl]; decide, ?_⟩
      generalize H4 ++ [MO.lst zs] ++ [MO.lst (knownL.map PV.str ++ zs)] = H6 at D6 e6 K6 aN6 aP6 n6 ⊢
      rw [n5] at e6 ⊢
      refine pick_w D6 e6 (by omega) (by omega) (by simp [knownL]) (by rw [List.length_append, List.length_map, zl]; decide) fun v H7 hv D7 L7 => ?_
      have a7 : Da 6 anyD (NA + 2) H7 v := ((daz v hv).kp K6).kp (L7.ov.kp (by omega) (by omega))
      have o7 := L7.ov
      have l7 := o7.len
      have aN7 : H7[NA]? = some (.lst (knownL.map PV.str)) := by rw [o7.at_ _ (by omega) (by omega) (by omega)]; exact aN6
      have aP7 : H7[NA + 1]? = some (.lst (L.map pairP)) := by rw [o7.at_ _ (by omega) (by omega) (by omega)]; exact aP6
      have S7 : Prs (NA + 2) (36 + i) L H7 := S3.kp (((K4.trans K6)).trans (o7.kp (by omega) (by omega)))
      have le7 : NA + 2 ≤ H7.length := by omega
      clear e0 e5 e6 aN6 aP6 aN5 aN4 aP4
      rw [wS_nx]
      refine hold ?_
      refine asg_w (fun v2 H8 => Dk 2 4 H8 ∧ Ov 2 4 H7 H8 ∧ Da 6 anyD (NA + 2) H8 v2) (by
        refine anyE_w (k := 4) (v := v) ?_ ?_ D7 (by omega) a7 fun v2 H8 D8 O8 a8 => ⟨D8, O8, a8⟩
        · rfl
        · rfl) fun v2 H8 ⟨D8, O8, a8⟩ => ?_
      have l8 := O8.len
      have aN8 : H8[NA]? = some (.lst (knownL.map PV.str)) := by rw [O8.at_ _ (by omega) (by omega) (by omega)]; exact aN7
      have aP8 : H8[NA + 1]? = some (.lst (L.map pairP)) := by rw [O8.at_ _ (by omega) (by omega) (by omega)]; exact aP7
      have S8 : Prs (NA + 2) (36 + i) L H8 := S7.kp (O8.kp (by omega) (by omega))
      clear aN7 aP7 S7
      have c8 := D8.cl
      have e0 := get_last H8 (.lst [PV.int 2])
      have D9 : Dk 2 4 (H8 ++ [MO.lst [PV.int 2]]) := D8.push (o := .lst _) rfl
      have K9 : Kp (NA + 2) H8 (NA + 2) (H8 ++ [MO.lst [PV.int 2]]) := .push
      have aN9 : (H8 ++ [MO.lst [PV.int 2]])[NA]? = some (.lst (knownL.map PV.str)) := by rw [List.getElem?_append_left (by omega)]; exact aN8
      have aP9 : (H8 ++ [MO.lst [PV.int 2]])[NA + 1]? = some (.lst (L.map pairP)) := by rw [List.getElem?_append_left (by omega)]; exact aP8
      have n9 : (H8 ++ [MO.lst [PV.int 2]]).length = H8.length + 1 := by simp
      have pw : ∀ H : PH, opPow (.int 10) (.int 18) H = some (.int (10 ^ 18), H) := fun H => by first | rfl | (unfold opPow; rfl)
      refine seq_h ?_
      simp -dsimp -implicitDefEqProofs only [dnev_16, dnif_1, dnw_3, pw]
      generalize H8 ++ [MO.lst [PV.int 2]] = H9 at e0 D9 K9 aN9 aP9 n9 ⊢
      refine ⟨by simp, ?_⟩
      generalize ez : [PV.int 2, .int 5, .int 1, .int 6, .int 0, .int (-2), .int (10 ^ 18), .bl true, .non, .str "2", .ref H8.length, .tup [.int 2]] = zs
      have daz : ∀ x ∈ zs, Da 6 anyD (NA + 2) H9 x := fun x m => by
        subst ez
        simp only [List.mem_cons, List.not_mem_nil, or_false] at m
        rcases m with rfl | rfl | rfl | rfl | rfl | rfl | rfl | rfl | rfl | rfl | rfl | rfl
        · exact .int (by decide) (by decide)
        · exact .int (by decide) (by decide)
        · exact .int (by decide) (by decide)
        · exact .int (by decide) (by decide)
        · exact .int (by decide) (by decide)
        · exact .int (by decide) (by decide)
        · exact .int (by decide) (by decide)
        · exact .bl _
        · exact .non
        · exact .str (by decide +kernel) (by decide +kernel)
        · exact (Da.lst (k := 1) (w := 71) (Das.cons (w1 := 70) (w2 := 0) (Da.int (by decide) (by decide)) .nil (Nat.le_refl _)) e0 (by omega)).up (by decide) (by decide)
        · exact (Da.tup (k := 1) (w := 71) (Das.cons (w1 := 70) (w2 := 0) (Da.int (by decide) (by decide)) .nil (Nat.le_refl _))).up (by decide) (by decide)
      have zl : zs.length = 12 := by rw [← ez]; rfl
      have zn : zs ≠ [] := by intro e; rw [e] at zl; cases zl
      clear ez
      have loz : PV.lowrs (H9.length + 1) zs = true := lowrs_iff.mpr fun x hx => lowr_mono (Nat.le_succ _) _ (daz x hx).low
      have D10 : Dk 2 4 (H9 ++ [MO.lst zs]) := D9.push (o := .lst _) loz
      have e10 := get_last H9 (.lst zs)
      have K10 : Kp (NA + 2) H9 (NA + 2) (H9 ++ [MO.lst zs]) := .push
      have aN10 : (H9 ++ [MO.lst zs])[NA]? = some (.lst (knownL.map PV.str)) := by rw [List.getElem?_append_left (by omega)]; exact aN9
      have aP10 : (H9 ++ [MO.lst zs])[NA + 1]? = some (.lst (L.map pairP)) := by rw [List.getElem?_append_left (by omega)]; exact aP9
      have n10 : (H9 ++ [MO.lst zs]).length = H9.length + 1 := by simp
      generalize H9 ++ [MO.lst zs] = H10 at D10 e10 K10 aN10 aP10 n10 ⊢
      refine pick_w D10 e10 (by omega) (by omega) zn (by rw [zl]; decide) fun u H11 hu D11 L11 => ?_
      have o11 := L11.ov
      have l11 := o11.len
      have a11 : Da 6 anyD (NA + 2) H11 u := ((daz u hu).kp K10).kp (o11.kp (by omega) (by omega))
      have aN11 : H11[NA]? = some (.lst (knownL.map PV.str)) := by rw [o11.at_ _ (by omega) (by omega) (by omega)]; exact aN10
      have aP11 : H11[NA + 1]? = some (.lst (L.map pairP)) := by rw [o11.at_ _ (by omega) (by omega) (by omega)]; exact aP10
      have K11 : Kp (NA + 2) H8 (NA + 2) H11 := (K9.trans K10).trans (o11.kp (by omega) (by omega))
      have S11 : Prs (NA + 2) (36 + i) L H11 := S8.kp K11
      have b11 : Da 6 anyD (NA + 2) H11 v2 := a8.kp K11
      have le11 : NA + 2 ≤ H11.length := by omega
      clear e0 e10 aN10 aP10 aN9 aP9 aN8 aP8 S8 K9 K10
      rw [wS_nx]
      refine hold ?_
      have i14 : i < 14 := by assumption
      have few := S11.few
      have fin : ∀ w H12, Dk 2 4 H12 → Ov 2 4 H11 H12 → Da 6 anyD (NA + 2) H12 w → H12[NA + 1]? = some (.lst (L.map pairP)) ∧ (L.map pairP).length < 16777216 ∧
          Dk 2 4 (H12.set (NA + 1) (.lst (L.map pairP ++ [.tup [v2, w]]))) ∧ NA + 2 ≤ (H12.set (NA + 1) (.lst (L.map pairP ++ [.tup [v2, w]]))).length ∧ Prs (NA + 2) (36 + (i + 1)) (L ++ [(v2, w)]) (H12.set (NA + 1) (.lst (L.map pairP ++ [.tup [v2, w]]))) ∧
          (H12.set (NA + 1) (.lst (L.map pairP ++ [.tup [v2, w]])))[NA]? = some (.lst (knownL.map PV.str)) ∧ (H12.set (NA + 1) (.lst (L.map pairP ++ [.tup [v2, w]])))[NA + 1]? = some (.lst ((L ++ [(v2, w)]).map pairP)) := fun w H12 D12 O12 a12 => by
        have l12 := O12.len
        have k12 : Kp (NA + 2) H11 (NA + 2) H12 := O12.kp (by omega) (by omega)
        have em : L.map pairP ++ [.tup [v2, w]] = (L ++ [(v2, w)]).map pairP := by rw [List.map_append]; rfl
        have R12 : Prs (NA + 2) 1 [(v2, w)] H12 := ⟨Nat.le_refl _, fun p hp => by rw [List.mem_singleton.mp hp]; exact ⟨b11.kp k12, a12⟩⟩
        have S12 := (S11.kp k12).app R12
        rw [em]
        refine ⟨by rw [O12.at_ _ (by omega) (by omega) (by omega)]; exact aP11, by rw [List.length_map]; omega, D12.setL (by omega) (by omega) S12.low, by rw [List.length_set]; omega, ?_, ?_, List.getElem?_set_self (by omega)⟩
        · exact S12.kp (.set (by omega))
        · rw [List.getElem?_set_ne (by omega), O12.at_ _ (by omega) (by omega) (by omega)]
          exact aN11
      simp -dsimp -implicitDefEqProofs only [dnev_16, dnif_1, dnw_3, aP11]
      refine draw_w D11 (by decide) fun q H12 D12 L12 _ _ _ => ?_
      simp -dsimp -implicitDefEqProofs only [dnev_16, dnw_3]
      have l12 := L12.ov.len
      refine ⟨fun e => ?_, fun e => ?_⟩
      · refine any_w 8 D12 (by decide) fun w H13 D13 O13 a13 => ?_
        obtain ⟨f1, f2, f3⟩ := fin w H13 D13 (L12.ov.trans O13) ((a13.kp (Kp.less (by omega))).up (by decide) (by decide))
        simp -dsimp -implicitDefEqProofs only [dnev_16, dnif_1, dnw_3, f1]
        exact ⟨f2, _, _, _, _, rfl, f3⟩
      · obtain ⟨f1, f2, f3⟩ := fin u H12 D12 L12.ov (a11.kp (L12.ov.kp (by omega) (by omega)))
        simp -dsimp -implicitDefEqProofs only [dnev_16, dnif_1, dnw_3, f1]
        exact ⟨f2, _, _, _, _, rfl, f3⟩
    · subst esl
      have S3 : Prs (NA + 2) 50 L H := S3
      refine hold (seq_h ?_)
      simp -dsimp -implicitDefEqProofs only [dnev_16, dnif_1, dnw_3, aP3]
      refine for_ww (fun i sl H => ∃ x4 x5 x6 x7 x8 x9 x10, sl = [some (.fz (ns.map PV.int)), some (.ref 2), some (.ref NA), some (.ref (NA + 1)), x4, x5, x6, x7, x8, x9, x10] ∧ Dk 2 4 H ∧ NA + 2 ≤ H.length ∧ Prs (NA + 2) 50 L H ∧ H[NA]? = some (.lst (knownL.map PV.str)) ∧ H[NA + 1]? = some (.lst (L.map pairP)))
        ⟨x4, x5, x6, _, _, _, _, rfl, D3, l3, S3, aN3, aP3⟩ (fun i s h ⟨_, _, _, _, _, _, _, _, _, _, _, _, aP⟩ => by
          unfold okG
          simp only [List.all_cons, List.all_nil, Bool.and_true]
          exact decide_eq_true aP) (fun i x hx sl H ⟨x4, x5, x6, x7, x8, x9, x10, esl, D4, l4, S4, aN4, aP4⟩ => ?_) fun sl H ⟨x4, x5, x6, x7, x8, x9, x10, esl, D4, l4, S4, aN4, aP4⟩ => ?_
      · subst esl
        obtain ⟨li, rfl⟩ := enum_at hx
        obtain ⟨v, w, ep, mp⟩ : ∃ v w, (L.map pairP)[i] = .tup [v, w] ∧ (v, w) ∈ L := ⟨(L[i]'(by simpa using li)).1, (L[i]'(by simpa using li)).2, by simp, List.getElem_mem _⟩
        rw [ep]
        have av := (S4.all _ mp).1
        have aw := (S4.all _ mp).2
        dsimp only at av aw
        have c4 := D4.cl
        obtain ⟨k, P, pP, isk, due, hrd⟩ := due7 (da_kind av) aw.ty aN4 c4
        have pa : Da 16 140000 (NA + 2) H (.tup [v, w]) := (Da.tup (Das.cons (w := 40000) av (Das.cons (w := 20000) aw (w2 := 0) .nil (by decide)) (by decide))).up (by decide) (by decide)
        obtain ⟨z, rep⟩ := repr1 pa
        have r4 := rep H (Kp.less (Nat.le_refl _))
        refine ⟨_, rfl, ?_⟩
        refine seq_h ?_
        simp -dsimp -implicitDefEqProofs only [dnev_16, dnif_1, dnw_3]
        refine hold (asg_w (fun y h' => y = .bl k ∧ h' = H) ?_ fun y h' ⟨ey, eh⟩ => ?_)
        · refine Eq.mpr (congrArg (fun o => wO o _) (isk _ _ _ _ _ _ _ _)) ?_
          rw [wO_ok]
          exact ⟨rfl, rfl⟩
        subst ey eh
        refine seq_h ?_
        have pr : wS (sPar 9 10 (eCons dueE (eCons (eCall fRepr (eCons (eVar 7) eNil)) eNil)) [some (.fz (ns.map PV.int)), some (.ref 2), some (.ref NA), some (.ref (NA + 1)), some v, some (.int (i : Nat)), some w, some (.tup [v, w]), some (.bl k), x9, x10] h') (fun s H => s = [some (.fz (ns.map PV.int)), some (.ref 2), some (.ref NA), some (.ref (NA + 1)), some v, some (.int (i : Nat)), some w, some (.tup [v, w]), some (.bl k), some P, some (.str z)] ∧ H = h') (fun _ _ => False) := by
          rcases due with ⟨rfl, x, rfl, lk⟩ | ⟨rfl, rfl⟩
          · simp -dsimp -implicitDefEqProofs only [dnev_16, dnif_1, dnw_3, lk, r4]
            all_goals trivial
          · simp -dsimp -implicitDefEqProofs only [dnev_16, dnif_1, dnw_3, r4]
            all_goals trivial
        refine wS_mono pr (fun s H ⟨es, eH⟩ => ?_) fun _ _ q => q.elim
        subst es
        subst eH
        have hd : ∀ b H2, Dk 2 4 H2 → Ov 2 4 H H2 → m__law_heard [v, w, .bl b] H2 = .ok P H2 := fun b H2 D2 O2 => by
          have av2 := av.kp (O2.kp (show 2 < NA + 2 by omega) (show 4 < NA + 2 by omega))
          have aw2 := aw.kp (O2.kp (show 2 < NA + 2 by omega) (show 4 < NA + 2 by omega))
          refine hrd b H2 D2.cl (fun nt => ?_) aw2.ty
          rcases da_kind av2 with ⟨y, rfl⟩ | q
          · exact (not_notext nt).elim
          · exact q
        have sP : ∀ H, m__law_same 8 [P, P] H = .ok (.bl true) H := fun H => pP.same (by decide)
        refine hold (seq_h ?_)
        simp -dsimp -implicitDefEqProofs only [dnev_16, dnif_1, dnw_3]
        refine draw_w D4 (by decide) fun q H5 D5 L5 _ _ _ => ?_
        have o5 := L5.ov
        have l5 := o5.len
        have hd5 := fun b => hd b H5 D5 o5
        have aN5 : H5[NA]? = some (.lst (knownL.map PV.str)) := by rw [o5.at_ _ (by omega) (by omega) (by omega)]; exact aN4
        have aP5 : H5[NA + 1]? = some (.lst (L.map pairP)) := by rw [o5.at_ _ (by omega) (by omega) (by omega)]; exact aP4
        have K5 : Kp (NA + 2) H (NA + 2) H5 := o5.kp (by omega) (by omega)
        have r5 := rep H5 K5
        simp -dsimp -implicitDefEqProofs only [dnev_16, dnif_1, dnw_3, hd5, sP, Bool.not_true]
        refine hold ?_
        simp -dsimp -implicitDefEqProofs only [dnev_16, dnif_1, dnw_3, hd5, sP, r5, decide_true, Bool.not_true]
        exact ⟨_, _, _, _, _, _, _, rfl, D5, by omega, S4.kp K5, aN5, aP5⟩
      · subst esl
        refine hold ?_
        have k4 := kn H D4.cl
        simp -dsimp -implicitDefEqProofs only [dnev_16, dnif_1, dnw_3, k4, aN4, sk]
        exact law_end D4
theorem law_true (ns : List Int) (len : ns.length ≤ 63) : ∃ h', m_law [.fz (ns.map PV.int)] [] = .ok (.bl true) h' := by
  obtain ⟨v, h, e, rfl⟩ := wO_ex.mp (law_w ns len)
  exact ⟨h, e⟩
end Dn
namespace Dn
open PySem PySem.Spec PyProof.Rows L2 PySem.SeqAt GxR
theorem defP_of {K : PySem.W.Frag} {h : Heap} {mg : Str → Option Value} {x : Str} {st : Stmt} {f : Addr} {c1 : Value} {o1 o2 : Option Addr} {sl : Array (Option Value)} {c2 c3 c4 c5 c6 : Value} {ps : List Str} {c : Option Addr} {kws : Kws} (X : K.In h) (G : h.Ns mainGlobals mg)
    (a : PySem.W.nsIn K mainGlobals x = some (some (.ref f))) (look : K.lookup f = some ⟨c1, o1, .func (PySem.W.fnOf x x (defArgs st) (defBody st) (defScope st) .none c2 c3 c4 o2 c5 c6), sl⟩) (code : PySem.W.codeIn K c5 x = true) (keep : PySem.W.keepIn K (.ref f) = true)
    (bind : ∀ (kV doc pm : Value) (an : Option Addr) (cdv ct : Value) (us : List Value), us.length = ps.length → bindArgs (PySem.W.fnOf x x (defArgs st) (defBody st) (defScope st) .none kV doc pm an cdv ct) ⟨us, []⟩ = pure (ps.zip us))
    (hc : ∀ a, c = some a → c5 = .ref a) (kw : KwOk K (PySem.W.fnOf x x (defArgs st) (defBody st) (defScope st) .none c2 c3 c4 o2 c5 c6) ps kws) : DefP K mg x st ps c kws :=
  ⟨_, _, fun_mk look code keep, PySem.W.mg_of X G a, (fun_mk look code keep).binds bind, hc, kw⟩

theorem dp_1 {K : PySem.W.Frag} {h : Heap} {mg : Str → Option Value} {f : Addr} {oc kV dc pm ct cd : Value} {od an : Option Addr} {sl : Array (Option Value)} (X : K.In h) (G : h.Ns mainGlobals mg)
    (a : PySem.W.nsIn K mainGlobals "is_integer" = some (some (.ref f))) (l : K.lookup f = some ⟨oc, od, .func (PySem.W.fnOf "is_integer" "is_integer" (defArgs s_is_integer) (defBody s_is_integer) (defScope s_is_integer) .none kV dc pm an cd ct), sl⟩) (c : PySem.W.codeIn K cd "is_integer" = true) (k : PySem.W.keepIn K (.ref f) = true) : DefP K mg "is_integer" s_is_integer ["value"] none [] :=
  defP_of X G a l c k (fun _ _ _ _ _ _ us hl => match us, hl with | [_], _ => rfl) (fun a e => nomatch e) (fun kp hk => nomatch hk)
theorem dp_2 {K : PySem.W.Frag} {h : Heap} {mg : Str → Option Value} {f : Addr} {oc kV dc pm ct cd : Value} {od an : Option Addr} {sl : Array (Option Value)} (X : K.In h) (G : h.Ns mainGlobals mg)
    (a : PySem.W.nsIn K mainGlobals "nested_way" = some (some (.ref f))) (l : K.lookup f = some ⟨oc, od, .func (PySem.W.fnOf "nested_way" "nested_way" (defArgs s_nested_way) (defBody s_nested_way) (defScope s_nested_way) .none kV dc pm an cd ct), sl⟩) (c : PySem.W.codeIn K cd "nested_way" = true) (k : PySem.W.keepIn K (.ref f) = true) : DefP K mg "nested_way" s_nested_way ["rooms"] none [] :=
  defP_of X G a l c k (fun _ _ _ _ _ _ us hl => match us, hl with | [_], _ => rfl) (fun a e => nomatch e) (fun kp hk => nomatch hk)
theorem dp_3 {K : PySem.W.Frag} {h : Heap} {mg : Str → Option Value} {f : Addr} {oc kV dc pm ct : Value} {od an : Option Addr} {sl : Array (Option Value)} {cE : Addr} (X : K.In h) (G : h.Ns mainGlobals mg)
    (a : PySem.W.nsIn K mainGlobals "table_house" = some (some (.ref f))) (l : K.lookup f = some ⟨oc, od, .func (PySem.W.fnOf "table_house" "table_house" (defArgs s_table_house) (defBody s_table_house) (defScope s_table_house) .none kV dc pm an (.ref cE) ct), sl⟩) (c : PySem.W.codeIn K (.ref cE) "table_house" = true) (k : PySem.W.keepIn K (.ref f) = true) : DefP K mg "table_house" s_table_house ["many"] (some cE) [] :=
  defP_of X G a l c k (fun _ _ _ _ _ _ us hl => match us, hl with | [_], _ => rfl) (fun a e => by cases e; rfl) (fun kp hk => nomatch hk)
theorem dp_4 {K : PySem.W.Frag} {h : Heap} {mg : Str → Option Value} {f : Addr} {oc kV dc pm ct cd : Value} {od an : Option Addr} {sl : Array (Option Value)} (X : K.In h) (G : h.Ns mainGlobals mg)
    (a : PySem.W.nsIn K mainGlobals "handed_house" = some (some (.ref f))) (l : K.lookup f = some ⟨oc, od, .func (PySem.W.fnOf "handed_house" "handed_house" (defArgs s_handed_house) (defBody s_handed_house) (defScope s_handed_house) .none kV dc pm an cd ct), sl⟩) (c : PySem.W.codeIn K cd "handed_house" = true) (k : PySem.W.keepIn K (.ref f) = true) : DefP K mg "handed_house" s_handed_house ["many"] none [] :=
  defP_of X G a l c k (fun _ _ _ _ _ _ us hl => match us, hl with | [_], _ => rfl) (fun a e => nomatch e) (fun kp hk => nomatch hk)
theorem dp_5 {K : PySem.W.Frag} {h : Heap} {mg : Str → Option Value} {f : Addr} {oc kV dc pm ct : Value} {od an : Option Addr} {sl : Array (Option Value)} {cE : Addr} (X : K.In h) (G : h.Ns mainGlobals mg)
    (a : PySem.W.nsIn K mainGlobals "gated_house" = some (some (.ref f))) (l : K.lookup f = some ⟨oc, od, .func (PySem.W.fnOf "gated_house" "gated_house" (defArgs s_gated_house) (defBody s_gated_house) (defScope s_gated_house) .none kV dc pm an (.ref cE) ct), sl⟩) (c : PySem.W.codeIn K (.ref cE) "gated_house" = true) (k : PySem.W.keepIn K (.ref f) = true) : DefP K mg "gated_house" s_gated_house ["many"] (some cE) [] :=
  defP_of X G a l c k (fun _ _ _ _ _ _ us hl => match us, hl with | [_], _ => rfl) (fun a e => by cases e; rfl) (fun kp hk => nomatch hk)
theorem dp_6 {K : PySem.W.Frag} {h : Heap} {mg : Str → Option Value} {f : Addr} {oc kV dc pm ct cd : Value} {od an : Option Addr} {sl : Array (Option Value)} (X : K.In h) (G : h.Ns mainGlobals mg)
    (a : PySem.W.nsIn K mainGlobals "row_house" = some (some (.ref f))) (l : K.lookup f = some ⟨oc, od, .func (PySem.W.fnOf "row_house" "row_house" (defArgs s_row_house) (defBody s_row_house) (defScope s_row_house) .none kV dc pm an cd ct), sl⟩) (c : PySem.W.codeIn K cd "row_house" = true) (k : PySem.W.keepIn K (.ref f) = true) : DefP K mg "row_house" s_row_house ["many"] none [] :=
  defP_of X G a l c k (fun _ _ _ _ _ _ us hl => match us, hl with | [_], _ => rfl) (fun a e => nomatch e) (fun kp hk => nomatch hk)
theorem dp_7 {K : PySem.W.Frag} {h : Heap} {mg : Str → Option Value} {f : Addr} {oc kV dc pm ct : Value} {od an : Option Addr} {sl : Array (Option Value)} {cE : Addr} (X : K.In h) (G : h.Ns mainGlobals mg)
    (a : PySem.W.nsIn K mainGlobals "crossed_house" = some (some (.ref f))) (l : K.lookup f = some ⟨oc, od, .func (PySem.W.fnOf "crossed_house" "crossed_house" (defArgs s_crossed_house) (defBody s_crossed_house) (defScope s_crossed_house) .none kV dc pm an (.ref cE) ct), sl⟩) (c : PySem.W.codeIn K (.ref cE) "crossed_house" = true) (k : PySem.W.keepIn K (.ref f) = true) : DefP K mg "crossed_house" s_crossed_house ["many"] (some cE) [] :=
  defP_of X G a l c k (fun _ _ _ _ _ _ us hl => match us, hl with | [_], _ => rfl) (fun a e => by cases e; rfl) (fun kp hk => nomatch hk)
theorem dp_8 {K : PySem.W.Frag} {h : Heap} {mg : Str → Option Value} {f : Addr} {oc kV dc pm ct cd : Value} {od an : Option Addr} {sl : Array (Option Value)} (X : K.In h) (G : h.Ns mainGlobals mg)
    (a : PySem.W.nsIn K mainGlobals "row_of_words" = some (some (.ref f))) (l : K.lookup f = some ⟨oc, od, .func (PySem.W.fnOf "row_of_words" "row_of_words" (defArgs s_row_of_words) (defBody s_row_of_words) (defScope s_row_of_words) .none kV dc pm an cd ct), sl⟩) (c : PySem.W.codeIn K cd "row_of_words" = true) (k : PySem.W.keepIn K (.ref f) = true) : DefP K mg "row_of_words" s_row_of_words ["many", "hand", "to_lesser", "to_greater"] none [] :=
  defP_of X G a l c k (fun _ _ _ _ _ _ us hl => match us, hl with | [_, _, _, _], _ => rfl) (fun a e => nomatch e) (fun kp hk => nomatch hk)
theorem dp_9 {K : PySem.W.Frag} {h : Heap} {mg : Str → Option Value} {f : Addr} {oc kV dc pm ct : Value} {od an : Option Addr} {sl : Array (Option Value)} {cE : Addr} (X : K.In h) (G : h.Ns mainGlobals mg)
    (a : PySem.W.nsIn K mainGlobals "others" = some (some (.ref f))) (l : K.lookup f = some ⟨oc, od, .func (PySem.W.fnOf "others" "others" (defArgs s_others) (defBody s_others) (defScope s_others) .none kV dc pm an (.ref cE) ct), sl⟩) (c : PySem.W.codeIn K (.ref cE) "others" = true) (k : PySem.W.keepIn K (.ref f) = true) : DefP K mg "others" s_others ["many", "hand"] (some cE) [] :=
  defP_of X G a l c k (fun _ _ _ _ _ _ us hl => match us, hl with | [_, _], _ => rfl) (fun a e => by cases e; rfl) (fun kp hk => nomatch hk)
theorem dp_10 {K : PySem.W.Frag} {h : Heap} {mg : Str → Option Value} {f : Addr} {oc kV dc pm ct : Value} {od an : Option Addr} {sl : Array (Option Value)} {cE : Addr} (X : K.In h) (G : h.Ns mainGlobals mg)
    (a : PySem.W.nsIn K mainGlobals "door_house" = some (some (.ref f))) (l : K.lookup f = some ⟨oc, od, .func (PySem.W.fnOf "door_house" "door_house" (defArgs s_door_house) (defBody s_door_house) (defScope s_door_house) .none kV dc pm an (.ref cE) ct), sl⟩) (c : PySem.W.codeIn K (.ref cE) "door_house" = true) (k : PySem.W.keepIn K (.ref f) = true) : DefP K mg "door_house" s_door_house ["many", "to_lesser", "to_greater"] (some cE) [] :=
  defP_of X G a l c k (fun _ _ _ _ _ _ us hl => match us, hl with | [_, _, _], _ => rfl) (fun a e => by cases e; rfl) (fun kp hk => nomatch hk)
theorem dp_11 {K : PySem.W.Frag} {h : Heap} {mg : Str → Option Value} {f : Addr} {oc kV dc pm ct cd : Value} {od an : Option Addr} {sl : Array (Option Value)} (X : K.In h) (G : h.Ns mainGlobals mg)
    (a : PySem.W.nsIn K mainGlobals "ranked_house" = some (some (.ref f))) (l : K.lookup f = some ⟨oc, od, .func (PySem.W.fnOf "ranked_house" "ranked_house" (defArgs s_ranked_house) (defBody s_ranked_house) (defScope s_ranked_house) .none kV dc pm an cd ct), sl⟩) (c : PySem.W.codeIn K cd "ranked_house" = true) (k : PySem.W.keepIn K (.ref f) = true) : DefP K mg "ranked_house" s_ranked_house ["many"] none [] :=
  defP_of X G a l c k (fun _ _ _ _ _ _ us hl => match us, hl with | [_], _ => rfl) (fun a e => nomatch e) (fun kp hk => nomatch hk)
theorem dp_12 {K : PySem.W.Frag} {h : Heap} {mg : Str → Option Value} {f : Addr} {oc kV dc pm ct cd : Value} {od an : Option Addr} {sl : Array (Option Value)} (X : K.In h) (G : h.Ns mainGlobals mg)
    (a : PySem.W.nsIn K mainGlobals "level_house" = some (some (.ref f))) (l : K.lookup f = some ⟨oc, od, .func (PySem.W.fnOf "level_house" "level_house" (defArgs s_level_house) (defBody s_level_house) (defScope s_level_house) .none kV dc pm an cd ct), sl⟩) (c : PySem.W.codeIn K cd "level_house" = true) (k : PySem.W.keepIn K (.ref f) = true) : DefP K mg "level_house" s_level_house ["many"] none [] :=
  defP_of X G a l c k (fun _ _ _ _ _ _ us hl => match us, hl with | [_], _ => rfl) (fun a e => nomatch e) (fun kp hk => nomatch hk)
theorem dp_13 {K : PySem.W.Frag} {h : Heap} {mg : Str → Option Value} {f : Addr} {oc kV dc pm ct cd : Value} {od an : Option Addr} {sl : Array (Option Value)} (X : K.In h) (G : h.Ns mainGlobals mg)
    (a : PySem.W.nsIn K mainGlobals "meek_house" = some (some (.ref f))) (l : K.lookup f = some ⟨oc, od, .func (PySem.W.fnOf "meek_house" "meek_house" (defArgs s_meek_house) (defBody s_meek_house) (defScope s_meek_house) .none kV dc pm an cd ct), sl⟩) (c : PySem.W.codeIn K cd "meek_house" = true) (k : PySem.W.keepIn K (.ref f) = true) : DefP K mg "meek_house" s_meek_house ["many"] none [] :=
  defP_of X G a l c k (fun _ _ _ _ _ _ us hl => match us, hl with | [_], _ => rfl) (fun a e => nomatch e) (fun kp hk => nomatch hk)
theorem dp_14 {K : PySem.W.Frag} {h : Heap} {mg : Str → Option Value} {f : Addr} {oc kV dc pm ct cd : Value} {od an : Option Addr} {sl : Array (Option Value)} (X : K.In h) (G : h.Ns mainGlobals mg)
    (a : PySem.W.nsIn K mainGlobals "proud_house" = some (some (.ref f))) (l : K.lookup f = some ⟨oc, od, .func (PySem.W.fnOf "proud_house" "proud_house" (defArgs s_proud_house) (defBody s_proud_house) (defScope s_proud_house) .none kV dc pm an cd ct), sl⟩) (c : PySem.W.codeIn K cd "proud_house" = true) (k : PySem.W.keepIn K (.ref f) = true) : DefP K mg "proud_house" s_proud_house ["many"] none [] :=
  defP_of X G a l c k (fun _ _ _ _ _ _ us hl => match us, hl with | [_], _ => rfl) (fun a e => nomatch e) (fun kp hk => nomatch hk)
theorem dp_15 {K : PySem.W.Frag} {h : Heap} {mg : Str → Option Value} {f : Addr} {oc kV dc pm ct cd : Value} {od an : Option Addr} {sl : Array (Option Value)} (X : K.In h) (G : h.Ns mainGlobals mg)
    (a : PySem.W.nsIn K mainGlobals "known_names" = some (some (.ref f))) (l : K.lookup f = some ⟨oc, od, .func (PySem.W.fnOf "known_names" "known_names" (defArgs s_known_names) (defBody s_known_names) (defScope s_known_names) .none kV dc pm an cd ct), sl⟩) (c : PySem.W.codeIn K cd "known_names" = true) (k : PySem.W.keepIn K (.ref f) = true) : DefP K mg "known_names" s_known_names [] none [] :=
  defP_of X G a l c k (fun _ _ _ _ _ _ us hl => match us, hl with | [], _ => rfl) (fun a e => nomatch e) (fun kp hk => nomatch hk)
theorem dp_16 {K : PySem.W.Frag} {h : Heap} {mg : Str → Option Value} {f : Addr} {oc kV dc pm ct cd : Value} {od an : Option Addr} {sl : Array (Option Value)} (X : K.In h) (G : h.Ns mainGlobals mg)
    (a : PySem.W.nsIn K mainGlobals "known" = some (some (.ref f))) (l : K.lookup f = some ⟨oc, od, .func (PySem.W.fnOf "known" "known" (defArgs s_known) (defBody s_known) (defScope s_known) .none kV dc pm an cd ct), sl⟩) (c : PySem.W.codeIn K cd "known" = true) (k : PySem.W.keepIn K (.ref f) = true) : DefP K mg "known" s_known ["name", "many"] none [(["many", "name"], [1, 0])] :=
  defP_of X G a l c k (fun _ _ _ _ _ _ us hl => match us, hl with | [_, _], _ => rfl) (fun a e => nomatch e) (kwOk_of rfl rfl rfl rfl rfl rfl (by decide +kernel))
theorem dp_17 {K : PySem.W.Frag} {h : Heap} {mg : Str → Option Value} {f : Addr} {oc kV dc pm ct cd : Value} {od an : Option Addr} {sl : Array (Option Value)} (X : K.In h) (G : h.Ns mainGlobals mg)
    (a : PySem.W.nsIn K mainGlobals "_law_deck" = some (some (.ref f))) (l : K.lookup f = some ⟨oc, od, .func (PySem.W.fnOf "_law_deck" "_law_deck" (defArgs s__law_deck) (defBody s__law_deck) (defScope s__law_deck) .none kV dc pm an cd ct), sl⟩) (c : PySem.W.codeIn K cd "_law_deck" = true) (k : PySem.W.keepIn K (.ref f) = true) : DefP K mg "_law_deck" s__law_deck ["script"] none [] :=
  defP_of X G a l c k (fun _ _ _ _ _ _ us hl => match us, hl with | [_], _ => rfl) (fun a e => nomatch e) (fun kp hk => nomatch hk)
theorem dp_18 {K : PySem.W.Frag} {h : Heap} {mg : Str → Option Value} {f : Addr} {oc kV dc pm ct cd : Value} {od an : Option Addr} {sl : Array (Option Value)} (X : K.In h) (G : h.Ns mainGlobals mg)
    (a : PySem.W.nsIn K mainGlobals "_law_draw" = some (some (.ref f))) (l : K.lookup f = some ⟨oc, od, .func (PySem.W.fnOf "_law_draw" "_law_draw" (defArgs s__law_draw) (defBody s__law_draw) (defScope s__law_draw) .none kV dc pm an cd ct), sl⟩) (c : PySem.W.codeIn K cd "_law_draw" = true) (k : PySem.W.keepIn K (.ref f) = true) : DefP K mg "_law_draw" s__law_draw ["deck", "many"] none [] :=
  defP_of X G a l c k (fun _ _ _ _ _ _ us hl => match us, hl with | [_, _], _ => rfl) (fun a e => nomatch e) (fun kp hk => nomatch hk)
theorem dp_19 {K : PySem.W.Frag} {h : Heap} {mg : Str → Option Value} {f : Addr} {oc kV dc pm ct cd : Value} {od an : Option Addr} {sl : Array (Option Value)} (X : K.In h) (G : h.Ns mainGlobals mg)
    (a : PySem.W.nsIn K mainGlobals "_law_pick" = some (some (.ref f))) (l : K.lookup f = some ⟨oc, od, .func (PySem.W.fnOf "_law_pick" "_law_pick" (defArgs s__law_pick) (defBody s__law_pick) (defScope s__law_pick) .none kV dc pm an cd ct), sl⟩) (c : PySem.W.codeIn K cd "_law_pick" = true) (k : PySem.W.keepIn K (.ref f) = true) : DefP K mg "_law_pick" s__law_pick ["deck", "items"] none [] :=
  defP_of X G a l c k (fun _ _ _ _ _ _ us hl => match us, hl with | [_, _], _ => rfl) (fun a e => nomatch e) (fun kp hk => nomatch hk)
theorem dp_20 {K : PySem.W.Frag} {h : Heap} {mg : Str → Option Value} {f : Addr} {oc kV dc pm ct cd : Value} {od an : Option Addr} {sl : Array (Option Value)} (X : K.In h) (G : h.Ns mainGlobals mg)
    (a : PySem.W.nsIn K mainGlobals "_law_whole" = some (some (.ref f))) (l : K.lookup f = some ⟨oc, od, .func (PySem.W.fnOf "_law_whole" "_law_whole" (defArgs s__law_whole) (defBody s__law_whole) (defScope s__law_whole) .none kV dc pm an cd ct), sl⟩) (c : PySem.W.codeIn K cd "_law_whole" = true) (k : PySem.W.keepIn K (.ref f) = true) : DefP K mg "_law_whole" s__law_whole ["value", "least", "most"] none [] :=
  defP_of X G a l c k (fun _ _ _ _ _ _ us hl => match us, hl with | [_, _, _], _ => rfl) (fun a e => nomatch e) (fun kp hk => nomatch hk)
theorem dp_21 {K : PySem.W.Frag} {h : Heap} {mg : Str → Option Value} {f : Addr} {oc kV dc pm ct cd : Value} {od an : Option Addr} {sl : Array (Option Value)} (X : K.In h) (G : h.Ns mainGlobals mg)
    (a : PySem.W.nsIn K mainGlobals "_law_same" = some (some (.ref f))) (l : K.lookup f = some ⟨oc, od, .func (PySem.W.fnOf "_law_same" "_law_same" (defArgs s__law_same) (defBody s__law_same) (defScope s__law_same) .none kV dc pm an cd ct), sl⟩) (c : PySem.W.codeIn K cd "_law_same" = true) (k : PySem.W.keepIn K (.ref f) = true) : DefP K mg "_law_same" s__law_same ["found", "due"] none [] :=
  defP_of X G a l c k (fun _ _ _ _ _ _ us hl => match us, hl with | [_, _], _ => rfl) (fun a e => nomatch e) (fun kp hk => nomatch hk)
theorem dp_22 {K : PySem.W.Frag} {h : Heap} {mg : Str → Option Value} {f : Addr} {oc kV dc pm ct cd : Value} {od an : Option Addr} {sl : Array (Option Value)} (X : K.In h) (G : h.Ns mainGlobals mg)
    (a : PySem.W.nsIn K mainGlobals "_law_any" = some (some (.ref f))) (l : K.lookup f = some ⟨oc, od, .func (PySem.W.fnOf "_law_any" "_law_any" (defArgs s__law_any) (defBody s__law_any) (defScope s__law_any) .none kV dc pm an cd ct), sl⟩) (c : PySem.W.codeIn K cd "_law_any" = true) (k : PySem.W.keepIn K (.ref f) = true) : DefP K mg "_law_any" s__law_any ["deck", "deep"] none [] :=
  defP_of X G a l c k (fun _ _ _ _ _ _ us hl => match us, hl with | [_, _], _ => rfl) (fun a e => nomatch e) (fun kp hk => nomatch hk)
theorem dp_23 {K : PySem.W.Frag} {h : Heap} {mg : Str → Option Value} {f : Addr} {oc kV dc pm ct cd : Value} {od an : Option Addr} {sl : Array (Option Value)} (X : K.In h) (G : h.Ns mainGlobals mg)
    (a : PySem.W.nsIn K mainGlobals "_law_around" = some (some (.ref f))) (l : K.lookup f = some ⟨oc, od, .func (PySem.W.fnOf "_law_around" "_law_around" (defArgs s__law_around) (defBody s__law_around) (defScope s__law_around) .none kV dc pm an cd ct), sl⟩) (c : PySem.W.codeIn K cd "_law_around" = true) (k : PySem.W.keepIn K (.ref f) = true) : DefP K mg "_law_around" s__law_around ["one", "other"] none [] :=
  defP_of X G a l c k (fun _ _ _ _ _ _ us hl => match us, hl with | [_, _], _ => rfl) (fun a e => nomatch e) (fun kp hk => nomatch hk)
theorem dp_24 {K : PySem.W.Frag} {h : Heap} {mg : Str → Option Value} {f : Addr} {oc kV dc pm ct cd : Value} {od an : Option Addr} {sl : Array (Option Value)} (X : K.In h) (G : h.Ns mainGlobals mg)
    (a : PySem.W.nsIn K mainGlobals "_law_one_door" = some (some (.ref f))) (l : K.lookup f = some ⟨oc, od, .func (PySem.W.fnOf "_law_one_door" "_law_one_door" (defArgs s__law_one_door) (defBody s__law_one_door) (defScope s__law_one_door) .none kV dc pm an cd ct), sl⟩) (c : PySem.W.codeIn K cd "_law_one_door" = true) (k : PySem.W.keepIn K (.ref f) = true) : DefP K mg "_law_one_door" s__law_one_door ["name", "hands"] none [] :=
  defP_of X G a l c k (fun _ _ _ _ _ _ us hl => match us, hl with | [_, _], _ => rfl) (fun a e => nomatch e) (fun kp hk => nomatch hk)
theorem dp_25 {K : PySem.W.Frag} {h : Heap} {mg : Str → Option Value} {f : Addr} {oc kV dc pm ct cd : Value} {od an : Option Addr} {sl : Array (Option Value)} (X : K.In h) (G : h.Ns mainGlobals mg)
    (a : PySem.W.nsIn K mainGlobals "_law_known" = some (some (.ref f))) (l : K.lookup f = some ⟨oc, od, .func (PySem.W.fnOf "_law_known" "_law_known" (defArgs s__law_known) (defBody s__law_known) (defScope s__law_known) .none kV dc pm an cd ct), sl⟩) (c : PySem.W.codeIn K cd "_law_known" = true) (k : PySem.W.keepIn K (.ref f) = true) : DefP K mg "_law_known" s__law_known ["name", "hands"] none [] :=
  defP_of X G a l c k (fun _ _ _ _ _ _ us hl => match us, hl with | [_, _], _ => rfl) (fun a e => nomatch e) (fun kp hk => nomatch hk)
theorem dp_26 {K : PySem.W.Frag} {h : Heap} {mg : Str → Option Value} {f : Addr} {oc kV dc pm ct cd : Value} {od an : Option Addr} {sl : Array (Option Value)} (X : K.In h) (G : h.Ns mainGlobals mg)
    (a : PySem.W.nsIn K mainGlobals "_law_heard" = some (some (.ref f))) (l : K.lookup f = some ⟨oc, od, .func (PySem.W.fnOf "_law_heard" "_law_heard" (defArgs s__law_heard) (defBody s__law_heard) (defScope s__law_heard) .none kV dc pm an cd ct), sl⟩) (c : PySem.W.codeIn K cd "_law_heard" = true) (k : PySem.W.keepIn K (.ref f) = true) : DefP K mg "_law_heard" s__law_heard ["name", "many", "is_named"] none [] :=
  defP_of X G a l c k (fun _ _ _ _ _ _ us hl => match us, hl with | [_, _, _], _ => rfl) (fun a e => nomatch e) (fun kp hk => nomatch hk)
theorem dp_27 {K : PySem.W.Frag} {h : Heap} {mg : Str → Option Value} {f : Addr} {oc kV dc pm ct cd : Value} {od an : Option Addr} {sl : Array (Option Value)} (X : K.In h) (G : h.Ns mainGlobals mg)
    (a : PySem.W.nsIn K mainGlobals "law" = some (some (.ref f))) (l : K.lookup f = some ⟨oc, od, .func (PySem.W.fnOf "law" "law" (defArgs s_law) (defBody s_law) (defScope s_law) .none kV dc pm an cd ct), sl⟩) (c : PySem.W.codeIn K cd "law" = true) (k : PySem.W.keepIn K (.ref f) = true) : DefP K mg "law" s_law ["script"] none [] :=
  defP_of X G a l c k (fun _ _ _ _ _ _ us hl => match us, hl with | [_], _ => rfl) (fun a e => nomatch e) (fun kp hk => nomatch hk)
theorem all_mk {l : PySem.W.OpenLaw} {w : World} {K : PySem.W.Frag} {h : Heap} {mg : Str → Option Value} {fa : Addr} (X : K.In h) (G : h.Ns mainGlobals mg) (hfa : mg "law" = some (.ref fa))
    {f1 f2 f3 f4 f5 f6 f7 f8 f9 f10 f11 f12 f13 f14 f15 f16 f17 f18 f19 f20 f21 f22 f23 f24 f25 f26 f27 : Addr} {od1 an1 od2 an2 od3 an3 od4 an4 od5 an5 od6 an6 od7 an7 od8 an8 od9 an9 od10 an10 od11 an11 od12 an12 od13 an13 od14 an14 od15 an15 od16 an16 od17 an17 od18 an18 od19 an19 od20 an20 od21 an21 od22 an22 od23 an23 od24 an24 od25 an25 od26 an26 od27 an27 : Option Addr} {sl1 sl2 sl3 sl4 sl5 sl6 sl7 sl8 sl9 sl10 sl11 sl12 sl13 sl14 sl15 sl16 sl17 sl18 sl19 sl20 sl21 sl22 sl23 sl24 sl25 sl26 sl27 : Array (Option Value)} {oc1 kV1 dc1 pm1 cd1 ct1 oc2 kV2 dc2 pm2 cd2 ct2 oc3 kV3 dc3 pm3 ct3 oc4 kV4 dc4 pm4 cd4 ct4 oc5 kV5 dc5 pm5 ct5 oc6 kV6 dc6 pm6 cd6 ct6 oc7 kV7 dc7 pm7 ct7 oc8 kV8 dc8 pm8 cd8 ct8 oc9 kV9 dc9 pm9 ct9 oc10 kV10 dc10 pm10 ct10 oc11 kV11 dc11 pm11 cd11 ct11 oc12 kV12 dc12 pm12 cd12 ct12 oc13 kV13 dc13 pm13 cd13 ct13 oc14 kV14 dc14 pm14 cd14 ct14 oc15 kV15 dc15 pm15 cd15 ct15 oc16 kV16 dc16 pm16 cd16 ct16 oc17 kV17 dc17 pm17 cd17 ct17 oc18 kV18 dc18 pm18 cd18 ct18 oc19 kV19 dc19 pm19 cd19 ct19 oc20 kV20 dc20 pm20 cd20 ct20 oc21 kV21 dc21 pm21 cd21 ct21 oc22 kV22 dc22 pm22 cd22 ct22 oc23 kV23 dc23 pm23 cd23 ct23 oc24 kV24 dc24 pm24 cd24 ct24 oc25 kV25 dc25 pm25 cd25 ct25 oc26 kV26 dc26 pm26 cd26 ct26 oc27 kV27 dc27 pm27 cd27 ct27 : Value}
    {cE3 tE3 cE5 tE5 cE7 tE7 cE9 tE9 cE10 tE10 : Addr} {dE3 dE5 dE7 dE9 dE10 : Option Addr} {slE3 slE5 slE7 slE9 slE10 : Array (Option Value)} {eE3 eE5 eE7 eE9 eE10 : Value} {vsE3 vsE5 vsE7 vsE9 vsE10 : Array Value}
    {tk_MAX_HANDS : Nat}
    (a1 : PySem.W.nsIn K mainGlobals "is_integer" = some (some (.ref f1))) (l1 : K.lookup f1 = some ⟨oc1, od1, .func (PySem.W.fnOf "is_integer" "is_integer" (defArgs s_is_integer) (defBody s_is_integer) (defScope s_is_integer) .none kV1 dc1 pm1 an1 cd1 ct1), sl1⟩) (c1 : PySem.W.codeIn K cd1 "is_integer" = true) (k1 : PySem.W.keepIn K (.ref f1) = true)
    (a2 : PySem.W.nsIn K mainGlobals "nested_way" = some (some (.ref f2))) (l2 : K.lookup f2 = some ⟨oc2, od2, .func (PySem.W.fnOf "nested_way" "nested_way" (defArgs s_nested_way) (defBody s_nested_way) (defScope s_nested_way) .none kV2 dc2 pm2 an2 cd2 ct2), sl2⟩) (c2 : PySem.W.codeIn K cd2 "nested_way" = true) (k2 : PySem.W.keepIn K (.ref f2) = true)
    (a3 : PySem.W.nsIn K mainGlobals "table_house" = some (some (.ref f3))) (l3 : K.lookup f3 = some ⟨oc3, od3, .func (PySem.W.fnOf "table_house" "table_house" (defArgs s_table_house) (defBody s_table_house) (defScope s_table_house) .none kV3 dc3 pm3 an3 (.ref cE3) ct3), sl3⟩) (c3 : PySem.W.codeIn K (.ref cE3) "table_house" = true) (k3 : PySem.W.keepIn K (.ref f3) = true)
    (a4 : PySem.W.nsIn K mainGlobals "handed_house" = some (some (.ref f4))) (l4 : K.lookup f4 = some ⟨oc4, od4, .func (PySem.W.fnOf "handed_house" "handed_house" (defArgs s_handed_house) (defBody s_handed_house) (defScope s_handed_house) .none kV4 dc4 pm4 an4 cd4 ct4), sl4⟩) (c4 : PySem.W.codeIn K cd4 "handed_house" = true) (k4 : PySem.W.keepIn K (.ref f4) = true)
    (a5 : PySem.W.nsIn K mainGlobals "gated_house" = some (some (.ref f5))) (l5 : K.lookup f5 = some ⟨oc5, od5, .func (PySem.W.fnOf "gated_house" "gated_house" (defArgs s_gated_house) (defBody s_gated_house) (defScope s_gated_house) .none kV5 dc5 pm5 an5 (.ref cE5) ct5), sl5⟩) (c5 : PySem.W.codeIn K (.ref cE5) "gated_house" = true) (k5 : PySem.W.keepIn K (.ref f5) = true)
    (a6 : PySem.W.nsIn K mainGlobals "row_house" = some (some (.ref f6))) (l6 : K.lookup f6 = some ⟨oc6, od6, .func (PySem.W.fnOf "row_house" "row_house" (defArgs s_row_house) (defBody s_row_house) (defScope s_row_house) .none kV6 dc6 pm6 an6 cd6 ct6), sl6⟩) (c6 : PySem.W.codeIn K cd6 "row_house" = true) (k6 : PySem.W.keepIn K (.ref f6) = true)
    (a7 : PySem.W.nsIn K mainGlobals "crossed_house" = some (some (.ref f7))) (l7 : K.lookup f7 = some ⟨oc7, od7, .func (PySem.W.fnOf "crossed_house" "crossed_house" (defArgs s_crossed_house) (defBody s_crossed_house) (defScope s_crossed_house) .none kV7 dc7 pm7 an7 (.ref cE7) ct7), sl7⟩) (c7 : PySem.W.codeIn K (.ref cE7) "crossed_house" = true) (k7 : PySem.W.keepIn K (.ref f7) = true)
    (a8 : PySem.W.nsIn K mainGlobals "row_of_words" = some (some (.ref f8))) (l8 : K.lookup f8 = some ⟨oc8, od8, .func (PySem.W.fnOf "row_of_words" "row_of_words" (defArgs s_row_of_words) (defBody s_row_of_words) (defScope s_row_of_words) .none kV8 dc8 pm8 an8 cd8 ct8), sl8⟩) (c8 : PySem.W.codeIn K cd8 "row_of_words" = true) (k8 : PySem.W.keepIn K (.ref f8) = true)
    (a9 : PySem.W.nsIn K mainGlobals "others" = some (some (.ref f9))) (l9 : K.lookup f9 = some ⟨oc9, od9, .func (PySem.W.fnOf "others" "others" (defArgs s_others) (defBody s_others) (defScope s_others) .none kV9 dc9 pm9 an9 (.ref cE9) ct9), sl9⟩) (c9 : PySem.W.codeIn K (.ref cE9) "others" = true) (k9 : PySem.W.keepIn K (.ref f9) = true)
    (a10 : PySem.W.nsIn K mainGlobals "door_house" = some (some (.ref f10))) (l10 : K.lookup f10 = some ⟨oc10, od10, .func (PySem.W.fnOf "door_house" "door_house" (defArgs s_door_house) (defBody s_door_house) (defScope s_door_house) .none kV10 dc10 pm10 an10 (.ref cE10) ct10), sl10⟩) (c10 : PySem.W.codeIn K (.ref cE10) "door_house" = true) (k10 : PySem.W.keepIn K (.ref f10) = true)
    (a11 : PySem.W.nsIn K mainGlobals "ranked_house" = some (some (.ref f11))) (l11 : K.lookup f11 = some ⟨oc11, od11, .func (PySem.W.fnOf "ranked_house" "ranked_house" (defArgs s_ranked_house) (defBody s_ranked_house) (defScope s_ranked_house) .none kV11 dc11 pm11 an11 cd11 ct11), sl11⟩) (c11 : PySem.W.codeIn K cd11 "ranked_house" = true) (k11 : PySem.W.keepIn K (.ref f11) = true)
    (a12 : PySem.W.nsIn K mainGlobals "level_house" = some (some (.ref f12))) (l12 : K.lookup f12 = some ⟨oc12, od12, .func (PySem.W.fnOf "level_house" "level_house" (defArgs s_level_house) (defBody s_level_house) (defScope s_level_house) .none kV12 dc12 pm12 an12 cd12 ct12), sl12⟩) (c12 : PySem.W.codeIn K cd12 "level_house" = true) (k12 : PySem.W.keepIn K (.ref f12) = true)
    (a13 : PySem.W.nsIn K mainGlobals "meek_house" = some (some (.ref f13))) (l13 : K.lookup f13 = some ⟨oc13, od13, .func (PySem.W.fnOf "meek_house" "meek_house" (defArgs s_meek_house) (defBody s_meek_house) (defScope s_meek_house) .none kV13 dc13 pm13 an13 cd13 ct13), sl13⟩) (c13 : PySem.W.codeIn K cd13 "meek_house" = true) (k13 : PySem.W.keepIn K (.ref f13) = true)
    (a14 : PySem.W.nsIn K mainGlobals "proud_house" = some (some (.ref f14))) (l14 : K.lookup f14 = some ⟨oc14, od14, .func (PySem.W.fnOf "proud_house" "proud_house" (defArgs s_proud_house) (defBody s_proud_house) (defScope s_proud_house) .none kV14 dc14 pm14 an14 cd14 ct14), sl14⟩) (c14 : PySem.W.codeIn K cd14 "proud_house" = true) (k14 : PySem.W.keepIn K (.ref f14) = true)
    (a15 : PySem.W.nsIn K mainGlobals "known_names" = some (some (.ref f15))) (l15 : K.lookup f15 = some ⟨oc15, od15, .func (PySem.W.fnOf "known_names" "known_names" (defArgs s_known_names) (defBody s_known_names) (defScope s_known_names) .none kV15 dc15 pm15 an15 cd15 ct15), sl15⟩) (c15 : PySem.W.codeIn K cd15 "known_names" = true) (k15 : PySem.W.keepIn K (.ref f15) = true)
    (a16 : PySem.W.nsIn K mainGlobals "known" = some (some (.ref f16))) (l16 : K.lookup f16 = some ⟨oc16, od16, .func (PySem.W.fnOf "known" "known" (defArgs s_known) (defBody s_known) (defScope s_known) .none kV16 dc16 pm16 an16 cd16 ct16), sl16⟩) (c16 : PySem.W.codeIn K cd16 "known" = true) (k16 : PySem.W.keepIn K (.ref f16) = true)
    (a17 : PySem.W.nsIn K mainGlobals "_law_deck" = some (some (.ref f17))) (l17 : K.lookup f17 = some ⟨oc17, od17, .func (PySem.W.fnOf "_law_deck" "_law_deck" (defArgs s__law_deck) (defBody s__law_deck) (defScope s__law_deck) .none kV17 dc17 pm17 an17 cd17 ct17), sl17⟩) (c17 : PySem.W.codeIn K cd17 "_law_deck" = true) (k17 : PySem.W.keepIn K (.ref f17) = true)
    (a18 : PySem.W.nsIn K mainGlobals "_law_draw" = some (some (.ref f18))) (l18 : K.lookup f18 = some ⟨oc18, od18, .func (PySem.W.fnOf "_law_draw" "_law_draw" (defArgs s__law_draw) (defBody s__law_draw) (defScope s__law_draw) .none kV18 dc18 pm18 an18 cd18 ct18), sl18⟩) (c18 : PySem.W.codeIn K cd18 "_law_draw" = true) (k18 : PySem.W.keepIn K (.ref f18) = true)
    (a19 : PySem.W.nsIn K mainGlobals "_law_pick" = some (some (.ref f19))) (l19 : K.lookup f19 = some ⟨oc19, od19, .func (PySem.W.fnOf "_law_pick" "_law_pick" (defArgs s__law_pick) (defBody s__law_pick) (defScope s__law_pick) .none kV19 dc19 pm19 an19 cd19 ct19), sl19⟩) (c19 : PySem.W.codeIn K cd19 "_law_pick" = true) (k19 : PySem.W.keepIn K (.ref f19) = true)
    (a20 : PySem.W.nsIn K mainGlobals "_law_whole" = some (some (.ref f20))) (l20 : K.lookup f20 = some ⟨oc20, od20, .func (PySem.W.fnOf "_law_whole" "_law_whole" (defArgs s__law_whole) (defBody s__law_whole) (defScope s__law_whole) .none kV20 dc20 pm20 an20 cd20 ct20), sl20⟩) (c20 : PySem.W.codeIn K cd20 "_law_whole" = true) (k20 : PySem.W.keepIn K (.ref f20) = true)
    (a21 : PySem.W.nsIn K mainGlobals "_law_same" = some (some (.ref f21))) (l21 : K.lookup f21 = some ⟨oc21, od21, .func (PySem.W.fnOf "_law_same" "_law_same" (defArgs s__law_same) (defBody s__law_same) (defScope s__law_same) .none kV21 dc21 pm21 an21 cd21 ct21), sl21⟩) (c21 : PySem.W.codeIn K cd21 "_law_same" = true) (k21 : PySem.W.keepIn K (.ref f21) = true)
    (a22 : PySem.W.nsIn K mainGlobals "_law_any" = some (some (.ref f22))) (l22 : K.lookup f22 = some ⟨oc22, od22, .func (PySem.W.fnOf "_law_any" "_law_any" (defArgs s__law_any) (defBody s__law_any) (defScope s__law_any) .none kV22 dc22 pm22 an22 cd22 ct22), sl22⟩) (c22 : PySem.W.codeIn K cd22 "_law_any" = true) (k22 : PySem.W.keepIn K (.ref f22) = true)
    (a23 : PySem.W.nsIn K mainGlobals "_law_around" = some (some (.ref f23))) (l23 : K.lookup f23 = some ⟨oc23, od23, .func (PySem.W.fnOf "_law_around" "_law_around" (defArgs s__law_around) (defBody s__law_around) (defScope s__law_around) .none kV23 dc23 pm23 an23 cd23 ct23), sl23⟩) (c23 : PySem.W.codeIn K cd23 "_law_around" = true) (k23 : PySem.W.keepIn K (.ref f23) = true)
    (a24 : PySem.W.nsIn K mainGlobals "_law_one_door" = some (some (.ref f24))) (l24 : K.lookup f24 = some ⟨oc24, od24, .func (PySem.W.fnOf "_law_one_door" "_law_one_door" (defArgs s__law_one_door) (defBody s__law_one_door) (defScope s__law_one_door) .none kV24 dc24 pm24 an24 cd24 ct24), sl24⟩) (c24 : PySem.W.codeIn K cd24 "_law_one_door" = true) (k24 : PySem.W.keepIn K (.ref f24) = true)
    (a25 : PySem.W.nsIn K mainGlobals "_law_known" = some (some (.ref f25))) (l25 : K.lookup f25 = some ⟨oc25, od25, .func (PySem.W.fnOf "_law_known" "_law_known" (defArgs s__law_known) (defBody s__law_known) (defScope s__law_known) .none kV25 dc25 pm25 an25 cd25 ct25), sl25⟩) (c25 : PySem.W.codeIn K cd25 "_law_known" = true) (k25 : PySem.W.keepIn K (.ref f25) = true)
    (a26 : PySem.W.nsIn K mainGlobals "_law_heard" = some (some (.ref f26))) (l26 : K.lookup f26 = some ⟨oc26, od26, .func (PySem.W.fnOf "_law_heard" "_law_heard" (defArgs s__law_heard) (defBody s__law_heard) (defScope s__law_heard) .none kV26 dc26 pm26 an26 cd26 ct26), sl26⟩) (c26 : PySem.W.codeIn K cd26 "_law_heard" = true) (k26 : PySem.W.keepIn K (.ref f26) = true)
    (a27 : PySem.W.nsIn K mainGlobals "law" = some (some (.ref f27))) (l27 : K.lookup f27 = some ⟨oc27, od27, .func (PySem.W.fnOf "law" "law" (defArgs s_law) (defBody s_law) (defScope s_law) .none kV27 dc27 pm27 an27 cd27 ct27), sl27⟩) (c27 : PySem.W.codeIn K cd27 "law" = true) (k27 : PySem.W.keepIn K (.ref f27) = true)
    (lE3 : K.lookup cE3 = some ⟨eE3, dE3, .fields vsE3, slE3⟩) (xE3 : vsE3[11]? = some (.ref tE3)) (nE3 : K.lookup tE3 = none)
    (lE5 : K.lookup cE5 = some ⟨eE5, dE5, .fields vsE5, slE5⟩) (xE5 : vsE5[11]? = some (.ref tE5)) (nE5 : K.lookup tE5 = none)
    (lE7 : K.lookup cE7 = some ⟨eE7, dE7, .fields vsE7, slE7⟩) (xE7 : vsE7[11]? = some (.ref tE7)) (nE7 : K.lookup tE7 = none)
    (lE9 : K.lookup cE9 = some ⟨eE9, dE9, .fields vsE9, slE9⟩) (xE9 : vsE9[11]? = some (.ref tE9)) (nE9 : K.lookup tE9 = none)
    (lE10 : K.lookup cE10 = some ⟨eE10, dE10, .fields vsE10, slE10⟩) (xE10 : vsE10[11]? = some (.ref tE10)) (nE10 : K.lookup tE10 = none)
    (cW_MAX_HANDS : PySem.W.nsIn K mainGlobals "MAX_HANDS" = some (some (.int 5 tk_MAX_HANDS)))
    {dT_MAKERS : Addr} {nT_MAKERS tk0_MAKERS tk1_MAKERS tk2_MAKERS tk3_MAKERS tk4_MAKERS tk5_MAKERS tk6_MAKERS tk7_MAKERS tk8_MAKERS : Nat}
    (aT_MAKERS : PySem.W.nsIn K mainGlobals "MAKERS" = some (some (.ref dT_MAKERS))) (lT_MAKERS : K.lookup dT_MAKERS = some ⟨.type "dict", none, .dict #[⟨PyData.keyHash w.params "crossed", .str "crossed" tk0_MAKERS, .ref f7⟩, ⟨PyData.keyHash w.params "gated", .str "gated" tk1_MAKERS, .ref f5⟩, ⟨PyData.keyHash w.params "handed", .str "handed" tk2_MAKERS, .ref f4⟩, ⟨PyData.keyHash w.params "level", .str "level" tk3_MAKERS, .ref f12⟩, ⟨PyData.keyHash w.params "meek", .str "meek" tk4_MAKERS, .ref f13⟩, ⟨PyData.keyHash w.params "proud", .str "proud" tk5_MAKERS, .ref f14⟩, ⟨PyData.keyHash w.params "ranked", .str "ranked" tk6_MAKERS, .ref f11⟩, ⟨PyData.keyHash w.params "row", .str "row" tk7_MAKERS, .ref f6⟩, ⟨PyData.keyHash w.params "table", .str "table" tk8_MAKERS, .ref f3⟩] nT_MAKERS, #[]⟩) (wT_MAKERS : (dT_MAKERS == sysModules) = false)
    {C_WayError C_Unfit : Addr}
    (aC_WayError : PySem.W.nsIn K mainGlobals "WayError" = some (some (.ref C_WayError)))
    (aC_Unfit : PySem.W.nsIn K mainGlobals "Unfit" = some (some (.ref C_Unfit)))
    (eC_WayError : PySem.W.subIn K (.ref C_WayError) (.type "BaseException") = some true)
    (ga_WayError : PySem.W.findIn K (.ref C_WayError) "__getattribute__" = some (some (.builtin "BaseException.__getattribute__")))
    (gg_WayError : PySem.W.findIn K (.ref C_WayError) "__getattr__" = some none)
    (hd_WayError : PySem.W.hasDictIn K C_WayError = true)
    (hk_WayError : PySem.W.findIn K (.ref C_WayError) "__class__" = some (some (.builtin "object.__class__")))
    (hm_WayError : PySem.W.mroIn K C_WayError (.type "object") = some true)
    (eC_Unfit : PySem.W.subIn K (.ref C_Unfit) (.type "BaseException") = some true)
    (ga_Unfit : PySem.W.findIn K (.ref C_Unfit) "__getattribute__" = some (some (.builtin "BaseException.__getattribute__")))
    (gg_Unfit : PySem.W.findIn K (.ref C_Unfit) "__getattr__" = some none)
    (hd_Unfit : PySem.W.hasDictIn K C_Unfit = true)
    (hk_Unfit : PySem.W.findIn K (.ref C_Unfit) "__class__" = some (some (.builtin "object.__class__")))
    (hm_Unfit : PySem.W.mroIn K C_Unfit (.type "object") = some true)
    (kC_Unfit : PySem.W.keepIn K (.ref C_Unfit) = true)
    (tC_Unfit : PySem.W.typeIn K (.ref C_Unfit) = some (.type "type"))
    (xi_Unfit : PySem.W.excIn K C_Unfit [.type "ValueError", .type "Exception", .type "BaseException", .type "object"] "ValueError.__new__" = true)
    (em_WayError_Unfit : PySem.W.exmOne K (.ref C_WayError) (.ref C_Unfit) = some false)
    (em_Unfit_Unfit : PySem.W.exmOne K (.ref C_Unfit) (.ref C_Unfit) = some true)
    (ki_WayError_WayError : PySem.W.kitOne K (.ref C_WayError) (.ref C_WayError) = some true)
    (ki_Unfit_WayError : PySem.W.kitOne K (.ref C_Unfit) (.ref C_WayError) = some true)
    (hnX : PySem.W.specialIn K (.builtin "object.__class__") "__get__" = some (some (.builtin "getset_descriptor.__get__")))
    (htX : PySem.W.takesIn K (.builtin "object.__class__") = some true)
    (z_abs : PySem.W.nsIn K mainGlobals "abs" = some none)
    (z_bool : PySem.W.nsIn K mainGlobals "bool" = some none)
    (z_enumerate : PySem.W.nsIn K mainGlobals "enumerate" = some none)
    (z_int : PySem.W.nsIn K mainGlobals "int" = some none)
    (z_isinstance : PySem.W.nsIn K mainGlobals "isinstance" = some none)
    (z_len : PySem.W.nsIn K mainGlobals "len" = some none)
    (z_range : PySem.W.nsIn K mainGlobals "range" = some none)
    (z_repr : PySem.W.nsIn K mainGlobals "repr" = some none)
    (z_reversed : PySem.W.nsIn K mainGlobals "reversed" = some none)
    (z_sorted : PySem.W.nsIn K mainGlobals "sorted" = some none)
    (z_str : PySem.W.nsIn K mainGlobals "str" = some none)
    (z_tuple : PySem.W.nsIn K mainGlobals "tuple" = some none) :
    ∃ cs : List (Addr × Addr), (∀ p ∈ cs, ∃ x ∈ (["table_house", "gated_house", "crossed_house", "others", "door_house"] : List Str), TabOf K mg x p) ∧ ∀ (a : Addr) (ns : List Int), ns.length ≤ 63 → RunsG l.prog w K mg fa cs a ns := by
  have e := hfa.symm.trans (PySem.W.mg_of X G a27)
  cases e
  have B : BltG mg := ⟨PySem.W.mg_none_of X G z_abs, PySem.W.mg_none_of X G z_bool, PySem.W.mg_none_of X G z_enumerate, PySem.W.mg_none_of X G z_int, PySem.W.mg_none_of X G z_isinstance, PySem.W.mg_none_of X G z_len, PySem.W.mg_none_of X G z_range, PySem.W.mg_none_of X G z_repr, PySem.W.mg_none_of X G z_reversed, PySem.W.mg_none_of X G z_sorted, PySem.W.mg_none_of X G z_str, PySem.W.mg_none_of X G z_tuple⟩
  refine ⟨[(cE3, tE3), (cE5, tE5), (cE7, tE7), (cE9, tE9), (cE10, tE10)], fun p hp => ?_, ?_⟩
  · simp only [List.mem_cons, List.not_mem_nil, or_false] at hp
    rcases hp with rfl | rfl | rfl | rfl | rfl
    · exact ⟨"table_house", by simp, ⟨f3, _, _, eE3, dE3, vsE3, slE3, PySem.W.mg_of X G a3, l3, rfl, rfl, lE3, xE3, nE3⟩⟩
    · exact ⟨"gated_house", by simp, ⟨f5, _, _, eE5, dE5, vsE5, slE5, PySem.W.mg_of X G a5, l5, rfl, rfl, lE5, xE5, nE5⟩⟩
    · exact ⟨"crossed_house", by simp, ⟨f7, _, _, eE7, dE7, vsE7, slE7, PySem.W.mg_of X G a7, l7, rfl, rfl, lE7, xE7, nE7⟩⟩
    · exact ⟨"others", by simp, ⟨f9, _, _, eE9, dE9, vsE9, slE9, PySem.W.mg_of X G a9, l9, rfl, rfl, lE9, xE9, nE9⟩⟩
    · exact ⟨"door_house", by simp, ⟨f10, _, _, eE10, dE10, vsE10, slE10, PySem.W.mg_of X G a10, l10, rfl, rfl, lE10, xE10, nE10⟩⟩
  intro a ns len base H s0 en hS hT0 hTB sys
  have TB3 := hTB (cE3, tE3) List.mem_cons_self
  have TB5 := hTB (cE5, tE5) (List.mem_cons_of_mem _ List.mem_cons_self)
  have TB7 := hTB (cE7, tE7) (List.mem_cons_of_mem _ (List.mem_cons_of_mem _ List.mem_cons_self))
  have TB9 := hTB (cE9, tE9) (List.mem_cons_of_mem _ (List.mem_cons_of_mem _ (List.mem_cons_of_mem _ List.mem_cons_self)))
  have TB10 := hTB (cE10, tE10) (List.mem_cons_of_mem _ (List.mem_cons_of_mem _ (List.mem_cons_of_mem _ (List.mem_cons_of_mem _ List.mem_cons_self))))
  have h_MAX_HANDS : ∃ t, mg "MAX_HANDS" = some (.int 5 t) := ⟨_, PySem.W.mg_of X G cW_MAX_HANDS⟩
  have FL_MAKERS : FnLay K w dT_MAKERS [("crossed", "crossed_house", f7, tk0_MAKERS), ("gated", "gated_house", f5, tk1_MAKERS), ("handed", "handed_house", f4, tk2_MAKERS), ("level", "level_house", f12, tk3_MAKERS), ("meek", "meek_house", f13, tk4_MAKERS), ("proud", "proud_house", f14, tk5_MAKERS), ("ranked", "ranked_house", f11, tk6_MAKERS), ("row", "row_house", f6, tk7_MAKERS), ("table", "table_house", f3, tk8_MAKERS)] nT_MAKERS := ⟨lT_MAKERS, wT_MAKERS, by show (["crossed", "gated", "handed", "level", "meek", "proud", "ranked", "row", "table"] : List Str).Nodup; decide +kernel, by show 9 < 64; decide⟩
  have FT_MAKERS : FnTab K w mg "MAKERS" [("crossed", "crossed_house"), ("gated", "gated_house"), ("handed", "handed_house"), ("level", "level_house"), ("meek", "meek_house"), ("proud", "proud_house"), ("ranked", "ranked_house"), ("row", "row_house"), ("table", "table_house")] := fnTab_of (PySem.W.mg_of X G aT_MAKERS) FL_MAKERS fun q hq => by
    simp only [List.mem_cons, List.not_mem_nil, or_false] at hq
    rcases hq with rfl | rfl | rfl | rfl | rfl | rfl | rfl | rfl | rfl
    · exact PySem.W.mg_of X G a7
    · exact PySem.W.mg_of X G a5
    · exact PySem.W.mg_of X G a4
    · exact PySem.W.mg_of X G a12
    · exact PySem.W.mg_of X G a13
    · exact PySem.W.mg_of X G a14
    · exact PySem.W.mg_of X G a11
    · exact PySem.W.mg_of X G a6
    · exact PySem.W.mg_of X G a3
  have FS_MAKERS : FnSrt K w mg "MAKERS" ["crossed", "gated", "handed", "level", "meek", "proud", "ranked", "row", "table"] := ⟨_, _, _, PySem.W.mg_of X G aT_MAKERS, FL_MAKERS, rfl, by decide +kernel⟩
  have E_Unfit : ExcP K mg "Unfit" := excP_of X G aC_Unfit kC_Unfit eC_Unfit tC_Unfit xi_Unfit
  have T_Unfit : ExmTab K mg "Unfit" [("WayError", false), ("Unfit", true)] := ⟨_, PySem.W.mg_of X G aC_Unfit, fun y b hy => by
    simp only [List.mem_cons, List.not_mem_nil, or_false, Prod.mk.injEq] at hy
    rcases hy with ⟨rfl, rfl⟩ | ⟨rfl, rfl⟩
    · exact ⟨_, PySem.W.mg_of X G aC_WayError, em_WayError_Unfit⟩
    · exact ⟨_, PySem.W.mg_of X G aC_Unfit, em_Unfit_Unfit⟩⟩
  have I_WayError : IsiTab K mg "WayError" [("WayError", true), ("Unfit", true)] := ⟨_, PySem.W.mg_of X G aC_WayError, fun y b hy => by
    simp only [List.mem_cons, List.not_mem_nil, or_false, Prod.mk.injEq] at hy
    rcases hy with ⟨rfl, rfl⟩ | ⟨rfl, rfl⟩
    · exact ⟨_, PySem.W.mg_of X G aC_WayError, excC_of ga_WayError gg_WayError eC_WayError hd_WayError hk_WayError hnX htX hm_WayError, ki_WayError_WayError⟩
    · exact ⟨_, PySem.W.mg_of X G aC_Unfit, excC_of ga_Unfit gg_Unfit eC_Unfit hd_Unfit hk_Unfit hnX htX hm_Unfit, ki_Unfit_WayError⟩⟩
  have D1 := dp_1 X G a1 l1 c1 k1
  have D2 := dp_2 X G a2 l2 c2 k2
  have D3 := dp_3 X G a3 l3 c3 k3
  have D4 := dp_4 X G a4 l4 c4 k4
  have D5 := dp_5 X G a5 l5 c5 k5
  have D6 := dp_6 X G a6 l6 c6 k6
  have D7 := dp_7 X G a7 l7 c7 k7
  have D8 := dp_8 X G a8 l8 c8 k8
  have D9 := dp_9 X G a9 l9 c9 k9
  have D10 := dp_10 X G a10 l10 c10 k10
  have D11 := dp_11 X G a11 l11 c11 k11
  have D12 := dp_12 X G a12 l12 c12 k12
  have D13 := dp_13 X G a13 l13 c13 k13
  have D14 := dp_14 X G a14 l14 c14 k14
  have D15 := dp_15 X G a15 l15 c15 k15
  have D16 := dp_16 X G a16 l16 c16 k16
  have D17 := dp_17 X G a17 l17 c17 k17
  have D18 := dp_18 X G a18 l18 c18 k18
  have D19 := dp_19 X G a19 l19 c19 k19
  have D20 := dp_20 X G a20 l20 c20 k20
  have D21 := dp_21 X G a21 l21 c21 k21
  have D22 := dp_22 X G a22 l22 c22 k22
  have D23 := dp_23 X G a23 l23 c23 k23
  have D24 := dp_24 X G a24 l24 c24 k24
  have D25 := dp_25 X G a25 l25 c25 k25
  have D26 := dp_26 X G a26 l26 c26 k26
  have D27 := dp_27 X G a27 l27 c27 k27
  have F_is_integer := fd_is_integer (P := l.prog) (w := w) (base := base) (tbs := [tE3, tE5, tE7, tE9, tE10]) B D1
  have F_nested_way := fd_nested_way (P := l.prog) (w := w) (base := base) (tbs := [tE3, tE5, tE7, tE9, tE10]) B D2
  have F_table_house := fd_table_house (P := l.prog) (w := w) (base := base) (tbs := [tE3, tE5, tE7, tE9, tE10]) B F_nested_way.fd TB3 List.mem_cons_self D3
  have F_handed_house := fd_handed_house (P := l.prog) (w := w) (base := base) (tbs := [tE3, tE5, tE7, tE9, tE10]) B F_table_house.fd F_nested_way.fd D4
  have F_gated_house := fd_gated_house (P := l.prog) (w := w) (base := base) (tbs := [tE3, tE5, tE7, tE9, tE10]) B F_table_house.fd TB5 (List.mem_cons_of_mem _ List.mem_cons_self) D5
  have F_row_house := fd_row_house (P := l.prog) (w := w) (base := base) (tbs := [tE3, tE5, tE7, tE9, tE10]) B F_nested_way.fd D6
  have F_crossed_house := fd_crossed_house (P := l.prog) (w := w) (base := base) (tbs := [tE3, tE5, tE7, tE9, tE10]) B F_nested_way.fd TB7 (List.mem_cons_of_mem _ (List.mem_cons_of_mem _ List.mem_cons_self)) D7
  have F_row_of_words := fd_row_of_words (P := l.prog) (w := w) (base := base) (tbs := [tE3, tE5, tE7, tE9, tE10]) B D8
  have F_others := fd_others (P := l.prog) (w := w) (base := base) (tbs := [tE3, tE5, tE7, tE9, tE10]) B TB9 (List.mem_cons_of_mem _ (List.mem_cons_of_mem _ (List.mem_cons_of_mem _ List.mem_cons_self))) D9
  have F_door_house := fd_door_house (P := l.prog) (w := w) (base := base) (tbs := [tE3, tE5, tE7, tE9, tE10]) B F_row_of_words.fd F_others.fd F_nested_way.fd TB10 (List.mem_cons_of_mem _ (List.mem_cons_of_mem _ (List.mem_cons_of_mem _ (List.mem_cons_of_mem _ List.mem_cons_self)))) D10
  have F_ranked_house := fd_ranked_house (P := l.prog) (w := w) (base := base) (tbs := [tE3, tE5, tE7, tE9, tE10]) B F_door_house.fd D11
  have F_level_house := fd_level_house (P := l.prog) (w := w) (base := base) (tbs := [tE3, tE5, tE7, tE9, tE10]) B F_door_house.fd D12
  have F_meek_house := fd_meek_house (P := l.prog) (w := w) (base := base) (tbs := [tE3, tE5, tE7, tE9, tE10]) B F_door_house.fd D13
  have F_proud_house := fd_proud_house (P := l.prog) (w := w) (base := base) (tbs := [tE3, tE5, tE7, tE9, tE10]) B F_door_house.fd D14
  have F_known_names := fd_known_names (P := l.prog) (w := w) (base := base) (tbs := [tE3, tE5, tE7, tE9, tE10]) B FS_MAKERS D15
  have F_known := fd_known (P := l.prog) (w := w) (base := base) (tbs := [tE3, tE5, tE7, tE9, tE10]) B h_MAX_HANDS F_crossed_house.fd F_gated_house.fd F_handed_house.fd F_level_house.fd F_meek_house.fd F_proud_house.fd F_ranked_house.fd F_row_house.fd F_table_house.fd F_is_integer.fd FT_MAKERS E_Unfit D16
  have F__law_deck := fd__law_deck (P := l.prog) (w := w) (base := base) (tbs := [tE3, tE5, tE7, tE9, tE10]) B D17
  have F__law_draw := fd__law_draw (P := l.prog) (w := w) (base := base) (tbs := [tE3, tE5, tE7, tE9, tE10]) B D18
  have F__law_pick := fd__law_pick (P := l.prog) (w := w) (base := base) (tbs := [tE3, tE5, tE7, tE9, tE10]) B F__law_draw.fd D19
  have F__law_whole := fd__law_whole (P := l.prog) (w := w) (base := base) (tbs := [tE3, tE5, tE7, tE9, tE10]) B D20
  have F__law_same := fd__law_same (P := l.prog) (w := w) (base := base) (tbs := [tE3, tE5, tE7, tE9, tE10]) B D21 8
  have F__law_any := fd__law_any (P := l.prog) (w := w) (base := base) (tbs := [tE3, tE5, tE7, tE9, tE10]) B F__law_draw.fd F__law_pick.fd D22 8
  have F__law_around := fd__law_around (P := l.prog) (w := w) (base := base) (tbs := [tE3, tE5, tE7, tE9, tE10]) B D23
  have F__law_one_door := fd__law_one_door (P := l.prog) (w := w) (base := base) (tbs := [tE3, tE5, tE7, tE9, tE10]) B D24
  have F__law_known := fd__law_known (P := l.prog) (w := w) (base := base) (tbs := [tE3, tE5, tE7, tE9, tE10]) B F__law_one_door.fd F__law_around.fd D25
  have F__law_heard := fd__law_heard (P := l.prog) (w := w) (base := base) (tbs := [tE3, tE5, tE7, tE9, tE10]) B F_known.fd (F_known.kd List.mem_cons_self) T_Unfit I_WayError D26
  have F_law := fd_law (P := l.prog) (w := w) (base := base) (tbs := [tE3, tE5, tE7, tE9, tE10]) B F__law_deck.fd F__law_same.fd F_known_names.fd F__law_pick.fd F__law_draw.fd F__law_any.fd F__law_whole.fd F__law_known.fd F__law_heard.fd sys D27
  obtain ⟨h2, hm⟩ := law_true ns len
  refine run_law F_law.fd ⟨rfl, by decide, by decide⟩ hfa en hS (fun p hp => ?_) hm
  simp only [List.mem_cons, List.not_mem_nil, or_false] at hp
  rcases hp with e | e | e | e | e
  · rw [e]
    exact hT0 (cE3, tE3) (by simp)
  · rw [e]
    exact hT0 (cE5, tE5) (by simp)
  · rw [e]
    exact hT0 (cE7, tE7) (by simp)
  · rw [e]
    exact hT0 (cE9, tE9) (by simp)
  · rw [e]
    exact hT0 (cE10, tE10) (by simp)
end Dn


open PySem PySem.W PyProof.Rows in
set_option maxRecDepth 100000 in
set_option maxHeartbeats 0 in
theorem PySem.Challenge.cw_roomways_k07_whole_known_houses_holds : PySem.Challenge.rw_roomways_k07_whole_known_houses.Holds := by
  w_on; o_law; k_head; (case hw => w_witness2)
  k_fill
  refine Dn.walksG (n := 63) (xs := ["table_house", "gated_house", "crossed_house", "others", "door_house"]) (l := PySem.Challenge.rw_roomways_k07_whole_known_houses) rfl (by decide) rfl (by decide +kernel) (by decide +kernel) (fun w h Y => PySem.W.kIn_of Y) ?F
  case F =>
    intro w mg fa h X G hmg
    refine' Dn.all_mk X G hmg ?a1 ?l1 ?c1 ?k1 ?a2 ?l2 ?c2 ?k2 ?a3 ?l3 ?c3 ?k3 ?a4 ?l4 ?c4 ?k4 ?a5 ?l5 ?c5 ?k5 ?a6 ?l6 ?c6 ?k6 ?a7 ?l7 ?c7 ?k7 ?a8 ?l8 ?c8 ?k8 ?a9 ?l9 ?c9 ?k9 ?a10 ?l10 ?c10 ?k10 ?a11 ?l11 ?c11 ?k11 ?a12 ?l12 ?c12 ?k12 ?a13 ?l13 ?c13 ?k13 ?a14 ?l14 ?c14 ?k14 ?a15 ?l15 ?c15 ?k15 ?a16 ?l16 ?c16 ?k16 ?a17 ?l17 ?c17 ?k17 ?a18 ?l18 ?c18 ?k18 ?a19 ?l19 ?c19 ?k19 ?a20 ?l20 ?c20 ?k20 ?a21 ?l21 ?c21 ?k21 ?a22 ?l22 ?c22 ?k22 ?a23 ?l23 ?c23 ?k23 ?a24 ?l24 ?c24 ?k24 ?a25 ?l25 ?c25 ?k25 ?a26 ?l26 ?c26 ?k26 ?a27 ?l27 ?c27 ?k27 ?lE3 ?xE3 ?nE3 ?lE5 ?xE5 ?nE5 ?lE7 ?xE7 ?nE7 ?lE9 ?xE9 ?nE9 ?lE10 ?xE10 ?nE10 ?cW_MAX_HANDS ?aT_MAKERS ?lT_MAKERS ?wT_MAKERS ?aC_WayError ?aC_Unfit ?eC_WayError ?ga_WayError ?gg_WayError ?hd_WayError ?hk_WayError ?hm_WayError ?eC_Unfit ?ga_Unfit ?gg_Unfit ?hd_Unfit ?hk_Unfit ?hm_Unfit ?kC_Unfit ?tC_Unfit ?xi_Unfit ?em_WayError_Unfit ?em_Unfit_Unfit ?ki_WayError_WayError ?ki_Unfit_WayError ?hnX ?htX ?z_abs ?z_bool ?z_enumerate ?z_int ?z_isinstance ?z_len ?z_range ?z_repr ?z_reversed ?z_sorted ?z_str ?z_tuple
    (case a1 => first | k_is | k_exc | rfl | decide +kernel)
    (case l1 => first | k_is | k_exc | rfl | decide +kernel)
    (case c1 => first | k_is | k_exc | rfl | decide +kernel)
    (case k1 => first | k_is | k_exc | rfl | decide +kernel)
    (case a2 => first | k_is | k_exc | rfl | decide +kernel)
    (case l2 => first | k_is | k_exc | rfl | decide +kernel)
    (case c2 => first | k_is | k_exc | rfl | decide +kernel)
    (case k2 => first | k_is | k_exc | rfl | decide +kernel)
    (case a3 => first | k_is | k_exc | rfl | decide +kernel)
    (case l3 => first | k_is | k_exc | rfl | decide +kernel)
    (case c3 => first | k_is | k_exc | rfl | decide +kernel)
    (case k3 => first | k_is | k_exc | rfl | decide +kernel)
    (case a4 => first | k_is | k_exc | rfl | decide +kernel)
    (case l4 => first | k_is | k_exc | rfl | decide +kernel)
    (case c4 => first | k_is | k_exc | rfl | decide +kernel)
    (case k4 => first | k_is | k_exc | rfl | decide +kernel)
    (case a5 => first | k_is | k_exc | rfl | decide +kernel)
    (case l5 => first | k_is | k_exc | rfl | decide +kernel)
    (case c5 => first | k_is | k_exc | rfl | decide +kernel)
    (case k5 => first | k_is | k_exc | rfl | decide +kernel)
    (case a6 => first | k_is | k_exc | rfl | decide +kernel)
    (case l6 => first | k_is | k_exc | rfl | decide +kernel)
    (case c6 => first | k_is | k_exc | rfl | decide +kernel)
    (case k6 => first | k_is | k_exc | rfl | decide +kernel)
    (case a7 => first | k_is | k_exc | rfl | decide +kernel)
    (case l7 => first | k_is | k_exc | rfl | decide +kernel)
    (case c7 => first | k_is | k_exc | rfl | decide +kernel)
    (case k7 => first | k_is | k_exc | rfl | decide +kernel)
    (case a8 => first | k_is | k_exc | rfl | decide +kernel)
    (case l8 => first | k_is | k_exc | rfl | decide +kernel)
    (case c8 => first | k_is | k_exc | rfl | decide +kernel)
    (case k8 => first | k_is | k_exc | rfl | decide +kernel)
    (case a9 => first | k_is | k_exc | rfl | decide +kernel)
    (case l9 => first | k_is | k_exc | rfl | decide +kernel)
    (case c9 => first | k_is | k_exc | rfl | decide +kernel)
    (case k9 => first | k_is | k_exc | rfl | decide +kernel)
    (case a10 => first | k_is | k_exc | rfl | decide +kernel)
    (case l10 => first | k_is | k_exc | rfl | decide +kernel)
    (case c10 => first | k_is | k_exc | rfl | decide +kernel)
    (case k10 => first | k_is | k_exc | rfl | decide +kernel)
    (case a11 => first | k_is | k_exc | rfl | decide +kernel)
    (case l11 => first | k_is | k_exc | rfl | decide +kernel)
    (case c11 => first | k_is | k_exc | rfl | decide +kernel)
    (case k11 => first | k_is | k_exc | rfl | decide +kernel)
    (case a12 => first | k_is | k_exc | rfl | decide +kernel)
    (case l12 => first | k_is | k_exc | rfl | decide +kernel)
    (case c12 => first | k_is | k_exc | rfl | decide +kernel)
    (case k12 => first | k_is | k_exc | rfl | decide +kernel)
    (case a13 => first | k_is | k_exc | rfl | decide +kernel)
    (case l13 => first | k_is | k_exc | rfl | decide +kernel)
    (case c13 => first | k_is | k_exc | rfl | decide +kernel)
    (case k13 => first | k_is | k_exc | rfl | decide +kernel)
    (case a14 => first | k_is | k_exc | rfl | decide +kernel)
    (case l14 => first | k_is | k_exc | rfl | decide +kernel)
    (case c14 => first | k_is | k_exc | rfl | decide +kernel)
    (case k14 => first | k_is | k_exc | rfl | decide +kernel)
    (case a15 => first | k_is | k_exc | rfl | decide +kernel)
    (case l15 => first | k_is | k_exc | rfl | decide +kernel)
    (case c15 => first | k_is | k_exc | rfl | decide +kernel)
    (case k15 => first | k_is | k_exc | rfl | decide +kernel)
    (case a16 => first | k_is | k_exc | rfl | decide +kernel)
    (case l16 => first | k_is | k_exc | rfl | decide +kernel)
    (case c16 => first | k_is | k_exc | rfl | decide +kernel)
    (case k16 => first | k_is | k_exc | rfl | decide +kernel)
    (case a17 => first | k_is | k_exc | rfl | decide +kernel)
    (case l17 => first | k_is | k_exc | rfl | decide +kernel)
    (case c17 => first | k_is | k_exc | rfl | decide +kernel)
    (case k17 => first | k_is | k_exc | rfl | decide +kernel)
    (case a18 => first | k_is | k_exc | rfl | decide +kernel)
    (case l18 => first | k_is | k_exc | rfl | decide +kernel)
    (case c18 => first | k_is | k_exc | rfl | decide +kernel)
    (case k18 => first | k_is | k_exc | rfl | decide +kernel)
    (case a19 => first | k_is | k_exc | rfl | decide +kernel)
    (case l19 => first | k_is | k_exc | rfl | decide +kernel)
    (case c19 => first | k_is | k_exc | rfl | decide +kernel)
    (case k19 => first | k_is | k_exc | rfl | decide +kernel)
    (case a20 => first | k_is | k_exc | rfl | decide +kernel)
    (case l20 => first | k_is | k_exc | rfl | decide +kernel)
    (case c20 => first | k_is | k_exc | rfl | decide +kernel)
    (case k20 => first | k_is | k_exc | rfl | decide +kernel)
    (case a21 => first | k_is | k_exc | rfl | decide +kernel)
    (case l21 => first | k_is | k_exc | rfl | decide +kernel)
    (case c21 => first | k_is | k_exc | rfl | decide +kernel)
    (case k21 => first | k_is | k_exc | rfl | decide +kernel)
    (case a22 => first | k_is | k_exc | rfl | decide +kernel)
    (case l22 => first | k_is | k_exc | rfl | decide +kernel)
    (case c22 => first | k_is | k_exc | rfl | decide +kernel)
    (case k22 => first | k_is | k_exc | rfl | decide +kernel)
    (case a23 => first | k_is | k_exc | rfl | decide +kernel)
    (case l23 => first | k_is | k_exc | rfl | decide +kernel)
    (case c23 => first | k_is | k_exc | rfl | decide +kernel)
    (case k23 => first | k_is | k_exc | rfl | decide +kernel)
    (case a24 => first | k_is | k_exc | rfl | decide +kernel)
    (case l24 => first | k_is | k_exc | rfl | decide +kernel)
    (case c24 => first | k_is | k_exc | rfl | decide +kernel)
    (case k24 => first | k_is | k_exc | rfl | decide +kernel)
    (case a25 => first | k_is | k_exc | rfl | decide +kernel)
    (case l25 => first | k_is | k_exc | rfl | decide +kernel)
    (case c25 => first | k_is | k_exc | rfl | decide +kernel)
    (case k25 => first | k_is | k_exc | rfl | decide +kernel)
    (case a26 => first | k_is | k_exc | rfl | decide +kernel)
    (case l26 => first | k_is | k_exc | rfl | decide +kernel)
    (case c26 => first | k_is | k_exc | rfl | decide +kernel)
    (case k26 => first | k_is | k_exc | rfl | decide +kernel)
    (case a27 => first | k_is | k_exc | rfl | decide +kernel)
    (case l27 => first | k_is | k_exc | rfl | decide +kernel)
    (case c27 => first | k_is | k_exc | rfl | decide +kernel)
    (case k27 => first | k_is | k_exc | rfl | decide +kernel)
    (case lE3 => first | k_is | k_exc | rfl | decide +kernel)
    (case xE3 => first | k_is | k_exc | rfl | decide +kernel)
    (case nE3 => first | k_is | k_exc | rfl | decide +kernel)
    (case lE5 => first | k_is | k_exc | rfl | decide +kernel)
    (case xE5 => first | k_is | k_exc | rfl | decide +kernel)
    (case nE5 => first | k_is | k_exc | rfl | decide +kernel)
    (case lE7 => first | k_is | k_exc | rfl | decide +kernel)
    (case xE7 => first | k_is | k_exc | rfl | decide +kernel)
    (case nE7 => first | k_is | k_exc | rfl | decide +kernel)
    (case lE9 => first | k_is | k_exc | rfl | decide +kernel)
    (case xE9 => first | k_is | k_exc | rfl | decide +kernel)
    (case nE9 => first | k_is | k_exc | rfl | decide +kernel)
    (case lE10 => first | k_is | k_exc | rfl | decide +kernel)
    (case xE10 => first | k_is | k_exc | rfl | decide +kernel)
    (case nE10 => first | k_is | k_exc | rfl | decide +kernel)
    (case cW_MAX_HANDS => first | k_is | k_exc | rfl | decide +kernel)
    (case aT_MAKERS => first | k_is | k_exc | rfl | decide +kernel)
    (case lT_MAKERS => first | k_is | k_exc | rfl | decide +kernel)
    (case wT_MAKERS => first | k_is | k_exc | rfl | decide +kernel)
    (case aC_WayError => first | k_is | k_exc | rfl | decide +kernel)
    (case aC_Unfit => first | k_is | k_exc | rfl | decide +kernel)
    (case eC_WayError => first | k_is | k_exc | rfl | decide +kernel)
    (case ga_WayError => first | k_is | k_exc | rfl | decide +kernel)
    (case gg_WayError => first | k_is | k_exc | rfl | decide +kernel)
    (case hd_WayError => first | k_is | k_exc | rfl | decide +kernel)
    (case hk_WayError => first | k_is | k_exc | rfl | decide +kernel)
    (case hm_WayError => first | k_is | k_exc | rfl | decide +kernel)
    (case eC_Unfit => first | k_is | k_exc | rfl | decide +kernel)
    (case ga_Unfit => first | k_is | k_exc | rfl | decide +kernel)
    (case gg_Unfit => first | k_is | k_exc | rfl | decide +kernel)
    (case hd_Unfit => first | k_is | k_exc | rfl | decide +kernel)
    (case hk_Unfit => first | k_is | k_exc | rfl | decide +kernel)
    (case hm_Unfit => first | k_is | k_exc | rfl | decide +kernel)
    (case kC_Unfit => first | k_is | k_exc | rfl | decide +kernel)
    (case tC_Unfit => first | k_is | k_exc | rfl | decide +kernel)
    (case xi_Unfit => first | k_is | k_exc | rfl | decide +kernel)
    (case em_WayError_Unfit => first | k_is | k_exc | rfl | decide +kernel)
    (case em_Unfit_Unfit => first | k_is | k_exc | rfl | decide +kernel)
    (case ki_WayError_WayError => first | k_is | k_exc | rfl | decide +kernel)
    (case ki_Unfit_WayError => first | k_is | k_exc | rfl | decide +kernel)
    (case hnX => first | k_is | k_exc | rfl | decide +kernel)
    (case htX => first | k_is | k_exc | rfl | decide +kernel)
    (case z_abs => first | k_is | k_exc | rfl | decide +kernel)
    (case z_bool => first | k_is | k_exc | rfl | decide +kernel)
    (case z_enumerate => first | k_is | k_exc | rfl | decide +kernel)
    (case z_int => first | k_is | k_exc | rfl | decide +kernel)
    (case z_isinstance => first | k_is | k_exc | rfl | decide +kernel)
    (case z_len => first | k_is | k_exc | rfl | decide +kernel)
    (case z_range => first | k_is | k_exc | rfl | decide +kernel)
    (case z_repr => first | k_is | k_exc | rfl | decide +kernel)
    (case z_reversed => first | k_is | k_exc | rfl | decide +kernel)
    (case z_sorted => first | k_is | k_exc | rfl | decide +kernel)
    (case z_str => first | k_is | k_exc | rfl | decide +kernel)
    (case z_tuple => first | k_is | k_exc | rfl | decide +kernel)
