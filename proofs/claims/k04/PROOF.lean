import PyProof.Rows.All
import Wide.All
import OpenK.AllK
import Wide.FinOn
import HandS.ForMost
import HandS.IsInst
import HandS.TupAny
import HandS.Walk
import HandS.Style
import HandS.Conv
import HandS.Wide
import HandS.Flow
import HandS.Defaults
import KE.GoesEnum
import PyProof.ReprLen
import HandS.SortInts
import PyProof.Rows.SortShellAny
import PyProof.NeKinds
import HandS.TupMul
import PyProof.GenCompT
import PyProof.TupleOfGen
import HandS.AnyAll
import HandS.ForExc
import HandS.CallSlots
import PyProof.P3Eq
import HandS.Rev
import HandS.Zip
import HandS.GenList
import PySem.Challenge.RW_roomways_k04_what_houses_are
set_option Elab.async false
set_option linter.all false
set_option maxRecDepth 100000
set_option maxHeartbeats 4000000
namespace Rw
open PySem PySem.Spec PyProof.Rows L2 PySem.SeqAt

/-! ### a text beside a dict: never equal -/
theorem str_declines_dict (b : Str) (u : Tok) (l : Addr) (c : Value) (es : Array DictEntry) (n : Nat) (dd : Option Addr) (sl : Array (Option Value)) :
    Meets (Builtin.«str.__eq__» ⟨[.str b u, .ref l], []⟩) (fun _ R s => s.heap.get? l = some { cls := c, dict := dd, data := .dict es n, slots := sl } ∧ R (.ok (.ret .notImplemented)) s) :=
  .of_wp fun prog w A R s h => by
    obtain ⟨hp, g, d, tk, os⟩ := s
    obtain ⟨hl, h⟩ := h
    wp_walk using AutoSeq1.wpAny_loadPart' hl, wpAny_load hl
    exact ⟨_, rfl, h⟩
theorem dict_declines_str (l : Addr) (es : Array DictEntry) (n : Nat) (dd : Option Addr) (sl : Array (Option Value)) (b : Str) (u : Tok) :
    Meets (Builtin.«dict.__eq__» ⟨[.ref l, .str b u], []⟩) (fun _ R s => s.heap.get? l = some { cls := .type "dict", dict := dd, data := .dict es n, slots := sl } ∧ R (.ok (.ret .notImplemented)) s) :=
  .of_wp fun prog w A R s h => by
    obtain ⟨hp, g, d, tk, os⟩ := s
    obtain ⟨hl, h⟩ := h
    have f1 : isSubtype (.type "str") (.type "dict") = pure false := by rw [isSubtype_type]; kernel_rfl
    wp_walk using AutoSeq1.wpAny_loadPart' hl, wpAny_load hl
    exact ⟨_, rfl, h⟩
theorem sub_dict_str : isSubtype (.type "dict") (.type "str") = pure false := by rw [isSubtype_type]; kernel_rfl
section
variable {A : Around} {s : Shared}
theorem rc_str_dict {l : Addr} {o : Obj} {es : Array DictEntry} {n : Nat} (b : Str) (u : Tok) (ho : s.heap.get? l = some o) (hc : o.cls = .type "dict") (hd : o.data = .dict es n) (hu : A.units < cLine) : RcAt A s (.str b u) (.ref l) false := fun prog w E Q h => by
  obtain ⟨cls, dd, data, sl⟩ := o
  simp only at hc hd
  subst hc hd
  refine rc_eq_decline_or (k := false) (typeIs_str s b u) ⟨_, ho, rfl⟩ (by decide) sub_dict_str F.slot_str_eq F.slot_dict_eq_refl
    (fun _ hq => ?_) (fun _ hq => ?_) (fun _ hq => wpAny_of_eq (rfl : isSame (.str b u) (.ref l) = pure false) hq) (.inr hu) h
  · exact call_meets F.slot_str_eq (typeIs_str s b u) F.entry_str_eq (F.args_str_eq_2 _ _) (str_declines_dict b u l (.type "dict") es n dd sl) ⟨ho, hq⟩
  · exact call_meets F.slot_dict_eq_refl ⟨_, ho, rfl⟩ F.entry_dict_eq (F.args_dict_eq_2 _ _) (dict_declines_str l es n dd sl b u) ⟨ho, hq⟩
theorem eq_str_dict {l : Addr} {o : Obj} {es : Array DictEntry} {n : Nat} (b : Str) (u : Tok) (ho : s.heap.get? l = some o) (hc : o.cls = .type "dict") (hd : o.data = .dict es n) (hu : A.units < cLine) : EqAt A s (.str b u) (.ref l) false := fun prog w E Q h => by
  unfold eqBool
  refine wpAny_holding ?_
  refine wpAny_ite_split (fun hab => absurd (eq_of_beq hab) nofun) (fun _ => ?_)
  exact wpAny_bind (rc_str_dict b u ho hc hd hu prog w E _ (wpAny_truthy_bool h))
end
end Rw
namespace Rw
open PySem PySem.Spec PyProof.Rows L2 PySem.SeqAt

/-! ### a value as data, all of whose objects stand, none of them at a place that av forbids -/
mutual
inductive Rp (av : Addr → Prop) (H : Hp) : V → PyData → Prop
  | non : Rp av H .non .none
  | bl (b : Bool) : Rp av H (.bl b) (.bool b)
  | int (i : Int) : Rp av H (.int i) (.int i)
  | str (x : Str) : Rp av H (.str x) (.str x)
  | lst {a : Addr} {xs : List V} {ds : List PyData} : ¬ av a → H a = some (.lst xs) → RpAll av H xs ds → Rp av H (.ref a) (.list ds)
  | tup {a : Addr} {xs : List V} {ds : List PyData} : ¬ av a → H a = some (.tup xs) → RpAll av H xs ds → Rp av H (.ref a) (.tuple ds)
  | dct {a : Addr} {k : Str} {v : V} {d : PyData} : ¬ av a → H a = some (.dK [(.inr k, v)]) → Rp av H v d → Rp av H (.ref a) (.dict [(.str k, d)])
inductive RpAll (av : Addr → Prop) (H : Hp) : List V → List PyData → Prop
  | nil : RpAll av H [] []
  | cons {v : V} {vs : List V} {d : PyData} {ds : List PyData} : Rp av H v d → RpAll av H vs ds → RpAll av H (v :: vs) (d :: ds)
end
/-- what stood at places that av does not name stands -/
def Ext (av : Addr → Prop) (H H' : Hp) : Prop := ∀ b o, ¬ av b → H b = some o → H' b = some o
section
variable {av : Addr → Prop} {H H' : Hp}
theorem Ext.refl : Ext av H H := fun _ _ _ h => h
theorem Ext.trans {H1 H2 H3 : Hp} (a : Ext av H1 H2) (b : Ext av H2 H3) : Ext av H1 H3 := fun c o n h => b c o n (a c o n h)
theorem Ext.of_same {H1 H2 : Hp} (a : Same H1 H2) : Ext av H1 H2 := fun c o _ h => a c o h
theorem same_new {p : Addr} (h : H p = none) (o : HO) : Same H (upd H p o) := fun b u q => by
  rw [upd_ne (ne_of_none q h)]
  exact q
theorem Ext.new {p : Addr} (h : H p = none) (o : HO) : Ext av H (upd H p o) := Ext.of_same (same_new h o)
theorem Ext.put {p : Addr} (h : av p) (o : HO) : Ext av H (upd H p o) := fun b u n q => by
  rw [upd_ne (fun e => n (by rw [e]; exact h))]
  exact q
mutual
theorem Rp.mono (e : Ext av H H') : ∀ {v : V} {d : PyData}, Rp av H v d → Rp av H' v d
  | _, _, .non => .non
  | _, _, .bl b => .bl b
  | _, _, .int i => .int i
  | _, _, .str x => .str x
  | _, _, .lst n h r => .lst n (e _ _ n h) (RpAll.mono e r)
  | _, _, .tup n h r => .tup n (e _ _ n h) (RpAll.mono e r)
  | _, _, .dct n h r => .dct n (e _ _ n h) (Rp.mono e r)
theorem RpAll.mono (e : Ext av H H') : ∀ {v : List V} {d : List PyData}, RpAll av H v d → RpAll av H' v d
  | _, _, .nil => .nil
  | _, _, .cons a b => .cons (Rp.mono e a) (RpAll.mono e b)
end
theorem RpAll.len : ∀ {vs : List V} {ds : List PyData}, RpAll av H vs ds → vs.length = ds.length
  | _, _, .nil => rfl
  | _, _, .cons _ b => by rw [List.length_cons, List.length_cons, RpAll.len b]
theorem RpAll.at : ∀ {vs : List V} {ds : List PyData} {i : Nat} {v : V}, RpAll av H vs ds → vs[i]? = some v → ∃ d, ds[i]? = some d ∧ Rp av H v d
  | _, _, _, _, .nil, h => by simp at h
  | _, _, 0, _, .cons a _, h => by
    have e := Option.some.inj h
    subst e
    exact ⟨_, rfl, a⟩
  | _, _, i + 1, _, .cons _ b, h => RpAll.at (i := i) b h
theorem RpAll.app : ∀ {vs ws : List V} {ds es : List PyData}, RpAll av H vs ds → RpAll av H ws es → RpAll av H (vs ++ ws) (ds ++ es)
  | _, _, _, _, .nil, q => q
  | _, _, _, _, .cons a b, q => .cons a (RpAll.app b q)
theorem RpAll.take : ∀ {vs : List V} {ds : List PyData} (n : Nat), RpAll av H vs ds → RpAll av H (vs.take n) (ds.take n)
  | _, _, 0, _ => .nil
  | _, _, _ + 1, .nil => .nil
  | _, _, n + 1, .cons a b => .cons a (RpAll.take n b)
theorem RpAll.drop : ∀ {vs : List V} {ds : List PyData} (n : Nat), RpAll av H vs ds → RpAll av H (vs.drop n) (ds.drop n)
  | _, _, 0, q => q
  | _, _, _ + 1, .nil => .nil
  | _, _, n + 1, .cons _ b => RpAll.drop n b
theorem RpAll.set {v : V} {d : PyData} (r : Rp av H v d) : ∀ {vs : List V} {ds : List PyData} (n : Nat), RpAll av H vs ds → RpAll av H (vs.set n v) (ds.set n d)
  | _, _, _, .nil => .nil
  | _, _, 0, .cons _ b => .cons r b
  | _, _, n + 1, .cons a b => .cons a (RpAll.set r n b)
theorem RpAll.snoc {vs : List V} {ds : List PyData} {v : V} {d : PyData} (a : RpAll av H vs ds) (b : Rp av H v d) : RpAll av H (vs ++ [v]) (ds ++ [d]) := a.app (.cons b .nil)
theorem RpAll.ints : ∀ ns : List Int, RpAll av H (ns.map V.int) (ns.map PyData.int)
  | [] => .nil
  | n :: r => .cons (.int n) (RpAll.ints r)
end

/-! ### what it reads as -/
section
variable {X : Cx} {pins : List (Addr × Obj)} {σ : L2.St} {H : Hp} {s : Shared} {av : Addr → Prop}
theorem no_sys (I : Inv X pins σ H s) {o : Obj} (hk : X.K.lookup sysModules = some o) {a : Addr} {u : HO} (h : H a = some u) : a ≠ sysModules := fun e => by
  have q := (I.bs sysModules o (I.mod.kin _ _ hk)).2
  rw [← e, h] at q
  cases q
mutual
theorem Rp.reads (I : Inv X pins σ H s) : ∀ (d : PyData) (v : V) (u : Value), Rp av H v d → RelV v u → ∃ as, Reads s.heap u d as ∧ ∀ b ∈ as, ∃ o, H b = some o
  | .none, _, _, h, r => by
    cases h
    cases r
    exact ⟨_, Reads.none, fun b hb => absurd hb (by simp)⟩
  | .bool b, _, _, h, r => by
    cases h
    cases r
    exact ⟨_, Reads.bool b, fun b hb => absurd hb (by simp)⟩
  | .int i, _, _, h, r => by
    cases h
    obtain ⟨t, rfl⟩ := r
    exact ⟨_, Reads.int i t, fun b hb => absurd hb (by simp)⟩
  | .str x, _, _, h, r => by
    cases h
    obtain ⟨t, rfl⟩ := r
    exact ⟨_, Reads.str x t, fun b hb => absurd hb (by simp)⟩
  | .list ds, _, _, h, r => by
    cases h with
    | lst n hs ha =>
      cases r
      obtain ⟨its, rv, ⟨o, n, ho, hc, _, hd⟩, _⟩ := I.list (SqL.of hs)
      obtain ⟨as, hr, hk⟩ := RpAll.reads I ds _ its ha rv
      refine ⟨_, Reads.list ho hc hd hr, fun b hb => ?_⟩
      rcases List.mem_cons.mp hb with e | e
      · rw [e]
        exact ⟨_, hs⟩
      · exact hk b e
  | .tuple ds, _, _, h, r => by
    cases h with
    | tup n hs ha =>
      cases r
      obtain ⟨its, rv, ⟨o, ho, hc, n, hd⟩, _⟩ := I.tuple (SqT.of hs)
      obtain ⟨as, hr, hk⟩ := RpAll.reads I ds _ its ha rv
      exact ⟨_, Reads.tuple ho hc hd hr, hk⟩
  | .dict kds, _, _, h, r => by
    cases h with
    | @dct a k v d n hs ha =>
      cases r
      obtain ⟨_, _, vs, kv, o, es, ep, ho, hx, hd, hks, hp, _⟩ := (show ObjOk X.prog X.w H s.heap a (.dK [(.inr k, v)]) from I.hok a _ hs)
      cases vs with
      | nil => cases kv
      | cons q0 qt =>
        cases kv with
        | cons r1 rt =>
        cases rt
        obtain ⟨k2, u2⟩ := q0
        obtain ⟨e1, r2⟩ := r1
        simp only at e1 r2
        subst e1
        obtain ⟨as, hr, hk⟩ := Rp.reads I d v u2 ha r2
        generalize hl : es.toList = el at hp
        cases el with
        | nil => cases hp
        | cons e0 et =>
          cases hp with
          | cons i1 i2 i3 =>
          cases i3
          obtain ⟨t, ek⟩ := Value.isStrOf_shape (x := k) (v := e0.key) i1
          refine ⟨a :: ([] ++ []) ++ (as ++ []), Reads.dict ho hx.1 hd ?_ ?_, fun b hb => ?_⟩
          · rw [hl]
            show ReadsAll s.heap [e0.key] [.str k] ([] ++ [])
            rw [ek]
            exact .cons (.str k t) .nil
          · rw [hl]
            show ReadsAll s.heap [e0.val] [d] (as ++ [])
            rw [show e0.val = u2 from i2]
            exact .cons hr .nil
          · simp only [List.append_nil, List.cons_append, List.nil_append, List.mem_cons] at hb
            rcases hb with e | e
            · rw [e]
              exact ⟨_, hs⟩
            · exact hk b e
theorem RpAll.reads (I : Inv X pins σ H s) : ∀ (ds : List PyData) (vs : List V) (us : List Value), RpAll av H vs ds → Vals vs us → ∃ as, ReadsAll s.heap us ds as ∧ ∀ b ∈ as, ∃ o, H b = some o
  | [], _, _, h, r => by
    cases h
    cases r
    exact ⟨_, ReadsAll.nil, fun b hb => absurd hb (by simp)⟩
  | d :: ds, _, _, h, r => by
    cases h with
    | cons h1 h2 =>
      cases r with
      | cons r1 r2 =>
        obtain ⟨as, q1, k1⟩ := Rp.reads I d _ _ h1 r1
        obtain ⟨bs, q2, k2⟩ := RpAll.reads I ds _ _ h2 r2
        refine ⟨_, ReadsAll.cons q1 q2, fun b hb => ?_⟩
        rcases List.mem_append.mp hb with e | e
        · exact k1 b e
        · exact k2 b e
end
/-- repr(value) -/
def rRepr (K : PySem.W.Frag) : List V → Hp → VK → Prop := fun xs H Q => ∃ (av : Addr → Prop) (v : V) (d : PyData), xs = [v] ∧ Rp av H v d ∧ d.showable = true ∧ d.shown.length ≤ sizeLine ∧ d.depth ≤ 100 ∧ Q (.str d.shown) H
theorem call_repr (hg : X.A.guards = some []) (hu : X.A.units + 102 < cLine) (hk : ∃ o, X.K.lookup sysModules = some o) : CallR X (.builtin "repr") (rRepr X.K) := by
  intro pins s σ H xs us Q I r h
  obtain ⟨av, v, d, rfl, rp, hs, hz, hd, q⟩ := h
  obtain ⟨u, rfl, r1⟩ := vals1 r
  obtain ⟨o, hk⟩ := hk
  obtain ⟨as, rd, ht⟩ := rp.reads I d v u r1
  cases rd with
  | none => exact PySem.P.repr_of_none ⟨.str _, H, I.tok _, ⟨_, rfl⟩, q⟩
  | bool b => exact PySem.P.repr_of_bool ⟨.str _, H, I.tok _, ⟨_, rfl⟩, q⟩
  | int i t => exact PySem.P.repr_of_int (of_decide_eq_true hs) ⟨.str _, H, I.tok _, ⟨_, rfl⟩, q⟩
  | str x t => exact PySem.P.repr_of_str ⟨.str _, H, I.tok _, ⟨_, rfl⟩, q⟩ hz
  | list h1 h2 h3 h4 =>
    refine repr_of_reads' (.list h1 h2 h3 h4) hs (fun _ hm => ?_) hg (by omega) (fun _ _ e => e) (fun h' u tk hk2 => ⟨.str _, H, I.kept hk2, ⟨_, rfl⟩, q⟩) hz
    obtain ⟨w, hw⟩ := ht _ hm
    exact no_sys I hk hw rfl
  | tuple h1 h2 h3 h4 =>
    refine repr_of_reads' (.tuple h1 h2 h3 h4) hs (fun _ hm => ?_) hg (by omega) (fun _ _ e => e) (fun h' u tk hk2 => ⟨.str _, H, I.kept hk2, ⟨_, rfl⟩, q⟩) hz
    obtain ⟨w, hw⟩ := ht _ hm
    exact no_sys I hk hw rfl
  | dict h1 h2 h3 h4 h5 =>
    refine repr_of_reads' (.dict h1 h2 h3 h4 h5) hs (fun _ hm => ?_) hg (by omega) (fun _ _ e => e) (fun h' u tk hk2 => ⟨.str _, H, I.kept hk2, ⟨_, rfl⟩, q⟩) hz
    obtain ⟨w, hw⟩ := ht _ hm
    exact no_sys I hk hw rfl
end
end Rw
namespace Rw
open PySem PySem.Spec PyProof.Rows L2 PySem.SeqAt

/-! ### enumerate(a tuple) -/
abbrev tupIt (t : Addr) : Obj :=
  { cls := .type "tuple_iterator", data := .fields #[.ref t, .int 0 0] }
abbrev enumOb (i : Addr) : Obj :=
  { cls := .type "enumerate", data := .fields #[.none, .bool false, .ref i, rawInt 0, .none, .none] }
theorem enum_made (t : Addr) (items : Array Value) : Meets (Builtin.«enumerate.__new__» ⟨[.type "enumerate", .ref t], []⟩)
    (fun _ R s => s.heap.IsTuple t items ∧
      R (.ok (.ret (.ref (s.heap.push (tupIt t)).objs.size)))
        { s with heap := (s.heap.push (tupIt t)).push (enumOb s.heap.objs.size) }) := by
  refine .of_wp fun prog w A R s h => ?_
  cases s with
  | mk hp g d tk os =>
  have ht := h.1
  have hR := h.2
  have sub := sub_enumerate
  have begin_ : ∀ {A' : Around} {E : Value → Shared → Prop} {Q : Value → Shared → Prop}, Q (.ref hp.objs.size) ⟨hp.push (tupIt t), g, d, tk, os⟩ →
      wpAny (model prog w) A' (pyIter (.ref t)) Q E ⟨hp, g, d, tk, os⟩ := fun q => wpAny_pyIter_tuple ht q
  wp_walk using begin_
  refine wpAny_stack_any fun st => wpAny_pure ?_
  split
  · rename_i c _ _ _ _ _
    cases (c == Value.type "enumerate") <;> (wp_walk using begin_; exact ⟨_, rfl, hR⟩)
  · wp_walk using begin_
    exact ⟨_, rfl, hR⟩
section
variable {prog : Program} {w : World} {A : Around} {E : Value → Shared → Prop} {s : Shared}
theorem call_enum_tup {t : Addr} {items : Array Value} {Q : Value → Shared → Prop} (ht : s.heap.IsTuple t items)
    (h : ∀ h', IsEnum h' (s.heap.objs.size + 1) s.heap.objs.size 0 .none → h'.IsTupleIter s.heap.objs.size t 0 →
      (∀ b o, s.heap.get? b = some o → h'.get? b = some o) → Q (.ref (s.heap.objs.size + 1)) { s with heap := h' }) :
    wpAny (model prog w) A (call (.type "enumerate") [.ref t]) Q E s := by
  refine callType_new F.called_enumerate (by decide) (F.typeCall_enumerate_1 _) (F.newCall_enumerate_1 _)
    (fun obj => F.args_object_init_2 obj _) F.entry_enumerate_new (enum_made t items) ⟨ht, ?_⟩
  have size1 : (s.heap.push (tupIt t)).objs.size = s.heap.objs.size + 1 := Heap.size_push ..
  show _ ∧ _
  rw [size1]
  have at1 : IsEnum ((s.heap.push (tupIt t)).push (enumOb s.heap.objs.size)) (s.heap.objs.size + 1) s.heap.objs.size 0 .none := by
    rw [← size1]
    exact Heap.get?_push_size (s.heap.push (tupIt t)) (o := enumOb s.heap.objs.size) rfl
  have at0 : ((s.heap.push (tupIt t)).push (enumOb s.heap.objs.size)).IsTupleIter s.heap.objs.size t 0 :=
    ⟨_, Heap.get?_push_of_some _ (Heap.get?_push_size _ rfl), rfl, rfl⟩
  exact ⟨⟨_, at1, rfl⟩, h _ at1 at0 fun b o x => Heap.get?_push_of_some _ (Heap.get?_push_of_some _ x)⟩
end
/-- the tuple at a, each item in a new pair behind its place -/
def Itet (K : PySem.W.Frag) (a : Addr) : It where
  go i H := ∃ (xs : List V) (x : V), SqT K H a xs ∧ xs[i]? = some x
  yld i H v H' := ∃ T x, v = .ref T ∧ H T = none ∧ H' = upd H T (.tup [.int (i : Nat), x]) ∧ ∀ xs, SqT K H a xs → xs[i]? = some x
  stop i H := ∃ xs : List V, SqT K H a xs ∧ xs.length ≤ i
abbrev enSt (a e it : Addr) (i : Nat) (h : Heap) : Prop := (∃ old, IsEnum h e it ((i : Nat) : Int) old) ∧ h.IsTupleIter it a i ∧ e ≠ it ∧ e ≠ a ∧ it ≠ a
theorem turn_enumT {P : Program} {w : World} {K : PySem.W.Frag} {elts : List Expr} {kk : Nat} {tpos : Pos} (a e it : Addr) :
    Turn P w K (.Tuple elts kk tpos) (Itet K a) [e, it] e (enSt a e it) where
  mem := List.mem_cons_self ..
  obj := fun i h st b hb => by
    obtain ⟨⟨old, he⟩, ⟨o, ho, _, hd⟩, _⟩ := st
    simp only [List.mem_cons, List.not_mem_nil, or_false] at hb
    cases hb with
    | inl z => rw [z]; exact ⟨_, he, fun v q => nomatch q⟩
    | inr z => rw [z]; exact ⟨o, ho, fun v q => by rw [hd] at q; cases q⟩
  keep := fun i h h' st k => by
    obtain ⟨⟨old, he⟩, hi, rest⟩ := st
    exact ⟨⟨old, k e (by simp) _ he⟩, hi.at fun o q => k it (by simp) o q, rest⟩
  item := by
    intro X hP hw hK hc i pins s σ H E I hf st hg
    subst hP hw hK
    obtain ⟨⟨old, he⟩, hit, hne, hea, hia⟩ := st
    obtain ⟨xs, x, hq, hx⟩ := hg
    obtain ⟨its, rv, p, _⟩ := I.tuple hq
    obtain ⟨u, hu, ru⟩ := rv.get hx
    have p' : s.heap.IsTuple a its.toArray := p
    have el : e < s.heap.objs.size := Heap.lt_size he
    have il : it < s.heap.objs.size := by
      obtain ⟨_, q, _⟩ := hit
      exact Heap.lt_size q
    have lt : i < its.toArray.size := by
      have q := (List.getElem?_eq_some_iff.mp hu).1
      simpa using q
    have D := Draws.tuple (prog := X.prog) (w := X.w) (A := X.A.in1) (show X.A.in1.handled = none from I.ok.hd hc) it a (Ne.symm hia) its.toArray
    refine wpAny_pyNext_enum_itemD D he ⟨hit, p'⟩ lt hne (by simp [hne, hea]) fun y h' tk hy ho hst hT hsz hk => ?_
    have ey : y = u := by
      have q : its.toArray[i]? = some u := by simpa using hu
      exact Option.some.inj (hy.symm.trans q)
    subst ey
    refine ⟨_, rfl, wpAny_letOwnedTupleGo_enum (s := { s with heap := h', toks := tk + 1 }) ho fun h2 he2 sb => ?_⟩
    have hT2 : h2.get? s.heap.objs.size = some { cls := .type "tuple", data := .seq #[.int i tk, y] } := (sb.2 _ (Nat.ne_of_gt el)).trans hT
    have new : ObjOk X.prog X.w (upd H s.heap.objs.size (.tup [.int (i : Nat), x])) h2 s.heap.objs.size (.tup [.int (i : Nat), x]) := by
      refine ⟨by show 2 ≤ sizeLine; decide, [.int i tk, y], .cons ⟨_, rfl⟩ (.cons ru .nil), ?_⟩
      exact ⟨_, hT2, rfl, _, rfl⟩
    have turned : ∀ b ob, b ∉ [e, it] → s.heap.get? b = some ob → h2.get? b = some ob := fun b ob hb q => by
      have n1 : b ≠ e := fun z => hb (by simp [z])
      have n2 : b ≠ it := fun z => hb (by simp [z])
      exact (sb.2 b n1).trans (hk b ob n1 n2 q)
    have I1 : Inv X pins σ (upd H s.heap.objs.size (.tup [.int (i : Nat), x])) { s with heap := h2, toks := tk + 1 } := I.turnedNew (ch := [e, it]) turned hf (Nat.le_refl _) new
    refine ⟨.ref s.heap.objs.size, _, I1, rfl, ⟨_, x, rfl, I.hok.fresh (Nat.le_refl _), rfl, fun ys hy => ?_⟩, ⟨⟨y, ?_⟩, ?_, hne, hea, hia⟩, fun b hb => ?_⟩
    · rw [I.tuple_inj hy hq]
      exact hx
    · have e1 : ((i + 1 : Nat) : Int) = (i : Int) + 1 := by omega
      rw [e1]
      exact he2
    · exact hst.1.at fun o q => (sb.2 it (Ne.symm hne)).trans q
    · have lo : b < s.heap.objs.size := by
        simp only [List.mem_cons, List.not_mem_nil, or_false] at hb
        cases hb with
        | inl z => rw [z]; exact el
        | inr z => rw [z]; exact il
      rw [upd_ne (Nat.ne_of_lt lo)]
      exact (hf b hb).1
  done := by
    intro X hP hw hK hc i pins s σ H E I hf st hg
    subst hP hw hK
    obtain ⟨⟨old, he⟩, hit, hne, hea, hia⟩ := st
    obtain ⟨xs, hq, hx⟩ := hg
    obtain ⟨its, rv, p, _⟩ := I.tuple hq
    have p' : s.heap.IsTuple a its.toArray := p
    obtain ⟨f0, f1, f2, f3, f4, f5⟩ := hf it (by simp)
    have hl := rv.length
    unfold pyNext
    refine wpAny_bind (wpAny_attempt (wpAny_callSpecial?_slot (name := Str.ofString "__next__") ⟨_, he, rfl⟩ F.slot_enumerate_next ?_))
    refine wpAny_call_entry F.slot_enumerate_next ⟨_, he, rfl⟩ F.entry_enumerate_next ?_ (F.args_enumerate_next_1 _)
    show wpAny _ _ (field (.ref e) 2 >>= _) _ _ _
    refine wpAny_bind (wpAny_field he rfl (x := .ref it) rfl ?_)
    refine wpAny_bind (wpAny_nextOf_tuple_end (I.ok.hd hc) hit p' (by simp; omega) fun h' e2 he' hx' => ?_)
    obtain ⟨o2, ho2, hc2⟩ := hx'
    refine wpAny_bind (wpAny_isInstance (T := "StopIteration") (b := true) ⟨o2, ho2, hc2⟩ isSubtype_stop ?_)
    exact wpAny_pure ⟨rfl, I.turned (t' := s.toks) (fun b o hb q => he' b o hb q) f0 f1 f3 f4 f5⟩
  self := fun A i s Q E st h => by
    obtain ⟨⟨_, he⟩, _⟩ := st
    exact wpAny_pyIter_enum he h
def iEnumT (K : PySem.W.Frag) (ta : TA) : TI := fun σ H R => ta σ H fun vs H1 => ∃ a xs, vs = [.ref a] ∧ SqT K H1 a xs ∧ R (Itet K a) H1
theorem pi_enumT {X : Cx} {e : Expr} {ta : TA} {p pos tpos : Pos} {elts : List Expr} {kk : Nat} (hg : Gl X "enumerate") (hm : X.mg "enumerate" = none) (ha : PA X [e] ta)
    (hs : starEach [e] X.env = [(false, eval e X.env)] := by rfl) : PI X (.Tuple elts kk tpos) (.Call (.Name "enumerate" p) [e] [] pos) (iEnumT X.K ta) := by
  refine ⟨fun pins s σ H R I h => ?_⟩
  refine Call_ (ld_blt I hg hm boot_enumerate (PyProof.Rows.callWith_type1 ?_ hs rfl))
  refine thn (ha.run pos pins s σ H _ I h) fun us s1 ⟨vs, H1, I1, r1, a, xs, ex, hq, q⟩ => ?_
  subst ex
  obtain ⟨u, rfl, r⟩ := vals1 r1
  cases r
  obtain ⟨its, rv, p', hz⟩ := I1.tuple hq
  have p2 : s1.heap.IsTuple a its.toArray := p'
  have al : a < s1.heap.objs.size := by
    obtain ⟨_, q, _⟩ := p2
    exact Heap.lt_size q
  refine call_enum_tup p2 fun h' he hit hk => wpAny_pyIter_enum he ?_
  have I2 : Inv X pins σ H1 { s1 with heap := h' } := I1.kept (t' := s1.toks) hk
  have n1 : s1.heap.objs.size + 1 ≠ a := Nat.ne_of_gt (Nat.lt_succ_of_lt al)
  have n2 : s1.heap.objs.size ≠ a := Nat.ne_of_gt al
  refine ⟨s1.heap.objs.size + 1, [s1.heap.objs.size + 1, s1.heap.objs.size], _, _, H1, rfl, I2, turn_enumT a (s1.heap.objs.size + 1) s1.heap.objs.size, ⟨⟨.none, he⟩, hit, Nat.succ_ne_self _, n1, n2⟩, fun b hb => ?_, q⟩
  have hle : s1.heap.objs.size ≤ b := by
    simp only [List.mem_cons, List.not_mem_nil, or_false] at hb
    cases hb with
    | inl z => rw [z]; exact Nat.le_add_right _ _
    | inr z => rw [z]; exact Nat.le_refl _
  exact I1.fpOk hle (I1.hok.fresh hle)
theorem walk_enumT {K : PySem.W.Frag} {a : Addr} {xs : List V} : Walk (Itet K a) xs.length (fun H => SqT K H a xs) (YPair (fun i => some (.int (i : Nat))) (fun i => xs[i]?)) where
  goes := fun i _ hi q => ⟨xs, xs[i], q, by simp [hi]⟩
  stops := fun _ q => ⟨xs, q, Nat.le_refl _⟩
  yields := fun i H v H' _ q y => by
    obtain ⟨T, x, h1, h2, h3, h4⟩ := y
    exact ⟨T, .int (i : Nat), x, h1, h2, h3, rfl, h4 xs q⟩

/-! ### a def called by names alone -/
section
variable {X : Cx} {CX : CXT} {k : Nat} {f : Addr} {fd : FuncData} {ps ks : List Str} {sp : Sp} {E : XK} {x : Str} {p pos : Pos} {kws : List Keyword} {tk : TA} {g : List Value → List Value → List Value} {gV : List V → List V → List V}
theorem pe_callK0 (F : FnOk X.prog X.w X.K X.mg X.base CX k f fd ps sp) (hr : Room k X.A) (hg : Gl X x) (hm : X.mg x = some (.ref f)) (hk : PySem.W.keepIn X.K (.ref f) = true) (hb : KBinds X.K fd ps ks g gV) (hx : Passes CX X E) (hkw : PK X kws tk)
    (hall : (backToKw pos (keywordEach kws X.env)).all (·.1.isSome) = true := by rfl) (hks : (backToKw pos (keywordEach kws X.env)).filterMap (·.1) = ks := by rfl)
    (hdb : (x == ("__debug__" : Str)) = false := by decide) (hpl : ((backTo pos (starEach [] X.env)).any (·.1) || (backToKw pos (keywordEach kws X.env)).any (·.1.isNone)) = false := by rfl) :
    PE X (.Call (.Name x p) [] kws pos) (tCallK sp gV E tNil tk) := by
  refine ⟨fun pins s σ H Q I h => ?_⟩
  refine wpAny_Call_Name_kw (ld_glob I hg hm ?_ hdb)
  refine PySem.W.callWith_KW0 (h₀ := X.base) I.ok.mod.kin hk hall ?_ hpl
  refine thn (hkw.run pos pins s σ H _ I h) fun ws s2 ⟨zs, H2, I2, rz, q2⟩ => ⟨I2.kIn, ?_⟩
  rw [hks]
  exact run_fnk (vs := []) (us := []) F hr hb hx I2 .nil rz q2
end
end Rw
namespace Rw
open PySem PySem.Spec PyProof.Rows L2 PySem.SeqAt

/-! ### a value of any kind among texts -/
def eqS (d : PyData) (z : Str) : Bool := match d with
  | .str x => z == x
  | _ => false
def eqV2 (d : PyData) (y : Value) : Bool := match y with
  | .str z _ => eqS d z
  | _ => false
theorem strs_any (d : PyData) : ∀ (zs : List Str) (us : List Value), Vals (zs.map V.str) us → us.any (eqV2 d) = zs.any (eqS d)
  | [], _, r => by cases r; rfl
  | z :: zs, _, r => by
    cases r with
    | cons r1 r2 =>
      obtain ⟨t, rfl⟩ := r1
      rw [List.any_cons, List.any_cons, strs_any d zs _ r2]
      rfl
theorem strs_mem : ∀ {zs : List Str} {us : List Value}, Vals (zs.map V.str) us → ∀ y ∈ us, ∃ z t, y = .str z t
  | [], _, r, y, hy => by cases r; cases hy
  | z :: zs, _, r, y, hy => by
    cases r with
    | cons r1 r2 =>
      obtain ⟨t, rfl⟩ := r1
      rcases List.mem_cons.mp hy with e | e
      · exact ⟨z, t, e⟩
      · exact strs_mem r2 y e
theorem str_eqAt {A : Around} {s : Shared} {u : Value} {d : PyData} {as : List Addr} (hu : A.units < cLine) (rd : Reads s.heap u d as) (z : Str) (t : Tok) : EqAt A s (.str z t) u (eqS d z) := by
  cases rd with
  | none => exact EqAt.str_none z t
  | bool b => exact EqAt.str_bool z t b
  | int i k => exact EqAt.str_int z t i k
  | str x k => exact EqAt.str_str z t x k
  | list h1 h2 h3 h4 => exact EqAt.str_list z t ⟨_, h1, h2, _, h3⟩ hu
  | tuple h1 h2 h3 h4 => exact EqAt.str_tuple z t ⟨_, h1, h2, _, h3⟩ hu
  | dict h1 h2 h3 h4 h5 => exact eq_str_dict z t h1 h2 h3 hu
section
variable {X : Cx}
def rInS (K : PySem.W.Frag) (neg : Bool) : R2 := fun x y H Q => ∃ (av : Addr → Prop) (d : PyData) (p : Addr) (zs : List Str), Rp av H x d ∧ y = .ref p ∧ SqT K H p (zs.map V.str) ∧ Q (.bl (neg != zs.any (eqS d))) H
theorem op_inS (hu : X.A.units + 1 < cLine) : OpR X (compareOp .In) (rInS X.K false) := by
  intro pins s σ H x y v u Q I rx ry h
  obtain ⟨av, d, p, zs, hd, rfl, ht, q⟩ := h
  cases ry
  obtain ⟨as, rd, _⟩ := hd.reads I d x v rx
  obtain ⟨its, rv, ht2, _⟩ := I.tuple ht
  refine in_tupleAt (eqV2 d) ht2 (fun y hy => ?_) ?_
  · obtain ⟨z, t, rfl⟩ := strs_mem rv y (by simpa using hy)
    exact str_eqAt hu rd z t
  · refine ⟨.bl _, H, I, rfl, ?_⟩
    rw [← Array.any_toList, strs_any d zs its rv]
    simpa using q
theorem op_notInS (hu : X.A.units + 1 < cLine) : OpR X (compareOp .NotIn) (rInS X.K true) := by
  intro pins s σ H x y v u Q I rx ry h
  obtain ⟨av, d, p, zs, hd, rfl, ht, q⟩ := h
  cases ry
  obtain ⟨as, rd, _⟩ := hd.reads I d x v rx
  obtain ⟨its, rv, ht2, _⟩ := I.tuple ht
  refine notIn_tupleAt (eqV2 d) ht2 (fun y hy => ?_) ?_
  · obtain ⟨z, t, rfl⟩ := strs_mem rv y (by simpa using hy)
    exact str_eqAt hu rd z t
  · refine ⟨.bl _, H, I, rfl, ?_⟩
    rw [← Array.any_toList, strs_any d zs its rv]
    simpa using q
/-- t == () -/
def rEqNil (K : PySem.W.Frag) : R2 := fun x y H Q => ∃ (a b : Addr) (xs : List V), x = .ref a ∧ y = .ref b ∧ SqT K H a xs ∧ SqT K H b [] ∧ Q (.bl (decide (xs = []))) H
theorem op_eqNil (hu : X.A.units < cLine) : OpR X (compareOp .Eq) (rEqNil X.K) := by
  intro pins s σ H x y v u Q I rx ry h
  obtain ⟨a, b, xs, rfl, rfl, ha, hb, q⟩ := h
  cases rx
  cases ry
  obtain ⟨its, rv, h1, _⟩ := I.tuple ha
  obtain ⟨its2, rv2, h2, _⟩ := I.tuple hb
  cases rv2
  refine eq_tupleAt (e := fun _ => false) h1 h2 hu (fun j k1 k2 => absurd k2 (by simp)) ⟨.bl _, H, I, rfl, ?_⟩
  have e : ((List.range (min its.toArray.size ([] : List Value).toArray.size)).all (fun _ => false) && its.toArray.size == ([] : List Value).toArray.size) = decide (xs = []) := by
    have l := rv.length
    cases xs with
    | nil =>
      cases its with
      | nil => simp
      | cons _ _ => simp at l
    | cons _ _ =>
      cases its with
      | nil => simp at l
      | cons _ _ => simp
  rw [e]
  exact q
end

/-! ### isinstance of data -/
def clsOf : PyData → String
  | .none => "NoneType"
  | .bool _ => "bool"
  | .int _ => "int"
  | .str _ => "str"
  | .list _ => "list"
  | .tuple _ => "tuple"
  | .dict _ => "dict"
theorem Rp.ty {K : PySem.W.Frag} {av : Addr → Prop} {H : Hp} {v : V} {d : PyData} (h : Rp av H v d) : TyX K H v (.type (clsOf d)) := by
  cases h with
  | non => exact .base .non
  | bl b => exact .base (.bl b)
  | int i => exact .base (.int i)
  | str x => exact .base (.str x)
  | lst _ h _ => exact .base (.lst h)
  | tup _ h _ => exact .base (.tup h)
  | dct _ h _ => exact .base (.dK h)
def isC (n c : String) : Bool := c == n || (c == "bool" && n == "int")
def isT (n : String) (d : PyData) : Bool := isC n (clsOf d)
def clsAll : List String := ["NoneType", "bool", "int", "str", "list", "tuple", "dict"]
theorem clsOf_mem (d : PyData) : clsOf d ∈ clsAll := by
  cases d <;> simp [clsOf, clsAll]
theorem kit_all : ∀ c ∈ clsAll, ∀ n ∈ ["tuple", "int", "bool", "str", "list"], kitB c n = some (isC n c) := by decide +kernel
theorem kit_isT {K : PySem.W.Frag} (d : PyData) (n : String) (hn : n ∈ ["tuple", "int", "bool", "str", "list"]) : PySem.W.kitOne K (.type (clsOf d)) (.type n) = some (isT n d) :=
  kit_ty (kit_all _ (clsOf_mem d) n hn)
section
variable {X : Cx}
def rIsD (K : PySem.W.Frag) (n : String) : List V → Hp → VK → Prop := fun xs H Q => ∃ (av : Addr → Prop) (x : V) (d : PyData), xs = [x, .ty n] ∧ Rp av H x d ∧ Q (.bl (isT n d)) H
theorem call_isD {n : String} (hn : n ∈ ["tuple", "int", "bool", "str", "list"]) : CallR X (.builtin "isinstance") (rIsD X.K n) := by
  intro pins s σ H xs us Q I r h
  obtain ⟨av, x, d, rfl, hd, q⟩ := h
  exact call_isi pins s σ H _ us Q I r ⟨x, .ty n, _, _, _, rfl, .ty n, hd.ty, kit_isT d n hn, q⟩
end
end Rw
namespace Rw
open PySem L2
def top (i : Nat) : Stmt := PySem.Challenge.pw_roomways_k04_what_houses_are.main.body.getD i (.Pass ⟨0, 0, 0, 0⟩)
abbrev sDeck : Stmt := top 26
abbrev sDraw : Stmt := top 27
abbrev sPick : Stmt := top 28

/-! ### the deck -/
def deckKV (gl : Addr) (sd tn : Int) : List (Key × V) := [(.inr "great", .ref gl), (.inr "seal", .int sd), (.inr "turn", .int tn)]
structure DeckAt (dk gl : Addr) (H : Hp) : Prop where
  ex : ∃ (great : List Int) (sd tn : Int), H dk = some (.dK (deckKV gl sd tn)) ∧ H gl = some (.lst (great.map V.int)) ∧ great.length ≤ 63
/-- the places of a deck -/
def avD (dk gl : Addr) : Addr → Prop := fun b => b = dk ∨ b = gl
theorem k_gs : ¬ (Sum.inr ("great" : Str) : Key) = Sum.inr ("seal" : Str) := by decide +kernel
theorem k_gt : ¬ (Sum.inr ("great" : Str) : Key) = Sum.inr ("turn" : Str) := by decide +kernel
theorem k_st : ¬ (Sum.inr ("seal" : Str) : Key) = Sum.inr ("turn" : Str) := by decide +kernel
theorem deck_great (gl : Addr) (s t : Int) : valV (deckKV gl s t) (Sum.inr ("great" : Str)) = some (.ref gl) := valV_pos rfl
theorem deck_seal (gl : Addr) (s t : Int) : valV (deckKV gl s t) (Sum.inr ("seal" : Str)) = some (.int s) := by
  unfold deckKV
  rw [valV_neg k_gs, valV_pos rfl]
theorem deck_turn (gl : Addr) (s t : Int) : valV (deckKV gl s t) (Sum.inr ("turn" : Str)) = some (.int t) := by
  unfold deckKV
  rw [valV_neg k_gt, valV_neg k_st, valV_pos rfl]
theorem deck_put (gl : Addr) (s t u : Int) : putK (deckKV gl s t) (Sum.inr ("turn" : Str)) (.int u) = deckKV gl s u := by
  unfold putK
  rw [valV_any, deck_turn, if_pos (show (some (V.int t)).isSome = true from rfl)]
  unfold deckKV
  simp only [List.map_cons, List.map_nil, if_neg k_gt, if_neg k_st]
  rfl
theorem deck_merge (gl : Addr) (s t : Int) : mergeK [] (deckKV gl s t) = deckKV gl s t := by
  have n1 : ¬ (Sum.inr ("seal" : Str) : Key) = Sum.inr ("great" : Str) := fun e => k_gs e.symm
  have n2 : ¬ (Sum.inr ("turn" : Str) : Key) = Sum.inr ("great" : Str) := fun e => k_gt e.symm
  have n3 : ¬ (Sum.inr ("turn" : Str) : Key) = Sum.inr ("seal" : Str) := fun e => k_st e.symm
  unfold mergeK deckKV
  simp only [List.foldl_cons, List.foldl_nil, putK, List.any_nil, List.any_cons, List.nil_append, List.cons_append, decide_eq_false k_gs, decide_eq_false k_gt, decide_eq_false k_st, Bool.or_false, Bool.false_eq_true, if_false]
theorem DeckAt.ne {dk gl : Addr} {H : Hp} (h : DeckAt dk gl H) : dk ≠ gl := by
  obtain ⟨_, _, _, h1, h2, _⟩ := h.ex
  exact ne_of h1 h2 (by intro q; cases q)
theorem DeckAt.same {dk gl : Addr} {H H' : Hp} (h : DeckAt dk gl H) (e : Same H H') : DeckAt dk gl H' := by
  obtain ⟨g, s, t, h1, h2, h3⟩ := h.ex
  exact ⟨g, s, t, e _ _ h1, e _ _ h2, h3⟩
theorem DeckAt.new {dk gl : Addr} {H : Hp} (h : DeckAt dk gl H) {p : Addr} (n : H p = none) : ¬ avD dk gl p := by
  obtain ⟨g, s, t, h1, h2, _⟩ := h.ex
  rintro (e | e)
  · rw [e, h1] at n
    cases n
  · rw [e, h2] at n
    cases n

/-- the built-in names that are used stand for themselves -/
structure Blt (mg : Str → Option Value) : Prop where
  abs : mg "abs" = none
  int : mg "int" = none
  bool : mg "bool" = none
  str : mg "str" = none
  len : mg "len" = none
  isi : mg "isinstance" = none
  enu : mg "enumerate" = none
  rng : mg "range" = none
  list : mg "list" = none
  tup : mg "tuple" = none
  repr : mg "repr" = none

def spDeck (K : PySem.W.Frag) : Sp := fun vs H Q _ => ∃ (a : Addr) (ns : List Int), vs = [.ref a] ∧ SqL K H a (ns.map V.int) ∧ ns.length ≤ 63 ∧ ∀ (dk gl : Addr) (H' : Hp), Same H H' → DeckAt dk gl H' → Q (.ref dk) H'
def spDraw : Sp := fun vs H Q _ => ∃ (dk gl : Addr) (many : Int), vs = [.ref dk, .int many] ∧ DeckAt dk gl H ∧ many < 1000000 ∧ ∀ (r : Int) (H' : Hp), Ext (avD dk gl) H H' → DeckAt dk gl H' → 0 ≤ r → (r < many ∨ (r = 0 ∧ many < 2)) → Q (.int r) H'

section
variable {P : Program} {w : World} {K : PySem.W.Frag} {mg : Str → Option Value} {base : Heap}
theorem scDeck : FnScope ["script", "cells", "seal", "cell", "own"] ["script"] (defScope sDeck) := ⟨rfl, rfl, rfl, by decide +kernel, rfl, by decide +kernel, by decide +kernel⟩
theorem mem_ints {ns : List Int} {i : Nat} {x : V} (h : (ns.map V.int)[i]? = some x) : ∃ n, ns[i]? = some n ∧ x = .int n := by
  rw [List.getElem?_map] at h
  cases e : ns[i]? with
  | none =>
    rw [e] at h
    cases h
  | some n =>
    rw [e] at h
    exact ⟨n, rfl, (Option.some.inj h).symm⟩
theorem sz {n : Nat} (h : n ≤ 600000) : n ≤ sizeLine := Nat.le_trans h (by decide)
theorem szlt {n : Nat} (h : n ≤ 600000) : n < sizeLine := Nat.lt_of_le_of_lt h (by decide)
theorem cut_ints (ns : List Int) (lo hi : Option Int) : cutV (ns.map V.int) lo hi = ((ns.drop (HT.sIx (ns.map V.int).length 0 lo)).take (HT.sIx (ns.map V.int).length (ns.map V.int).length hi - HT.sIx (ns.map V.int).length 0 lo)).map V.int := by
  unfold cutV
  rw [List.map_take, List.map_drop]
theorem cut_ints_ex (ns : List Int) (lo hi : Option Int) : ∃ ms : List Int, cutV (ns.map V.int) lo hi = ms.map V.int ∧ ms.length ≤ ns.length := by
  refine ⟨_, cut_ints ns lo hi, ?_⟩
  rw [List.length_take, List.length_drop]
  omega
theorem snoc_ints {H : Hp} {D : Addr} {cs : List Int} {z : Int} {n : Nat} (h : cs.length ≤ n) : ∃ es : List Int, upd H D (.lst (cs.map V.int ++ [V.int z])) D = some (.lst (es.map V.int)) ∧ es.length ≤ n + 1 := by
  refine ⟨cs ++ [z], ?_, ?_⟩
  · rw [upd_same, List.map_append]
    rfl
  · rw [List.length_append, List.length_singleton]
    omega
theorem same_upd {H0 H : Hp} {D : Addr} (h : Same H0 H) (hD : H0 D = none) (o : HO) : Same H0 (upd H D o) := fun b u e => by
  rw [upd_ne (ne_of_none e hD)]
  exact h _ _ e
theorem ok_deck {f : Addr} {fd : FuncData} (F : Fun K "_law_deck" "_law_deck" sDeck f fd) (B : Blt mg) : FnOk P w K mg base CX0 1 f fd ["script"] (spDeck K) := by
  refine F.ok scDeck (fun vs H Q E h => ?_) (fun cdv A outer s H vs Q E hr h => ?_)
  · obtain ⟨a, ns, rfl, _⟩ := h
    rfl
  obtain ⟨a, ns, rfl, hS, hlen, q⟩ := h
  have nd := scDeck.nd
  refine ⟨_, pss_cons (ps_par (i := 1) (j := 2) (by rfl) nd rfl rfl (by decide) rfl rfl (pa_cons
      (pe_lc (own := [("own", 4)]) (g := gName 4) (tt := tYes) rfl nd (pi_list (pe_slice sl_list (pv 0) po_none (po_some pe_int))) (blkOk_by (N := ["script", "cells", "seal", "cell", "own"]) (sc := defScope sDeck) (by decide +kernel))
        (fun _ _ _ _ _ => pg_name (i := 4) nd rfl (Or.inl rfl)) (fun _ _ _ _ _ => pts_nil)
        (fun _ _ _ _ _ => pe_op op_add (pe_op op_mul pe_int (pe_callB call_abs (by rfl) B.abs (by decide +kernel) (pa_cons (pv 4) pa_nil))) (pe_callTy call_int1 (by rfl) B.int (by decide +kernel) (pa_cons (pe_cmpR op_lt (pv 4) pe_int (nomark _)) pa_nil))))
      (pa_cons (pe_op op_add pe_int (pe_op op_mul pe_int (pe_callB call_len_seq (by rfl) B.len PySem.boot_len (pa_cons (pv 0) pa_nil)))) pa_nil)) (by rfl))
    (pss_cons (ps_for PassesOwn.never rfl (pi_list (pv 1)) (pg_name (i := 3) nd rfl (Or.inl rfl))
      (pss_one (ps_set (i := 2) nd rfl (Or.inl rfl) (pe_op op_mod (pe_callTy call_int1 (by rfl) B.int (by decide +kernel) (pa_cons (pe_op op_add (pe_op op_add (pe_op op_mul (pv 2) pe_int) (pv 3)) pe_int) pa_nil)) pe_int))))
    (pss_one (ps_ret (pe_disp (pps_cons pe_str (pe_revL (pe_lc (own := [("cell", 3)]) (g := gName 3) (tt := _) rfl nd (pi_list (pv 1)) (blkOk_by (N := ["script", "cells", "seal", "cell", "own"]) (sc := defScope sDeck) (by decide +kernel))
        (fun _ _ _ _ _ => pg_name (i := 3) nd rfl (Or.inl rfl)) (fun _ _ _ _ _ => pts_one (pt_cmpR op_ge (pv 3) (pe_op op_pow pe_int pe_int) (nomark _))) (fun _ _ _ _ _ => pv 3)))
      (pps_cons pe_str (pv 2) (pps_cons pe_str pe_int pps_nil))) (by rfl) (by rfl) (fun z => by cases z) (by decide))))), ?_⟩
  obtain ⟨ms, ecut, lcut⟩ := cut_ints_ex ns none (some 63)
  -- cells
  refine ⟨_, rfl, 63, rfl, a, _, rfl, hS, fun p hp => ⟨p, rfl, ⟨_, SqL.of upd_same⟩, fun D hD => ?_⟩⟩
  rw [ecut] at hD ⊢
  have s1 : Same H (upd H p (.lst (ms.map V.int))) := same_new hp _
  have hD0 : H D = none := s1.free hD
  refine lc_list (K := K) (a := p) (xs := ms.map V.int) (fun i H' => Same (upd H p (.lst (ms.map V.int))) H' ∧ ∃ cs : List Int, H' D = some (.lst (cs.map V.int)) ∧ cs.length ≤ i) ?_ ?_ ?_ ?_
  · exact ⟨same_new hD _, [], upd_same, Nat.le_refl _⟩
  · rintro i H' _ ⟨e, _⟩
    exact SqL.of (e _ _ upd_same)
  · rintro i x H' hi ⟨e, cs, hcs, lcs⟩
    obtain ⟨n, hn, rfl⟩ := mem_ints hi
    have hi2 : i < ms.length := (List.getElem?_eq_some_iff.mp hn).1
    refine ⟨rfl, ?_⟩
    -- kept
    refine iteT (B := True) ?_
    refine ⟨_, rfl, n, rfl, _, _, rfl, rfl, .inl ⟨by decide, by decide⟩, _, rfl, _, _, rfl, rfl, .inr ⟨_, rfl, _, _, rfl, rfl, _, hcs, szlt (by rw [List.length_map]; omega), ?_⟩⟩
    exact ⟨same_upd e hD _, snoc_ints lcs⟩
  rintro H1 ⟨e1, cs, hcs, lcs⟩
  rw [List.length_map] at lcs
  have e01 : Same H H1 := s1.trans e1
  refine ⟨_, rfl, a, _, rfl, .inl (e01.seq hS), _, _, rfl, rfl, .inl ⟨by decide, by decide⟩, _, _, rfl, rfl, _, _, rfl, ?_⟩
  -- the loop
  refine ⟨_, rfl, D, rfl, ⟨_, SqL.of hcs⟩, for_list (K := K) (a := D) (xs := cs.map V.int) (fun i σ H' => H' = H1 ∧ ∃ (z : Int) (v : Option V), σ = [some (.ref a), some (.ref D), some (.int z), v, none]) ⟨rfl, _, _, rfl⟩ (fun i σ H' _ ⟨e, _⟩ => by rw [e]; exact SqL.of hcs) ?_ ?_⟩
  · rintro i x σ H' hi ⟨rfl, z, v, rfl⟩
    obtain ⟨n, hn, rfl⟩ := mem_ints hi
    refine ⟨_, rfl, _, _, rfl, rfl, .inr ⟨by decide, by decide⟩, _, rfl, _, _, rfl, rfl, _, _, rfl, rfl, .inl ⟨_, rfl, _, _, rfl, rfl, (by show (0 : Int) < 4294967291; decide), rfl, _, _, rfl⟩⟩
  · rintro σ H' ⟨rfl, z, v, rfl⟩
    -- the dict
    intro dk hdk
    have e02 : Same H (upd H' dk (.dK [])) := e01.trans (same_new hdk _)
    refine ⟨_, rfl, D, rfl, ⟨_, SqL.of (same_new hdk _ _ _ hcs)⟩, fun L hL => ?_⟩
    have hD2 := same_new hdk (.dK []) _ _ hcs
    have e03 : Same H (upd (upd H' dk (.dK [])) L (.lst [])) := e02.trans (same_new hL _)
    refine lc_list (K := K) (a := D) (xs := cs.map V.int) (fun i H2 => Same (upd H' dk (.dK [])) H2 ∧ ∃ gs : List Int, H2 L = some (.lst (gs.map V.int)) ∧ gs.length ≤ i) ?_ ?_ ?_ ?_
    · exact ⟨same_new hL _, [], upd_same, Nat.le_refl _⟩
    · rintro i H2 _ ⟨e, _⟩
      exact SqL.of (e _ _ hD2)
    · rintro i x H2 hi ⟨e, gs, hgs, lgs⟩
      obtain ⟨n, hn, rfl⟩ := mem_ints hi
      have hi2 : i < cs.length := (List.getElem?_eq_some_iff.mp hn).1
      refine ⟨rfl, ?_⟩
      refine ⟨_, rfl, 10, 18, rfl, rfl, ⟨by decide, by decide, by decide⟩, _, _, rfl, rfl, _, rfl, ?_⟩
      refine ite2 (fun _ => ?_) (fun _ => ?_)
      · exact ⟨_, rfl, _, hgs, szlt (by rw [List.length_map]; omega), same_upd e hL _, snoc_ints lgs⟩
      · exact ⟨e, gs, hgs, by omega⟩
    rintro H3 ⟨e3, gs, hgs, lgs⟩
    rw [List.length_map] at lgs
    refine ⟨L, _, rfl, SqL.of hgs, fun G hG => ?_⟩
    have e04 : Same H3 (upd H3 G (.lst (gs.map V.int).reverse)) := same_new hG _
    have hdk0 : H' dk = none := hdk
    refine ⟨_, rfl, e04 _ _ (e3 _ _ upd_same), deckKV G z 0, rfl, (by show 3 ≤ 15; decide), ?_⟩
    have dG : dk ≠ G := ne_of_none (e3 _ _ upd_same) hG
    refine q dk G _ (fun b o e => ?_) ⟨gs.reverse, z, 0, ?_, ?_, ?_⟩
    · have ne : b ≠ dk := ne_of_none (e01 _ _ e) hdk0
      rw [upd_ne ne]
      exact e04 _ _ (e3 _ _ (e02 _ _ e))
    · rw [upd_same, deck_merge]
    · rw [upd_ne dG.symm, upd_same, List.map_reverse]
    · rw [List.length_reverse]
      omega
end
end Rw
namespace Rw
open PySem L2
theorem dget_of {H : Hp} {a : Addr} {kvs : List (Key × V)} {k : Key} {v : V} (h : H a = some (.dK kvs)) (e : valV kvs k = some v) : DGet H a (kV k) (some v) := by
  rw [← e]
  exact DGet.k h
theorem dp_ints {K : PySem.W.Frag} {H : Hp} : ∀ ns : List Int, DpAll K H (ns.map V.int) (ns.map PyData.int)
  | [] => .nil
  | n :: r => .cons (.int n) (dp_ints r)
theorem lay_ints : ∀ ns : List Int, PyData.canLayAll0 (ns.map PyData.int) = true
  | [] => rfl
  | n :: r => by
    rw [List.map_cons]
    simp only [PyData.canLayAll0, PyData.canLay0, lay_ints r, Bool.and_self]
theorem depth_ints : ∀ ns : List Int, PyData.depthAll (ns.map PyData.int) = 0
  | [] => rfl
  | n :: r => by
    rw [List.map_cons]
    simp only [PyData.depthAll, PyData.depth, depth_ints r, Nat.max_self]
theorem shaped_ints (ns : List Int) : SeqAt.shaped (.list (ns.map PyData.int)) = true := by
  show (PyData.canLay0 (.list (ns.map PyData.int)) && decide (PyData.depth (.list (ns.map PyData.int)) ≤ 64)) = true
  rw [Bool.and_eq_true]
  refine ⟨lay_ints ns, decide_eq_true ?_⟩
  simp only [PyData.depth, depth_ints]
  omega
theorem eqv_ints : ∀ ns ms : List Int, PyData.eqv (.list (ns.map PyData.int)) (.list (ms.map PyData.int)) = decide (ns = ms) := by
  have all : ∀ ns ms : List Int, PyData.eqvAll (ns.map PyData.int) (ms.map PyData.int) = decide (ns = ms) := by
    intro ns
    induction ns with
    | nil =>
      intro ms
      cases ms with
      | nil => rfl
      | cons m r => rfl
    | cons n r ih =>
      intro ms
      cases ms with
      | nil => rfl
      | cons m t =>
        rw [List.map_cons, List.map_cons, PyData.eqvAll, ih t, PyData.eqv]
        by_cases e1 : n = m
        · subst e1
          simp
        · simp [e1]
  intro ns ms
  rw [PyData.eqv]
  exact all ns ms
theorem last_ints {g : List Int} (h : g ≠ []) : ∃ c : Int, (g.map V.int)[(g.map V.int).length - 1]? = some (.int c) ∧ (g.map V.int).dropLast = (g.dropLast).map V.int := by
  have hl : g.length - 1 < g.length := by
    have := List.length_pos_iff.mpr h
    omega
  refine ⟨g[g.length - 1], ?_, ?_⟩
  · rw [List.length_map, List.getElem?_map, List.getElem?_eq_getElem hl]
    rfl
  · rw [List.map_dropLast]
section
variable {P : Program} {w : World} {K : PySem.W.Frag} {mg : Str → Option Value} {base : Heap}
theorem scDraw : FnScope ["deck", "many", "cell", "one", "two"] ["deck", "many"] (defScope sDraw) := ⟨rfl, rfl, rfl, by decide +kernel, rfl, by decide +kernel, by decide +kernel⟩
theorem ok_draw {f : Addr} {fd : FuncData} (F : Fun K "_law_draw" "_law_draw" sDraw f fd) (B : Blt mg) : FnOk P w K mg base CX0 1 f fd ["deck", "many"] spDraw := by
  refine F.ok scDraw (fun vs H Q E h => ?_) (fun cdv A outer s H vs Q E hr h => ?_)
  · obtain ⟨_, _, _, rfl, _⟩ := h
    rfl
  obtain ⟨dk, gl, many, rfl, hD, hmany, q⟩ := h
  have nd := scDraw.nd
  have hu := hu_of hr
  have hu64 : (A.deeper (PyProof.Rows.envOfC "_law_draw" (defScope sDraw) s.heap.objs.size f cdv)).units + 64 < cLine := by
    have := hr.un
    omega
  refine ⟨_, pss_cons (ps_if (pt_cmpR op_lt (pv 1) pe_int (nomark _)) (pss_one (ps_ret pe_int)) pss_nil)
    (pss_cons (ps_if (pt_cmpR (op_neD hu64) (pe_dget hu (pv 0) pe_str (fun _ _ => rfl)) (pe_lst pa_nil) (nomark _))
      (pss_cons (ps_set (i := 2) nd rfl (Or.inl rfl) (pe_bm0 PySem.F.plainAttrs_list PySem.F.slot_list_pop PySem.F.type_list_pop mt_pop (pe_dget hu (pv 0) pe_str (fun _ _ => rfl))))
      (pss_cons (ps_if (pt_cmpR op_ge (pv 2) (pv 1) (nomark _)) (pss_one (ps_expr (pe_bm PySem.F.plainAttrs_list PySem.F.slot_list_append PySem.F.type_list_append mt_append (pe_dget hu (pv 0) pe_str (fun _ _ => rfl)) (pa_cons (pe_op op_fdivN (pv 2) (pv 1)) pa_nil)))) pss_nil)
      (pss_one (ps_ret (pe_op op_modN (pe_callTy call_int1 (by rfl) B.int (by decide +kernel) (pa_cons (pv 2) pa_nil)) (pv 1)))))) pss_nil)
    (pss_cons (ps_dput hu (pv 0) pe_str (pe_op op_add (pe_dget hu (pv 0) pe_str (fun _ _ => rfl)) pe_int) rfl)
    (pss_cons (ps_set (i := 3) nd rfl (Or.inl rfl) (pe_op op_mod (pe_callTy call_int1 (by rfl) B.int (by decide +kernel) (pa_cons (pe_op op_add (pe_dget hu (pv 0) pe_str (fun _ _ => rfl)) (pe_op op_mul (pe_dget hu (pv 0) pe_str (fun _ _ => rfl)) pe_int)) pa_nil)) pe_int))
    (pss_cons (ps_set (i := 4) nd rfl (Or.inl rfl) (pe_op op_mod (pe_callTy call_int1 (by rfl) B.int (by decide +kernel) (pa_cons (pe_op op_add (pe_op op_add (pe_op op_mul (pv 3) (pv 3)) (pe_op op_mul (pe_dget hu (pv 0) pe_str (fun _ _ => rfl)) pe_int)) pe_int) pa_nil)) pe_int))
    (pss_one (ps_ret (pe_op op_modN (pe_callTy call_int1 (by rfl) B.int (by decide +kernel) (pa_cons (pe_op op_fdiv (pe_op op_mod (pe_callTy call_int1 (by rfl) B.int (by decide +kernel) (pa_cons (pe_op op_add (pe_op op_mul (pv 4) (pv 4)) (pv 3)) pa_nil)) pe_int) pe_int) pa_nil)) (pv 1)))))))), ?_⟩
  obtain ⟨great, sd, tn, h1, h2, h3⟩ := hD.ex
  have gk : ∀ {H' : Hp}, H' dk = some (.dK (deckKV gl sd tn)) → DGet H' dk (kV (Sum.inr "great")) (some (.ref gl)) := fun e => dget_of e (deck_great _ _ _)
  refine ⟨_, rfl, _, _, rfl, rfl, _, rfl, ?_⟩
  refine ite2 (fun c => ?_) (fun c => ?_)
  · exact q 0 H Ext.refl hD (Int.le_refl 0) (.inr ⟨rfl, of_decide_eq_true c⟩)
  have hm : 2 ≤ many := by
    have c2 := of_decide_eq_false (Bool.eq_false_iff.mpr c)
    omega
  refine ⟨_, rfl, dk, _, rfl, gk h1, Nat.zero_le _, fun l hl => ?_⟩
  have s1 : Same H (upd H l (.lst [])) := same_new hl _
  have hl2 : upd H l (.lst []) l = some (.lst []) := upd_same
  refine ⟨.list (great.map PyData.int), .list (([] : List Int).map PyData.int), .lst (SqL.of (s1 _ _ h2)) (dp_ints great), .lst (SqL.of upd_same) .nil, shaped_ints great, shaped_ints [], _, rfl, ?_⟩
  rw [eqv_ints]
  have f1 := s1 _ _ h1
  have f2 := s1 _ _ h2
  have D1 : DeckAt dk gl (upd H l (.lst [])) := hD.same s1
  have E1 : Ext (avD dk gl) H (upd H l (.lst [])) := Ext.of_same s1
  generalize upd H l (.lst []) = H1 at f1 f2 D1 E1
  refine ite2 (fun c => ?_) (fun c => ?_)
  · have hg : great ≠ [] := by simpa using c
    obtain ⟨cell, hc, hdl⟩ := last_ints hg
    have ng := D1.ne
    refine ⟨_, rfl, dk, _, rfl, gk f1, .inl ⟨rfl, _, SqL.of f2⟩, gl, _, _, rfl, rfl, f2, hc, ?_⟩
    rw [hdl]
    have f3 : upd H1 gl (.lst (great.dropLast.map V.int)) dk = some (.dK (deckKV gl sd tn)) := by
      rw [upd_ne ng]
      exact f1
    have l3 : great.dropLast.length ≤ 62 := by
      rw [List.length_dropLast]
      omega
    have E2 : Ext (avD dk gl) H (upd H1 gl (.lst (great.dropLast.map V.int))) := E1.trans (Ext.put (.inr rfl) _)
    have D2 : DeckAt dk gl (upd H1 gl (.lst (great.dropLast.map V.int))) := ⟨_, _, _, f3, upd_same, by omega⟩
    have f4 : upd H1 gl (.lst (great.dropLast.map V.int)) gl = some (.lst (great.dropLast.map V.int)) := upd_same
    generalize upd H1 gl (.lst (great.dropLast.map V.int)) = H2 at f3 f4 E2 D2
    have fin : ∀ H3, Ext (avD dk gl) H H3 → DeckAt dk gl H3 → Q (.int (cell.fmod many)) H3 := fun H3 e d => by
      have p0 : 0 ≤ cell.fmod many := Int.fmod_nonneg_of_pos cell (by omega)
      have p1 : cell.fmod many < many := Int.fmod_lt_of_pos cell (by omega)
      exact q _ H3 e d p0 (.inl p1)
    refine ⟨_, rfl, _, rfl, _, _, rfl, rfl, _, rfl, ?_⟩
    refine ite2 (fun _ => ?_) (fun _ => ?_)
    · refine ⟨_, rfl, dk, _, rfl, gk f3, .inl ⟨rfl, _, SqL.of f4⟩, _, rfl, _, rfl, _, _, rfl, rfl, ⟨by omega, by omega⟩, gl, _, _, rfl, rfl, f4, szlt (by rw [List.length_map]; omega), ?_⟩
      refine ⟨_, rfl, .inl ⟨_, rfl, _, rfl, _, _, rfl, rfl, by omega, ?_⟩⟩
      refine fin _ (E2.trans (Ext.put (.inr rfl) _)) ⟨great.dropLast ++ [cell.fdiv many], sd, tn, ?_, ?_, ?_⟩
      · rw [upd_ne ng]
        exact f3
      · rw [upd_same, List.map_append]
        rfl
      · rw [List.length_append, List.length_singleton]
        omega
    · exact ⟨_, rfl, .inl ⟨_, rfl, _, rfl, _, _, rfl, rfl, by omega, fin _ E2 D2⟩⟩
  · -- the second way: a mixed number
    have ng := D1.ne
    have gt : ∀ {H' : Hp} {z : Int}, H' dk = some (.dK (deckKV gl sd z)) → DGet H' dk (kV (Sum.inr "turn")) (some (.int z)) := fun e => dget_of e (deck_turn _ _ _)
    have gs : ∀ {H' : Hp} {z : Int}, H' dk = some (.dK (deckKV gl sd z)) → DGet H' dk (kV (Sum.inr "seal")) (some (.int sd)) := fun e => dget_of e (deck_seal _ _ _)
    have put : DPut H1 dk (kV (Sum.inr "turn")) (.int (tn + 1)) (upd H1 dk (.dK (deckKV gl sd (tn + 1)))) := by
      have p := DPut.k (k := Sum.inr "turn") (v := .int (tn + 1)) f1 (by show 3 < sizeLine; decide)
      rw [deck_put] at p
      exact p
    refine ⟨_, rfl, dk, _, rfl, gt f1, _, _, rfl, rfl, _, rfl, dk, _, rfl, put, ?_⟩
    have f3 : upd H1 dk (.dK (deckKV gl sd (tn + 1))) dk = some (.dK (deckKV gl sd (tn + 1))) := upd_same
    have f4 : upd H1 dk (.dK (deckKV gl sd (tn + 1))) gl = some (.lst (great.map V.int)) := by
      rw [upd_ne ng.symm]
      exact f2
    have E2 : Ext (avD dk gl) H (upd H1 dk (.dK (deckKV gl sd (tn + 1)))) := E1.trans (Ext.put (.inl rfl) _)
    generalize upd H1 dk (.dK (deckKV gl sd (tn + 1))) = H2 at f3 f4 E2
    have D2 : DeckAt dk gl H2 := ⟨great, sd, tn + 1, f3, f4, h3⟩
    have b1 : ∀ z : Int, -(2 ^ 64) < z % 4294967291 ∧ z % 4294967291 < 2 ^ 64 := fun z => by
      have k1 := Int.emod_nonneg z (b := 4294967291) (by decide)
      have k2 := Int.emod_lt_of_pos z (b := 4294967291) (by decide)
      omega
    have b2 : ∀ z : Int, -(2 ^ 64) < z % 4294967279 ∧ z % 4294967279 < 2 ^ 64 := fun z => by
      have k1 := Int.emod_nonneg z (b := 4294967279) (by decide)
      have k2 := Int.emod_lt_of_pos z (b := 4294967279) (by decide)
      omega
    refine ⟨_, rfl, dk, _, rfl, gs f3, _, rfl, dk, _, rfl, gt f3, _, _, rfl, rfl, .inr ⟨by decide, by decide⟩, _, _, rfl, rfl, .inl ⟨_, rfl, _, _, rfl, rfl, (by show (0 : Int) < 4294967291; decide), ?_⟩⟩
    refine ⟨_, rfl, _, rfl, _, _, rfl, rfl, .inl (b1 _), _, rfl, dk, _, rfl, gt f3, _, _, rfl, rfl, .inr ⟨by decide, by decide⟩, _, _, rfl, rfl, _, _, rfl, rfl, .inl ⟨_, rfl, _, _, rfl, rfl, (by show (0 : Int) < 4294967279; decide), ?_⟩⟩
    refine ⟨_, rfl, _, rfl, _, _, rfl, rfl, .inl (b2 _), _, rfl, _, _, rfl, rfl, .inl ⟨_, rfl, _, _, rfl, rfl, (by show (0 : Int) < 4294967231; decide), _, _, rfl, rfl, ⟨by decide, by decide⟩, .inl ⟨_, rfl, _, rfl, _, _, rfl, rfl, by omega, ?_⟩⟩⟩
    have p0 : ∀ z : Int, 0 ≤ z.fmod many := fun z => Int.fmod_nonneg_of_pos z (by omega)
    have p1 : ∀ z : Int, z.fmod many < many := fun z => Int.fmod_lt_of_pos z (by omega)
    exact q _ H2 E2 D2 (p0 _) (.inl (p1 _))
end
end Rw
namespace Rw
open PySem L2

/-! ### data that can be shown: short leaves, not too deep, not too heavy -/
structure Nc (k : Nat) (d : PyData) : Prop where
  sh : d.leavesShort 25 = true
  sw : d.showable = true
  dp : d.depth ≤ k
structure NcAll (k : Nat) (ds : List PyData) : Prop where
  sh : PyData.leavesShortAll 25 ds = true
  sw : PyData.showableAll ds = true
  dp : PyData.depthAll ds ≤ k
theorem Nc.up {k j : Nat} {d : PyData} (h : Nc k d) (e : k ≤ j) : Nc j d := ⟨h.sh, h.sw, Nat.le_trans h.dp e⟩
theorem NcAll.up {k j : Nat} {d : List PyData} (h : NcAll k d) (e : k ≤ j) : NcAll j d := ⟨h.sh, h.sw, Nat.le_trans h.dp e⟩
theorem Nc.non {k : Nat} : Nc k .none := ⟨rfl, rfl, Nat.zero_le _⟩
theorem Nc.bl {k : Nat} (b : Bool) : Nc k (.bool b) := ⟨rfl, rfl, Nat.zero_le _⟩
theorem Nc.int {k : Nat} {i : Int} (h : i.natAbs < 10 ^ 20) : Nc k (.int i) := by
  refine ⟨?_, ?_, Nat.zero_le _⟩
  · have e := int_text_length_le10 (k := 20) (by decide) h
    have e2 : (PyData.shown (.int i)).length ≤ 25 := by
      show (Str.ofString (toString i)).length ≤ 25
      rw [ofString_length]
      omega
    simp only [PyData.leavesShort, decide_eq_true e2]
  · have l : i.natAbs.log2 < 1920 := by
      by_cases h0 : i.natAbs = 0
      · rw [h0]
        decide
      · have q : i.natAbs.log2 < 69 := (Nat.log2_lt h0).mpr (Nat.lt_trans h (by decide))
        omega
    simp only [PyData.showable, decide_eq_true l]
theorem Nc.str {k : Nat} {x : Str} (h : (x.cps.toList.all fun c => decide (c < 16 ^ 8)) = true) : Nc k (.str x) := ⟨h, rfl, Nat.zero_le _⟩
theorem NcAll.nil {k : Nat} : NcAll k [] := ⟨rfl, rfl, Nat.zero_le _⟩
theorem NcAll.cons {k : Nat} {d : PyData} {ds : List PyData} (a : Nc k d) (b : NcAll k ds) : NcAll k (d :: ds) := by
  refine ⟨?_, ?_, ?_⟩
  · simp only [PyData.leavesShortAll, a.sh, b.sh, Bool.and_self]
  · simp only [PyData.showableAll, a.sw, b.sw, Bool.and_self]
  · simp only [PyData.depthAll]
    exact Nat.max_le.mpr ⟨a.dp, b.dp⟩
theorem NcAll.parts {k : Nat} {d : PyData} {ds : List PyData} (h : NcAll k (d :: ds)) : Nc k d ∧ NcAll k ds := by
  have h1 : d.leavesShort 25 = true ∧ PyData.leavesShortAll 25 ds = true := by
    have q := h.sh
    simpa only [PyData.leavesShortAll, Bool.and_eq_true] using q
  have h2 : d.showable = true ∧ PyData.showableAll ds = true := by
    have q := h.sw
    simpa only [PyData.showableAll, Bool.and_eq_true] using q
  have h3 : d.depth ≤ k ∧ PyData.depthAll ds ≤ k := by
    have q := h.dp
    simp only [PyData.depthAll] at q
    exact Nat.max_le.mp q
  exact ⟨⟨h1.1, h2.1, h3.1⟩, ⟨h1.2, h2.2, h3.2⟩⟩
theorem NcAll.iff {k : Nat} : ∀ {ds : List PyData}, NcAll k ds ↔ ∀ d ∈ ds, Nc k d
  | [] => ⟨fun _ d h => absurd h (by simp), fun _ => NcAll.nil⟩
  | d :: ds => by
    constructor
    · intro h x hx
      rcases List.mem_cons.mp hx with e | e
      · rw [e]
        exact h.parts.1
      · exact NcAll.iff.mp h.parts.2 x e
    · intro h
      exact .cons (h d List.mem_cons_self) (NcAll.iff.mpr fun x hx => h x (List.mem_cons_of_mem _ hx))
theorem Nc.tup {k : Nat} {ds : List PyData} (h : NcAll k ds) : Nc (k + 1) (.tuple ds) := by
  refine ⟨?_, ?_, ?_⟩
  · simp only [PyData.leavesShort, h.sh]
  · simp only [PyData.showable, h.sw]
  · simp only [PyData.depth]
    have := h.dp
    omega
theorem Nc.lst {k : Nat} {ds : List PyData} (h : NcAll k ds) : Nc (k + 1) (.list ds) := by
  refine ⟨?_, ?_, ?_⟩
  · simp only [PyData.leavesShort, h.sh]
  · simp only [PyData.showable, h.sw]
  · simp only [PyData.depth]
    have := h.dp
    omega
theorem Nc.dct {k : Nat} {x : Str} {d : PyData} (hx : Nc k (.str x)) (h : Nc k d) : Nc (k + 1) (.dict [(.str x, d)]) := by
  refine ⟨?_, ?_, ?_⟩
  · simp only [PyData.leavesShort, PyData.leavesShortKv, h.sh, Bool.and_true]
    exact hx.sh
  · simp only [PyData.showable, PyData.showableKv, h.sw, Bool.and_self]
  · simp only [PyData.depth, PyData.depthKv]
    have := h.dp
    omega
theorem Nc.of_tup {k : Nat} {ds : List PyData} (h : Nc k (.tuple ds)) : NcAll (k - 1) ds ∧ 1 ≤ k := by
  have h1 := h.sh
  have h2 := h.sw
  have h3 := h.dp
  simp only [PyData.leavesShort] at h1
  simp only [PyData.showable] at h2
  simp only [PyData.depth] at h3
  exact ⟨⟨h1, h2, by omega⟩, by omega⟩
theorem NcAll.app {k : Nat} {ds es : List PyData} (a : NcAll k ds) (b : NcAll k es) : NcAll k (ds ++ es) := NcAll.iff.mpr fun d hd => by
  rcases List.mem_append.mp hd with e | e
  · exact NcAll.iff.mp a d e
  · exact NcAll.iff.mp b d e
theorem NcAll.sub {k : Nat} {ds es : List PyData} (a : NcAll k ds) (h : ∀ d ∈ es, d ∈ ds) : NcAll k es := NcAll.iff.mpr fun d hd => NcAll.iff.mp a d (h d hd)
theorem NcAll.set {k : Nat} {ds : List PyData} {d : PyData} (a : NcAll k ds) (b : Nc k d) (i : Nat) : NcAll k (ds.set i d) := NcAll.iff.mpr fun x hx => by
  rcases List.mem_or_eq_of_mem_set hx with e | e
  · exact NcAll.iff.mp a x e
  · rw [e]
    exact b
theorem wA_app : ∀ ds es : List PyData, PyData.weightAll (ds ++ es) = PyData.weightAll ds + PyData.weightAll es
  | [], es => by simp [PyData.weightAll]
  | d :: ds, es => by
    rw [List.cons_append]
    simp only [PyData.weightAll, wA_app ds es]
    omega
theorem wA_mem : ∀ {ds : List PyData} {d : PyData}, d ∈ ds → d.weight + 1 ≤ PyData.weightAll ds
  | e :: ds, d, h => by
    simp only [PyData.weightAll]
    rcases List.mem_cons.mp h with q | q
    · rw [q]
      omega
    · have := wA_mem q
      omega
theorem wA_take (n : Nat) (ds : List PyData) : PyData.weightAll (ds.take n) ≤ PyData.weightAll ds := by
  have h := wA_app (ds.take n) (ds.drop n)
  rw [List.take_append_drop] at h
  omega
theorem wA_drop (n : Nat) (ds : List PyData) : PyData.weightAll (ds.drop n) ≤ PyData.weightAll ds := by
  have h := wA_app (ds.take n) (ds.drop n)
  rw [List.take_append_drop] at h
  omega
theorem wA_set : ∀ (ds : List PyData) (i : Nat) (d : PyData), PyData.weightAll (ds.set i d) ≤ PyData.weightAll ds + d.weight + 1
  | [], _, _ => by simp [PyData.weightAll]
  | e :: ds, 0, d => by
    rw [List.set_cons_zero]
    simp only [PyData.weightAll]
    omega
  | e :: ds, i + 1, d => by
    rw [List.set_cons_succ]
    simp only [PyData.weightAll]
    have := wA_set ds i d
    omega
theorem wA_len : ∀ ds : List PyData, ds.length ≤ PyData.weightAll ds
  | [] => Nat.zero_le _
  | d :: ds => by
    simp only [PyData.weightAll, List.length_cons]
    have := wA_len ds
    omega
theorem w_int {i : Int} (h : i.natAbs < 10 ^ 20) : (PyData.int i).weight ≤ 70 := by
  simp only [PyData.weight]
  split
  · omega
  · rename_i h0
    have n0 : i.natAbs ≠ 0 := by
      intro e
      apply h0
      simp [Int.natAbs_eq_zero.mp e]
    have : i.natAbs.log2 < 69 := (Nat.log2_lt n0).mpr (Nat.lt_trans h (by decide))
    omega
theorem Nc.fits {k : Nat} {d : PyData} (h : Nc k d) (w : d.weight ≤ 620000) : d.shown.length ≤ sizeLine := by
  have e := PyData.shown_le 25 (by decide) d h.sh
  rw [sizeLine_eq]
  omega
end Rw
namespace Rw
open PySem L2
/-! ### a def of the text, by its name -/
structure Def (K : PySem.W.Frag) (mg : Str → Option Value) (x : Str) (st : Stmt) (ps : List Str) : Prop where
  ex : ∃ (f : Addr) (fd : FuncData), Fun K x x st f fd ∧ mg x = some (.ref f) ∧ Binds K fd ps []
structure Dfn (P : Program) (w : World) (K : PySem.W.Frag) (mg : Str → Option Value) (base : Heap) (x : Str) (ps : List Str) (k : Nat) (sp : Sp) : Prop where
  ex : ∃ (f : Addr) (fd : FuncData), FnOk P w K mg base CX0 k f fd ps sp ∧ mg x = some (.ref f) ∧ PySem.W.keepIn K (.ref f) = true ∧ Binds K fd ps []
theorem Def.ok {P : Program} {w : World} {K : PySem.W.Frag} {mg : Str → Option Value} {base : Heap} {x : Str} {st : Stmt} {ps : List Str} {k : Nat} {sp : Sp} (D : Def K mg x st ps)
    (h : ∀ (f : Addr) (fd : FuncData), Fun K x x st f fd → FnOk P w K mg base CX0 k f fd ps sp) : Dfn P w K mg base x ps k sp := by
  obtain ⟨f, fd, F, m, b⟩ := D.ex
  exact ⟨f, fd, h f fd F, m, F.kp, b⟩
theorem Dfn.mono {P : Program} {w : World} {K : PySem.W.Frag} {mg : Str → Option Value} {base : Heap} {x : Str} {ps : List Str} {j k : Nat} {sp : Sp} (D : Dfn P w K mg base x ps j sp) (h : j ≤ k) : Dfn P w K mg base x ps k sp := by
  obtain ⟨f, fd, F, m, c, b⟩ := D.ex
  exact ⟨f, fd, F.mono h, m, c, b⟩
section
variable {X : Cx} {k : Nat} {x : Str} {ps : List Str} {sp : Sp} {e : Expr} {es : List Expr} {t : TA} {p pos : Pos}
theorem pe_own (D : Dfn X.prog X.w X.K X.mg X.base x ps k sp) (hr : Room k X.A) (ha : PA X (e :: es) t) (hg : Gl X x := by rfl) (hdb : (x == ("__debug__" : Str)) = false := by decide)
    (he : starEach (e :: es) X.env = (false, eval e X.env) :: starEach es X.env := by rfl) (hpl : (backTo pos (starEach es X.env)).any (·.1) = false := by rfl) : PE X (.Call (.Name x p) (e :: es) [] pos) (tCall sp [] E0 t) := by
  obtain ⟨f, fd, F, m, c, b⟩ := D.ex
  exact pe_call F hr hg m c b .nil pass0 ha hdb he hpl
end

theorem bt_int : bootBuiltins ("int" : Str) = some (.type "int") := by decide +kernel
theorem bt_bool : bootBuiltins ("bool" : Str) = some (.type "bool") := by decide +kernel
theorem bt_str : bootBuiltins ("str" : Str) = some (.type "str") := by decide +kernel
theorem bt_tuple : bootBuiltins ("tuple" : Str) = some (.type "tuple") := by decide +kernel
theorem bt_list : bootBuiltins ("list" : Str) = some (.type "list") := by decide +kernel
theorem bt_isi : bootBuiltins ("isinstance" : Str) = some (.builtin "isinstance") := by decide +kernel
theorem bt_repr : bootBuiltins ("repr" : Str) = some (.builtin "repr") := by decide +kernel
section
variable {X : Cx} {x : Str} {pos p1 p2 : Pos} {n : String} {e : Expr} {te : TE}
theorem pe_ty (hm : X.mg x = none) (hv : bootBuiltins x = some (.type n)) (hg : Gl X x := by rfl) (hn : x ≠ "__name__" := by decide) (hd : (x == ("__debug__" : Str)) = false := by decide) : PE X (.Name x pos) (tC (.ty n)) := pe_bltn hg hm hv (show RelV (.ty n) (.type n) from rfl) hn hd
/-- isinstance(e, T) -/
theorem pe_isi (hn : n ∈ ["tuple", "int", "bool", "str", "list"]) (he : PE X e te) (hi : X.mg ("isinstance" : Str) = none) (hm : X.mg x = none) (hv : bootBuiltins x = some (.type n)) (hg : Gl X ("isinstance" : Str) := by rfl) (hg2 : Gl X x := by rfl) (hn2 : x ≠ "__name__" := by decide) (hd2 : (x == ("__debug__" : Str)) = false := by decide)
    (hs : starEach [e, .Name x p2] X.env = (false, eval e X.env) :: starEach [.Name x p2] X.env := by rfl) (hp : (backTo pos (starEach [.Name x p2] X.env)).any (·.1) = false := by rfl) : PE X (.Call (.Name ("isinstance" : Str) p1) [e, .Name x p2] [] pos) (tCB (rIsD X.K n) (tCons te (tCons (tC (.ty n)) tNil))) :=
  pe_callB (call_isD hn) hg hi bt_isi (pa_cons he (pa_cons (pe_ty hm hv hg2 hn2 hd2) pa_nil) hs) (by decide) (by decide) hs hp
end

/-! ### small things about values -/
def isIntB : PyData → Bool
  | .int _ => true
  | _ => false
def wholeB (l m : Int) : PyData → Bool
  | .int i => decide (l ≤ i) && decide (i ≤ m)
  | _ => false
theorem isT_int (d : PyData) : (isT "int" d && !isT "bool" d) = isIntB d := by
  cases d <;> (simp only [isT, clsOf, isIntB]; decide)
theorem int_of {d : PyData} (h : isIntB d = true) : ∃ i, d = .int i := by
  cases d <;> first | exact ⟨_, rfl⟩ | cases h
theorem isT_tup {d : PyData} : isT "tuple" d = true ↔ ∃ ds, d = .tuple ds := by
  cases d with
  | tuple ds => exact ⟨fun _ => ⟨ds, rfl⟩, fun _ => (by decide : isC "tuple" "tuple" = true)⟩
  | none => exact ⟨fun h => absurd h (by decide), fun ⟨_, e⟩ => by cases e⟩
  | bool b => exact ⟨fun h => absurd (show isC "tuple" "bool" = true from h) (by decide), fun ⟨_, e⟩ => by cases e⟩
  | int i => exact ⟨fun h => absurd (show isC "tuple" "int" = true from h) (by decide), fun ⟨_, e⟩ => by cases e⟩
  | str x => exact ⟨fun h => absurd (show isC "tuple" "str" = true from h) (by decide), fun ⟨_, e⟩ => by cases e⟩
  | list l => exact ⟨fun h => absurd (show isC "tuple" "list" = true from h) (by decide), fun ⟨_, e⟩ => by cases e⟩
  | dict l => exact ⟨fun h => absurd (show isC "tuple" "dict" = true from h) (by decide), fun ⟨_, e⟩ => by cases e⟩
theorem Rp.get_int {av : Addr → Prop} {H : Hp} {v : V} {i : Int} (h : Rp av H v (.int i)) : v = .int i := by
  cases h
  rfl
theorem Rp.get_str {av : Addr → Prop} {H : Hp} {v : V} {i : Str} (h : Rp av H v (.str i)) : v = .str i := by
  cases h
  rfl
theorem Rp.get_bl {av : Addr → Prop} {H : Hp} {v : V} {i : Bool} (h : Rp av H v (.bool i)) : v = .bl i := by
  cases h
  rfl
theorem Rp.get_non {av : Addr → Prop} {H : Hp} {v : V} (h : Rp av H v .none) : v = .non := by
  cases h
  rfl
theorem Rp.get_tup {av : Addr → Prop} {H : Hp} {v : V} {ds : List PyData} (h : Rp av H v (.tuple ds)) : ∃ a xs, v = .ref a ∧ ¬ av a ∧ H a = some (.tup xs) ∧ RpAll av H xs ds := by
  cases h with
  | tup n h r => exact ⟨_, _, rfl, n, h, r⟩

def spInteger : Sp := fun vs H Q _ => ∃ (av : Addr → Prop) (v : V) (d : PyData), vs = [v] ∧ Rp av H v d ∧ Q (.bl (isIntB d)) H
def spBelow : Sp := fun vs H Q _ => ∃ (av : Addr → Prop) (v : V) (d : PyData) (m : Int), vs = [v, .int m] ∧ Rp av H v d ∧ Q (.bl (wholeB 0 (m - 1) d)) H
def spWhole : Sp := fun vs H Q _ => ∃ (av : Addr → Prop) (v : V) (d : PyData) (l m : Int), vs = [v, .int l, .int m] ∧ Rp av H v d ∧ Q (.bl (wholeB l m d)) H
def tupOf (n : Int) : PyData → Bool
  | .tuple ds => decide ((ds.length : Int) = n)
  | _ => false
def spTupleOf : Sp := fun vs H Q _ => ∃ (av : Addr → Prop) (v : V) (d : PyData) (n : Int), vs = [v, .int n] ∧ Rp av H v d ∧ Q (.bl (tupOf n d)) H
abbrev sInteger : Stmt := top 4
abbrev sBelow : Stmt := top 5
abbrev sTupleOf : Stmt := top 6
abbrev sWhole : Stmt := top 30
section
variable {P : Program} {w : World} {K : PySem.W.Frag} {mg : Str → Option Value} {base : Heap} {f : Addr} {fd : FuncData}
theorem scInteger : FnScope ["value"] ["value"] (defScope sInteger) := ⟨rfl, rfl, rfl, by decide +kernel, rfl, by decide +kernel, by decide +kernel⟩
theorem ok_integer (F : Fun K "is_integer" "is_integer" sInteger f fd) (B : Blt mg) : FnOk P w K mg base CX0 1 f fd ["value"] spInteger := by
  refine F.ok scInteger (fun vs H Q E h => ?_) (fun cdv A outer s H vs Q E hr h => ?_)
  · obtain ⟨_, _, _, rfl, _⟩ := h
    rfl
  obtain ⟨av, v, d, rfl, hd, q⟩ := h
  refine ⟨_, pss_one (ps_ret (pe_and (pe_isi (n := "int") (by simp) (pv 0) B.isi B.int bt_int)
    (pe_one (pe_not (pe_isi (n := "bool") (by simp) (pv 0) B.isi B.bool bt_bool))))), ?_⟩
  refine ⟨_, rfl, av, v, d, rfl, hd, _, rfl, ?_⟩
  have e := isT_int d
  refine ite2 (fun c => ?_) (fun c => ?_)
  · refine ⟨_, rfl, av, v, d, rfl, hd, _, rfl, ?_⟩
    rw [c, Bool.true_and] at e
    show Q (.bl (!isT "bool" d)) H
    rw [e]
    exact q
  · rw [Bool.not_eq_true] at c
    rw [c, Bool.false_and] at e
    show Q (.bl false) H
    rw [e]
    exact q
end
end Rw
namespace Rw
open PySem L2
section
variable {P : Program} {w : World} {K : PySem.W.Frag} {mg : Str → Option Value} {base : Heap} {f : Addr} {fd : FuncData}
theorem scBelow : FnScope ["value", "many"] ["value", "many"] (defScope sBelow) := ⟨rfl, rfl, rfl, by decide +kernel, rfl, by decide +kernel, by decide +kernel⟩
theorem whole_at (l m i : Int) : wholeB l m (.int i) = (decide (l ≤ i) && decide (i ≤ m)) := rfl
theorem ok_below (F : Fun K "is_below" "is_below" sBelow f fd) (DI : Dfn P w K mg base "is_integer" ["value"] 1 spInteger) : FnOk P w K mg base CX0 2 f fd ["value", "many"] spBelow := by
  refine F.ok scBelow (fun vs H Q E h => ?_) (fun cdv A outer s H vs Q E hr h => ?_)
  · obtain ⟨_, _, _, _, rfl, _⟩ := h
    rfl
  obtain ⟨av, v, d, m, rfl, hd, q⟩ := h
  refine ⟨_, pss_one (ps_ret (pe_and (pe_own DI hr (pa_cons (pv 0) pa_nil)) (pe_one (pe_chain op_le op_lt pe_int (pv 0) (pv 1))))), ?_⟩
  refine ⟨_, rfl, av, v, d, rfl, hd, _, rfl, ?_⟩
  refine ite2 (fun c => ?_) (fun c => ?_)
  · obtain ⟨i, rfl⟩ := int_of c
    have e := hd.get_int
    subst e
    refine ⟨_, rfl, _, _, rfl, rfl, _, rfl, ?_⟩
    rw [whole_at] at q
    refine ite2 (fun c1 => ?_) (fun c1 => ?_)
    · refine ⟨_, rfl, _, _, rfl, rfl, ?_⟩
      rw [c1, Bool.true_and] at q
      have e2 : decide (i ≤ m - 1) = decide (i < m) := by
        by_cases h : i < m
        · rw [decide_eq_true h, decide_eq_true (by omega)]
        · rw [decide_eq_false h, decide_eq_false (by omega)]
      rw [e2] at q
      exact q
    · rw [Bool.not_eq_true] at c1
      rw [c1, Bool.false_and] at q
      exact q
  · have e : wholeB 0 (m - 1) d = false := by
      cases d <;> first | rfl | exact absurd rfl c
    rw [e] at q
    exact q
theorem scWhole : FnScope ["value", "least", "most"] ["value", "least", "most"] (defScope sWhole) := ⟨rfl, rfl, rfl, by decide +kernel, rfl, by decide +kernel, by decide +kernel⟩
theorem ok_whole (F : Fun K "_law_whole" "_law_whole" sWhole f fd) (B : Blt mg) : FnOk P w K mg base CX0 1 f fd ["value", "least", "most"] spWhole := by
  refine F.ok scWhole (fun vs H Q E h => ?_) (fun cdv A outer s H vs Q E hr h => ?_)
  · obtain ⟨_, _, _, _, _, rfl, _⟩ := h
    rfl
  obtain ⟨av, v, d, l, m, rfl, hd, q⟩ := h
  refine ⟨_, pss_one (ps_ret (pe_and (pe_isi (n := "int") (by simp) (pv 0) B.isi B.int bt_int) (pe_and (pe_not (pe_isi (n := "bool") (by simp) (pv 0) B.isi B.bool bt_bool)) (pe_one (pe_chain op_le op_le (pv 1) (pv 0) (pv 2)))))), ?_⟩
  refine ⟨_, rfl, av, v, d, rfl, hd, _, rfl, ?_⟩
  have e := isT_int d
  have no : isIntB d = false → Q (.bl false) H := fun c => by
    have e : wholeB l m d = false := by
      cases d <;> first | rfl | cases c
    rw [e] at q
    exact q
  refine ite2 (fun c => ?_) (fun c => ?_)
  · refine ⟨_, rfl, av, v, d, rfl, hd, _, rfl, _, rfl, ?_⟩
    rw [c, Bool.true_and] at e
    refine ite2 (fun c1 => ?_) (fun c1 => ?_)
    · rw [c1] at e
      obtain ⟨i, rfl⟩ := int_of e.symm
      have e := hd.get_int
      subst e
      refine ⟨_, rfl, _, rfl, _, _, rfl, rfl, _, rfl, ?_⟩
      rw [whole_at] at q
      refine ite2 (fun c1 => ?_) (fun c1 => ?_)
      · refine ⟨_, rfl, _, _, rfl, rfl, ?_⟩
        rw [c1, Bool.true_and] at q
        exact q
      · rw [Bool.not_eq_true] at c1
        rw [c1, Bool.false_and] at q
        exact q
    · rw [Bool.not_eq_true] at c1
      rw [c1] at e
      exact no e.symm
  · rw [Bool.not_eq_true] at c
    rw [c, Bool.false_and] at e
    exact no e.symm
theorem scTupleOf : FnScope ["value", "many"] ["value", "many"] (defScope sTupleOf) := ⟨rfl, rfl, rfl, by decide +kernel, rfl, by decide +kernel, by decide +kernel⟩
theorem ok_tupleOf (F : Fun K "is_tuple_of" "is_tuple_of" sTupleOf f fd) (B : Blt mg) : FnOk P w K mg base CX0 1 f fd ["value", "many"] spTupleOf := by
  refine F.ok scTupleOf (fun vs H Q E h => ?_) (fun cdv A outer s H vs Q E hr h => ?_)
  · obtain ⟨_, _, _, _, rfl, _⟩ := h
    rfl
  obtain ⟨av, v, d, n, rfl, hd, q⟩ := h
  refine ⟨_, pss_one (ps_ret (pe_and (pe_isi (n := "tuple") (by simp) (pv 0) B.isi B.tup bt_tuple) (pe_one (pe_cmpR op_eq (pe_callB call_len_seq (by rfl) B.len PySem.boot_len (pa_cons (pv 0) pa_nil)) (pv 1) (nomark _))))), ?_⟩
  refine ⟨_, rfl, av, v, d, rfl, hd, _, rfl, ?_⟩
  refine ite2 (fun c => ?_) (fun c => ?_)
  · obtain ⟨ds, rfl⟩ := isT_tup.mp c
    obtain ⟨a, xs, rfl, _, ha, hx⟩ := hd.get_tup
    refine ⟨_, rfl, a, xs, rfl, .inr (SqT.of ha), _, rfl, rfl, ?_⟩
    have e : decide (V.int ((xs.length : Nat) : Int) = V.int n) = tupOf n (.tuple ds) := by
      show _ = decide ((ds.length : Int) = n)
      rw [hx.len]
      by_cases h : ((ds.length : Nat) : Int) = n
      · rw [decide_eq_true h, decide_eq_true (by rw [h])]
      · rw [decide_eq_false h, decide_eq_false (fun z => h (V.int.inj z))]
    show Q (.bl (decide (V.int ((xs.length : Nat) : Int) = V.int n))) H
    rw [e]
    exact q
  · have e : tupOf n d = false := by
      cases d with
      | tuple ds => exact absurd (isT_tup.mpr ⟨ds, rfl⟩) c
      | _ => rfl
    rw [e] at q
    exact q
end
end Rw
namespace Rw
open PySem L2
theorem iteY {c A B : Prop} [Decidable c] (hc : c) (h : A) : if c then A else B := by
  rw [if_pos hc]
  exact h
theorem iteZ {c A B : Prop} [Decidable c] (hc : ¬ c) (h : B) : if c then A else B := by
  rw [if_neg hc]
  exact h
/-! ### what is wrong with a way: the mirror -/
def zsIO : List Str := ["in", "out"]
def stepB (m : Int) : PyData → Bool
  | .tuple [a, b] => zsIO.any (eqS a) && wholeB 0 (m - 1) b
  | _ => false
theorem stepB_ok {m : Int} {d : PyData} (h : stepB m d = true) : ∃ (z : Str) (i : Int), d = .tuple [.str z, .int i] ∧ (z = "in" ∨ z = "out") ∧ 0 ≤ i ∧ i < m := by
  cases d with
  | tuple ds =>
    match ds, h with
    | [a, b], h =>
      have h' : zsIO.any (eqS a) = true ∧ wholeB 0 (m - 1) b = true := by
        have q : (zsIO.any (eqS a) && wholeB 0 (m - 1) b) = true := h
        simpa only [Bool.and_eq_true] using q
      obtain ⟨h1, h2⟩ := h'
      cases a with
      | str z =>
        cases b with
        | int i =>
          have h3 : 0 ≤ i ∧ i ≤ m - 1 := by
            have q : (decide (0 ≤ i) && decide (i ≤ m - 1)) = true := h2
            simpa only [Bool.and_eq_true, decide_eq_true_eq] using q
          refine ⟨z, i, rfl, ?_, h3.1, by omega⟩
          have h4 : (("in" : Str) == z || (("out" : Str) == z || false)) = true := h1
          simp only [Bool.or_eq_true, Bool.or_false, beq_iff_eq] at h4
          rcases h4 with e | e
          · exact .inl e.symm
          · exact .inr e.symm
        | _ => cases h2
      | _ => exact absurd (show (false : Bool) = true from h1) (by decide)
  | _ => cases h
/-- the first item, from the place i on, that is no step -/
def badAt (m : Int) : Nat → List PyData → Option Nat
  | _, [] => none
  | i, d :: r => if stepB m d = true then badAt m (i + 1) r else some i
/-- word and room of a step -/
def wordOf : PyData → Str
  | .tuple [.str z, _] => z
  | _ => "in"
def roomOf : PyData → Int
  | .tuple [_, .int i] => i
  | _ => 0
/-- what is wrong with the order of steps, rooms being held, from the place i on -/
def nestE : Nat → List Int → List PyData → PyData
  | _, rs, [] => if rs = [] then .none else .str "held"
  | i, rs, d :: r =>
    if wordOf d = ("in" : Str) then
      if roomOf d ∈ rs then .tuple [.str "in", .int (i : Nat)] else nestE (i + 1) (rs ++ [roomOf d]) r
    else if rs.getLast? = some (roomOf d) then nestE (i + 1) rs.dropLast r else .tuple [.str "out", .int (i : Nat)]
theorem nestE_nil (i : Nat) (rs : List Int) : nestE i rs [] = if rs = [] then .none else .str "held" := rfl
theorem nestE_cons (i : Nat) (rs : List Int) (d : PyData) (r : List PyData) : nestE i rs (d :: r) = if wordOf d = ("in" : Str) then
      if roomOf d ∈ rs then .tuple [.str "in", .int (i : Nat)] else nestE (i + 1) (rs ++ [roomOf d]) r
    else if rs.getLast? = some (roomOf d) then nestE (i + 1) rs.dropLast r else .tuple [.str "out", .int (i : Nat)] := rfl
def wayE (m : Int) : PyData → PyData
  | .tuple ds => if 2 ≤ ds.length ∧ ds.length ≤ 24 then
      match badAt m 0 ds with
      | some k => .tuple [.str "step", .int (k : Nat)]
      | none => nestE 0 [] ds
    else .str "form"
  | _ => .str "form"
theorem badAt_drop {m : Int} : ∀ {ds : List PyData} {i : Nat} {d : PyData}, ds[i]? = some d → ds.drop i = d :: ds.drop (i + 1)
  | [], _, _, h => by simp at h
  | e :: ds, 0, d, h => by
    have q : e = d := Option.some.inj h
    rw [q]
    rfl
  | e :: ds, i + 1, d, h => badAt_drop (m := m) (ds := ds) (i := i) h
theorem badAt_none {m : Int} : ∀ {ds : List PyData} {i : Nat}, badAt m i ds = none → ∀ d ∈ ds, stepB m d = true
  | [], _, _, d, hd => by cases hd
  | e :: ds, i, h, d, hd => by
    unfold badAt at h
    by_cases c : stepB m e = true
    · rw [if_pos c] at h
      rcases List.mem_cons.mp hd with q | q
      · rw [q]
        exact c
      · exact badAt_none h d q
    · rw [if_neg c] at h
      cases h

def spStep : Sp := fun vs H Q _ => ∃ (av : Addr → Prop) (v : V) (d : PyData) (m : Int), vs = [.int m, v] ∧ Rp av H v d ∧ ∀ H', Same H H' → Q (.bl (stepB m d)) H'
/-- a value of the data d, new or old -/
def Gives (d : PyData) (H : Hp) (Q : VK) : Prop := ∀ (v : V) (H' : Hp), Same H H' → Rp (fun b => ∃ o, H b = some o) H' v d → Q v H'
def spNest : Sp := fun vs H Q _ => ∃ (av : Addr → Prop) (v : V) (ds : List PyData) (m : Int), vs = [v] ∧ Rp av H v (.tuple ds) ∧ (∀ d ∈ ds, stepB m d = true) ∧ ds.length ≤ 1000 ∧ Gives (nestE 0 [] ds) H Q
def spWayError : Sp := fun vs H Q _ => ∃ (av : Addr → Prop) (v : V) (d : PyData) (m : Int), vs = [.int m, v] ∧ Rp av H v d ∧ Gives (wayE m d) H Q
abbrev sStep : Stmt := top 10
abbrev sNest : Stmt := top 11
abbrev sWayError : Stmt := top 12
section
variable {P : Program} {w : World} {K : PySem.W.Frag} {mg : Str → Option Value} {base : Heap} {f : Addr} {fd : FuncData}
theorem scStep : FnScope ["many", "value"] ["many", "value"] (defScope sStep) := ⟨rfl, rfl, rfl, by decide +kernel, rfl, by decide +kernel, by decide +kernel⟩
theorem ok_step (F : Fun K "is_step" "is_step" sStep f fd) (DT : Dfn P w K mg base "is_tuple_of" ["value", "many"] 1 spTupleOf) (DB : Dfn P w K mg base "is_below" ["value", "many"] 2 spBelow) : FnOk P w K mg base CX0 3 f fd ["many", "value"] spStep := by
  refine F.ok scStep (fun vs H Q E h => ?_) (fun cdv A outer s H vs Q E hr h => ?_)
  · obtain ⟨_, _, _, _, rfl, _⟩ := h
    rfl
  obtain ⟨av, v, d, m, rfl, hd, q⟩ := h
  have hu := hu_of hr
  refine ⟨_, pss_one (ps_ret (pe_and (pe_own DT (hr.mono (by decide)) (pa_cons (pv 1) (pa_cons pe_int pa_nil)))
    (pe_and (pe_cmpR (op_inS hu) (pe_ix ix_tup (pv 1) pe_int (fun _ _ => rfl)) (pe_tup (pa_cons pe_str (pa_cons pe_str pa_nil))) (by rfl))
      (pe_one (pe_own DB hr (pa_cons (pe_ix ix_tup (pv 1) pe_int (fun _ _ => rfl)) (pa_cons (pv 0) pa_nil))))))), ?_⟩
  refine ⟨_, rfl, av, v, d, 2, rfl, hd, _, rfl, ?_⟩
  have no : ∀ H', Same H H' → stepB m d = false → Q (.bl false) H' := fun H' s e => by
    have z := q H' s
    rw [e] at z
    exact z
  refine ite2 (fun c => ?_) (fun c => ?_)
  · cases d with
    | tuple ds =>
      have hl : ((ds.length : Nat) : Int) = 2 := of_decide_eq_true c
      match ds, hl with
      | [a, b], _ =>
        obtain ⟨p, xs, rfl, _, hp, hx⟩ := hd.get_tup
        cases hx with
        | cons ra rt =>
          cases rt with
          | cons rb rn =>
            cases rn
            refine ⟨_, rfl, p, _, _, _, rfl, rfl, SqT.of hp, rfl, (by show 2 ≤ sizeLine; decide), fun t ht => ?_⟩
            have s1 : Same H (upd H t (.tup [.str "in", .str "out"])) := same_new ht _
            refine ⟨av, a, t, zsIO, ra.mono (Ext.of_same s1), rfl, SqT.of upd_same, _, rfl, ?_⟩
            have e0 : stepB m (.tuple [a, b]) = (zsIO.any (eqS a) && wholeB 0 (m - 1) b) := rfl
            refine ite2 (fun c1 => ?_) (fun c1 => ?_)
            · refine ⟨_, rfl, p, _, _, _, rfl, rfl, SqT.of (s1 _ _ hp), rfl, _, rfl, av, _, b, m, rfl, rb.mono (Ext.of_same s1), ?_⟩
              have z := q _ s1
              have c2 : zsIO.any (eqS a) = true := by simpa using c1
              rw [e0, c2, Bool.true_and] at z
              exact z
            · refine no _ s1 ?_
              have c2 : zsIO.any (eqS a) = false := by simpa using c1
              rw [e0, c2, Bool.false_and]
    | _ => cases c
  · refine no _ (Same.refl _) ?_
    cases d with
    | tuple ds =>
      match ds, c with
      | [], _ => rfl
      | [_], _ => rfl
      | [_, _], c => exact absurd rfl c
      | _ :: _ :: _ :: _, _ => rfl
    | _ => rfl
theorem inV_ints (r : Int) : ∀ rs : List Int, inV (.int r) (rs.map V.int) = decide (r ∈ rs)
  | [] => rfl
  | a :: rs => by
    have ih := inV_ints r rs
    unfold inV at ih ⊢
    rw [List.map_cons, List.any_cons, ih]
    show ((a == r) || decide (r ∈ rs)) = decide (r ∈ a :: rs)
    by_cases e : a = r
    · subst e
      simp
    · have e2 : ¬ r = a := fun z => e z.symm
      have e3 : (a == r) = false := beq_eq_false_iff_ne.mpr e
      rw [e3, Bool.false_or]
      by_cases h : r ∈ rs
      · rw [decide_eq_true h, decide_eq_true (List.mem_cons_of_mem _ h)]
      · rw [decide_eq_false h, decide_eq_false]
        intro z
        rcases List.mem_cons.mp z with y | y
        · exact e2 y
        · exact h y
theorem flat_ints : ∀ rs : List Int, (rs.map V.int).all flatV = true
  | [] => rfl
  | a :: rs => by
    rw [List.map_cons, List.all_cons, flat_ints rs]
    rfl
theorem scNest : FnScope ["steps", "rooms", "place", "word", "room"] ["steps"] (defScope sNest) := ⟨rfl, rfl, rfl, by decide +kernel, rfl, by decide +kernel, by decide +kernel⟩
theorem ok_nest (F : Fun K "nesting_error" "nesting_error" sNest f fd) (B : Blt mg) : FnOk P w K mg base CX0 1 f fd ["steps"] spNest := by
  refine F.ok scNest (fun vs H Q E h => ?_) (fun cdv A outer s H vs Q E hr h => ?_)
  · obtain ⟨_, _, _, _, rfl, _⟩ := h
    rfl
  obtain ⟨av, v, ds, m, rfl, hd, hst, hlen, q⟩ := h
  have nd := scNest.nd
  refine ⟨_, pss_cons (ps_set (i := 1) nd rfl (Or.inl rfl) (pe_lst pa_nil))
    (pss_cons (ps_for PassesOwn.never rfl (pi_enumT (by rfl) B.enu (pa_cons (pv 0) pa_nil))
      (pg_tup rfl (pgs_cons (pg_name (i := 2) nd rfl (Or.inl rfl)) (pgs_cons (pg_tup rfl (pgs_cons (pg_name (i := 3) nd rfl (Or.inl rfl)) (pgs_cons (pg_name (i := 4) nd rfl (Or.inl rfl)) pgs_nil))) pgs_nil)))
      (pss_one (ps_if (pt_cmpR op_eq (pv 3) pe_str (nomark _))
        (pss_cons (ps_if (pt_cmpR op_in_seq (pv 4) (pv 1) (by rfl)) (pss_one (ps_ret (pe_tup (pa_cons pe_str (pa_cons (pv 2) pa_nil))))) pss_nil)
          (pss_one (ps_expr (pe_bm PySem.F.plainAttrs_list PySem.F.slot_list_append PySem.F.type_list_append mt_append (pv 1) (pa_cons (pv 4) pa_nil)))))
        (pss_one (ps_if (PW.pt (pw_or (pt_not (pt_truth (pv 1) (by intro _; rfl))) (pw_or1 (pt_cmpR op_ne (pe_bm0 PySem.F.plainAttrs_list PySem.F.slot_list_pop PySem.F.type_list_pop mt_pop (pv 1)) (pv 4) (nomark _)))))
          (pss_one (ps_ret (pe_tup (pa_cons pe_str (pa_cons (pv 2) pa_nil))))) pss_nil)))))
    (pss_cons (ps_if (pt_truth (pv 1) (by intro _; rfl)) (pss_one (ps_ret pe_str)) pss_nil)
    (pss_one (ps_ret pe_non)))), ?_⟩
  obtain ⟨a, xs, rfl, _, ha, hx⟩ := hd.get_tup
  refine ⟨Nat.zero_le _, fun rl hrl => ?_⟩
  have s0 : Same H (upd H rl (.lst [])) := same_new hrl _
  have hxl : xs.length = ds.length := hx.len
  refine ⟨_, rfl, a, xs, rfl, SqT.of (s0 _ _ ha), for_it (walk_enumT (K := K) (a := a) (xs := xs)) (fun i σ H' => ∃ (rs : List Int) (v2 v3 v4 : Option V), σ = [some (.ref a), some (.ref rl), v2, v3, v4] ∧ Same H H' ∧ H' rl = some (.lst (rs.map V.int)) ∧ rs.length ≤ i ∧ nestE i rs (ds.drop i) = nestE 0 [] ds)
    ⟨[], none, none, none, rfl, s0, upd_same, Nat.le_refl _, rfl⟩ ?_ ?_ ?_⟩
  · rintro i σ H' _ ⟨_, _, _, _, _, s1, _⟩
    exact SqT.of (s1 _ _ ha)
  · rintro i x σ H1 H2 hi ⟨rs, v2, v3, v4, rfl, s1, hr1, hl1, hn1⟩ ⟨T, x1, y, rfl, hT, rfl, e1, hy⟩
    cases (Option.some.inj e1)
    obtain ⟨d, hdi, hry⟩ := hx.at hy
    have hmem : d ∈ ds := List.mem_of_getElem? hdi
    obtain ⟨z, r, rfl, hz, _, _⟩ := stepB_ok (hst d hmem)
    obtain ⟨b, ys, rfl, _, hb, hys⟩ := hry.get_tup
    cases hys with
    | cons ra rt =>
    cases rt with
    | cons rb rn =>
    cases rn
    cases ra
    cases rb
    have s2 : Same H (upd H1 T (.tup [.int (i : Nat), .ref b])) := s1.trans (same_new hT _)
    have hb2 := s2 _ _ hb
    have hr2 : upd H1 T (.tup [.int (i : Nat), .ref b]) rl = some (.lst (rs.map V.int)) := (same_new hT _) _ _ hr1
    rw [badAt_drop (m := m) hdi] at hn1
    refine ⟨T, _, rfl, SqT.of upd_same, rfl, _, _, rfl, _, _, rfl, b, _, rfl, SqT.of hb2, rfl, _, _, rfl, _, _, rfl, rfl, rfl, ?_⟩
    generalize upd H1 T (.tup [.int (i : Nat), .ref b]) = H3 at s2 hb2 hr2
    have give : ∀ (zz : Str) (p : Addr) (hp : H3 p = none), nestE 0 [] ds = .tuple [.str zz, .int (i : Nat)] → Q (.ref p) (upd H3 p (.tup [.str zz, .int (i : Nat)])) := fun zz p hp e => by
      rw [e] at q
      refine q _ _ (s2.trans (same_new hp _)) (.tup ?_ upd_same (.cons (.str _) (.cons (.int _) .nil)))
      rintro ⟨o, ho⟩
      rw [s2 _ _ ho] at hp
      cases hp
    refine ⟨_, rfl, rfl, _, rfl, ?_⟩
    refine ite2 (fun c => ?_) (fun c => ?_)
    · have hz1 : z = ("in" : Str) := V.str.inj (of_decide_eq_true c)
      have w1 : wordOf (.tuple [.str z, .int r]) = ("in" : Str) := hz1
      have n2 := hn1
      rw [nestE_cons, if_pos w1] at n2
      refine ⟨_, rfl, _, rfl, rl, _, rfl, .inl (SqL.of hr2), rfl, flat_ints rs, _, rfl, ?_⟩
      have e2 : (if false then !inV (V.int r) (rs.map V.int) else inV (V.int r) (rs.map V.int)) = decide (r ∈ rs) := inV_ints r rs
      refine ite2 (fun c2 => ?_) (fun c2 => ?_)
      · have hm2 : r ∈ rs := of_decide_eq_true (e2.symm.trans c2)
        rw [if_pos (show roomOf (.tuple [.str z, .int r]) ∈ rs from hm2)] at n2
        refine ⟨_, rfl, (by show 2 ≤ sizeLine; decide), fun p hp => ?_⟩
        exact give "in" p hp n2.symm
      · have hm2 : ¬ r ∈ rs := fun z => c2 (e2.trans (decide_eq_true z))
        rw [if_neg (show ¬ roomOf (.tuple [.str z, .int r]) ∈ rs from hm2)] at n2
        refine ⟨_, rfl, .inl ⟨rfl, _, SqL.of hr2⟩, _, rfl, rl, _, _, rfl, rfl, hr2, szlt (by rw [List.length_map]; omega), ?_⟩
        refine ⟨rs ++ [r], _, _, _, rfl, same_upd s2 hrl _, ?_, ?_, n2⟩
        · rw [upd_same, List.map_append]
          rfl
        · rw [List.length_append, List.length_singleton]
          omega
    · have hz1 : ¬ z = ("in" : Str) := fun e => c (decide_eq_true (by rw [e]))
      have w1 : ¬ wordOf (.tuple [.str z, .int r]) = ("in" : Str) := hz1
      have n2 := hn1
      rw [nestE_cons, if_neg w1] at n2
      refine ⟨_, rfl, _, .inl ⟨_, SqL.of hr2, rfl⟩, ?_⟩
      by_cases hr0 : rs = []
      · subst hr0
        rw [if_neg (by simp)] at n2
        refine iteY (by simp) ?_
        refine iteT (B := True) ?_
        refine ⟨_, rfl, (by show 2 ≤ sizeLine; decide), fun p hp => ?_⟩
        exact give "out" p hp n2.symm
      · refine iteZ (by simp [hr0]) ?_
        obtain ⟨c0, hc0, hdl⟩ := last_ints hr0
        have hlast : rs.getLast? = some c0 := by
          rw [List.length_map, List.getElem?_map] at hc0
          rw [List.getLast?_eq_getElem?]
          cases e : rs[rs.length - 1]? with
          | none =>
            rw [e] at hc0
            cases hc0
          | some z0 =>
            rw [e] at hc0
            cases hc0
            rfl
        refine ⟨_, rfl, .inl ⟨rfl, _, SqL.of hr2⟩, rl, _, _, rfl, rfl, hr2, hc0, ?_⟩
        rw [hdl]
        have s3 : Same H (upd H3 rl (.lst (rs.dropLast.map V.int))) := same_upd s2 hrl _
        refine ⟨_, rfl, rfl, _, rfl, ?_⟩
        refine ite2 (fun c2 => ?_) (fun c2 => ?_)
        · have ne : ¬ c0 = r := fun e => by
            rw [e] at c2
            simp at c2
          rw [if_neg (by rw [hlast]; exact fun e => ne (Option.some.inj e))] at n2
          refine ⟨_, rfl, (by show 2 ≤ sizeLine; decide), fun p hp => ?_⟩
          rw [← n2] at q
          refine q _ _ (s3.trans (same_new hp _)) (.tup ?_ upd_same (.cons (.str _) (.cons (.int _) .nil)))
          rintro ⟨o, ho⟩
          rw [s3 _ _ ho] at hp
          cases hp
        · have eq : c0 = r := by
            by_cases e : c0 = r
            · exact e
            · exact absurd (by simp [e]) c2
          subst eq
          rw [if_pos (by rw [hlast]; rfl)] at n2
          refine ⟨rs.dropLast, _, _, _, rfl, s3, upd_same, ?_, n2⟩
          rw [List.length_dropLast]
          omega
  · rintro σ H' ⟨rs, v2, v3, v4, rfl, s1, hr1, hl1, hn1⟩
    rw [hxl, List.drop_length] at hn1
    refine ⟨_, rfl, _, .inl ⟨_, SqL.of hr1, rfl⟩, ?_⟩
    rw [nestE_nil] at hn1
    cases rs with
    | nil =>
      rw [if_pos rfl] at hn1
      rw [← hn1] at q
      rw [if_neg (by simp)]
      exact q _ _ s1 .non
    | cons r0 rr =>
      rw [if_neg (by simp)] at hn1
      rw [← hn1] at q
      rw [if_pos (by simp)]
      exact q _ _ s1 (.str _)
end
end Rw
namespace Rw
open PySem L2
theorem Rp.weak {av av' : Addr → Prop} {H : Hp} (e : ∀ b, av' b → av b) {v : V} {d : PyData} (h : Rp av H v d) : Rp av' H v d := by
  induction h using Rp.rec (motive_2 := fun vs ds _ => RpAll av' H vs ds) with
  | non => exact .non
  | bl b => exact .bl b
  | int i => exact .int i
  | str x => exact .str x
  | lst n h _ r => exact .lst (fun z => n (e _ z)) h r
  | tup n h _ r => exact .tup (fun z => n (e _ z)) h r
  | dct n h _ r => exact .dct (fun z => n (e _ z)) h r
  | nil => exact .nil
  | cons _ _ a b => exact .cons a b
theorem Gives.ext {d : PyData} {H H' : Hp} {Q : VK} (g : Gives d H Q) (s : Same H H') : Gives d H' Q := fun v H2 s2 r => g v H2 (s.trans s2) (r.weak fun b ⟨o, h⟩ => ⟨o, s _ _ h⟩)
theorem Gives.pair {x : Str} {i : Int} {H H3 : Hp} {Q : VK} (g : Gives (.tuple [.str x, .int i]) H Q) (s : Same H H3) {p : Addr} (hp : H3 p = none) : Q (.ref p) (upd H3 p (.tup [.str x, .int i])) := by
  refine g _ _ (s.trans (same_new hp _)) (.tup ?_ upd_same (.cons (.str _) (.cons (.int _) .nil)))
  rintro ⟨o, ho⟩
  rw [s _ _ ho] at hp
  cases hp
theorem badAt_nil (m : Int) (i : Nat) : badAt m i [] = none := rfl
theorem badAt_cons (m : Int) (i : Nat) (d : PyData) (r : List PyData) : badAt m i (d :: r) = if stepB m d = true then badAt m (i + 1) r else some i := rfl
theorem wayE_tup (m : Int) (ds : List PyData) : wayE m (.tuple ds) = if 2 ≤ ds.length ∧ ds.length ≤ 24 then
      match badAt m 0 ds with
      | some k => .tuple [.str "step", .int (k : Nat)]
      | none => nestE 0 [] ds
    else .str "form" := rfl
section
variable {P : Program} {w : World} {K : PySem.W.Frag} {mg : Str → Option Value} {base : Heap} {f : Addr} {fd : FuncData}
theorem scWayError : FnScope ["many", "value", "place", "step"] ["many", "value"] (defScope sWayError) := ⟨rfl, rfl, rfl, by decide +kernel, rfl, by decide +kernel, by decide +kernel⟩
theorem ok_wayError (F : Fun K "way_error" "way_error" sWayError f fd) (B : Blt mg) (hmin : ∃ t, mg "MIN_STEPS" = some (.int 2 t)) (hmax : ∃ t, mg "MAX_STEPS" = some (.int 24 t))
    (DS : Dfn P w K mg base "is_step" ["many", "value"] 3 spStep) (DN : Dfn P w K mg base "nesting_error" ["steps"] 1 spNest) : FnOk P w K mg base CX0 4 f fd ["many", "value"] spWayError := by
  refine F.ok scWayError (fun vs H Q E h => ?_) (fun cdv A outer s H vs Q E hr h => ?_)
  · obtain ⟨_, _, _, _, rfl, _⟩ := h
    rfl
  obtain ⟨av, v, d, m, rfl, hd, q⟩ := h
  obtain ⟨t1, hmin⟩ := hmin
  obtain ⟨t2, hmax⟩ := hmax
  have nd := scWayError.nd
  refine ⟨_, pss_cons (ps_if (PW.pt (pw_or (pt_not (pt_val (pe_isi (n := "tuple") (by simp) (pv 1) B.isi B.tup bt_tuple)))
      (pw_or1 (pt_not (pt_chain op_le op_le (pe_glob (v := .int 2) (by rfl) hmin ⟨_, rfl⟩) (pe_callB call_len_seq (by rfl) B.len PySem.boot_len (pa_cons (pv 1) pa_nil)) (pe_glob (v := .int 24) (by rfl) hmax ⟨_, rfl⟩)))))) (pss_one (ps_ret pe_str)) pss_nil)
    (pss_cons (ps_for PassesOwn.never rfl (pi_enumT (by rfl) B.enu (pa_cons (pv 1) pa_nil)) (pg_tup rfl (pgs_cons (pg_name (i := 2) nd rfl (Or.inl rfl)) (pgs_cons (pg_name (i := 3) nd rfl (Or.inl rfl)) pgs_nil)))
      (pss_one (ps_if (pt_not (pt_val (pe_own DS hr (pa_cons (pv 0) (pa_cons (pv 3) pa_nil))))) (pss_one (ps_ret (pe_tup (pa_cons pe_str (pa_cons (pv 2) pa_nil))))) pss_nil)))
    (pss_one (ps_ret (pe_own DN (hr.mono (by decide)) (pa_cons (pv 1) pa_nil))))), ?_⟩
  refine ⟨_, rfl, av, v, d, rfl, hd, _, rfl, ?_⟩
  by_cases ht : isT "tuple" d = true
  case neg =>
    have e : wayE m d = .str "form" := by
      cases d with
      | tuple ds => exact absurd (isT_tup.mpr ⟨ds, rfl⟩) ht
      | _ => rfl
    rw [e] at q
    refine iteY (by simpa using ht) ?_
    refine iteT (B := True) ?_
    exact q _ _ (Same.refl _) (.str _)
  obtain ⟨ds, rfl⟩ := isT_tup.mp ht
  refine iteZ (by simpa using ht) ?_
  obtain ⟨a, xs, rfl, _, ha, hx⟩ := hd.get_tup
  have hl := hx.len
  have form : ¬ (2 ≤ ds.length ∧ ds.length ≤ 24) → Q (.str "form") H := fun n => by
    rw [wayE_tup, if_neg n] at q
    exact q _ _ (Same.refl _) (.str _)
  refine ⟨_, rfl, a, xs, rfl, .inr (SqT.of ha), _, _, rfl, rfl, _, rfl, ?_⟩
  by_cases c1 : (2 : Int) ≤ ((xs.length : Nat) : Int)
  case neg =>
    refine iteZ (by simpa using c1) ?_
    refine ⟨_, rfl, ?_⟩
    refine iteT (B := True) ?_
    exact form (by omega)
  refine iteY (by simpa using c1) ?_
  refine ⟨_, _, rfl, rfl, _, rfl, ?_⟩
  by_cases c2 : ((xs.length : Nat) : Int) ≤ 24
  case neg =>
    refine iteY (by simpa using c2) ?_
    exact form (by omega)
  refine iteZ (by simpa using c2) ?_
  have hlen : 2 ≤ ds.length ∧ ds.length ≤ 24 := by omega
  rw [wayE_tup, if_pos hlen] at q
  refine ⟨_, rfl, a, xs, rfl, SqT.of ha, for_it (walk_enumT (K := K) (a := a) (xs := xs)) (fun i σ H' => ∃ (v2 v3 : Option V), σ = [some (.int m), some (.ref a), v2, v3] ∧ Same H H' ∧ badAt m i (ds.drop i) = badAt m 0 ds) ⟨none, none, rfl, Same.refl _, rfl⟩ ?_ ?_ ?_⟩
  · rintro i σ H' _ ⟨_, _, _, s1, _⟩
    exact SqT.of (s1 _ _ ha)
  · rintro i x σ H1 H2 hi ⟨v2, v3, rfl, s1, hb1⟩ ⟨T, x1, y, rfl, hT, rfl, e1, hy⟩
    cases (Option.some.inj e1)
    obtain ⟨d, hdi, hry⟩ := hx.at hy
    have s2 : Same H (upd H1 T (.tup [.int (i : Nat), y])) := s1.trans (same_new hT _)
    rw [badAt_drop (m := m) hdi, badAt_cons] at hb1
    refine ⟨T, _, rfl, SqT.of upd_same, rfl, _, _, rfl, _, _, rfl, rfl, ?_⟩
    generalize upd H1 T (.tup [.int (i : Nat), y]) = H3 at s2
    refine ⟨_, rfl, _, rfl, av, y, d, m, rfl, hry.mono (Ext.of_same s2), fun H4 s3 => ⟨_, rfl, ?_⟩⟩
    have s4 := s2.trans s3
    by_cases c : stepB m d = true
    · refine iteZ (by simpa using c) ?_
      rw [if_pos c] at hb1
      exact ⟨_, _, rfl, s4, hb1⟩
    · refine iteY (by simpa using c) ?_
      rw [if_neg c] at hb1
      rw [← hb1] at q
      refine ⟨_, rfl, (by show 2 ≤ sizeLine; decide), fun p hp => ?_⟩
      exact q.pair s4 hp
  · rintro σ H' ⟨v2, v3, rfl, s1, hb1⟩
    rw [hl, List.drop_length, badAt_nil] at hb1
    rw [← hb1] at q
    refine ⟨_, rfl, av, _, ds, m, rfl, hd.mono (Ext.of_same s1), badAt_none hb1.symm, by omega, Gives.ext q s1⟩
end
end Rw
namespace Rw
open PySem L2
abbrev sWayFault : Stmt := top 39
theorem cut_last (rs : List Int) : cutV (rs.map V.int) (some (-1)) none = (rs.getLast?.toList).map V.int := by
  unfold cutV
  rw [List.length_map]
  have e1 : HT.sIx rs.length 0 (some (-1)) = rs.length - 1 := by
    show (if (-1 : Int) < 0 then ((-1 : Int) + (rs.length : Int)).toNat else min (-1 : Int).toNat rs.length) = _
    rw [if_pos (by decide)]
    omega
  have e2 : HT.sIx rs.length rs.length none = rs.length := rfl
  rw [e1, e2, ← List.map_drop, ← List.map_take]
  congr 1
  by_cases h : rs = []
  · subst h
    rfl
  · have hl := List.length_pos_iff.mpr h
    have e3 : rs.getLast? = some (rs[rs.length - 1]'(by omega)) := by
      rw [List.getLast?_eq_getElem?, List.getElem?_eq_getElem (by omega)]
    rw [e3, List.drop_eq_getElem_cons (show rs.length - 1 < rs.length by omega)]
    have e4 : rs.length - 1 + 1 = rs.length := by omega
    have e5 : rs.length - (rs.length - 1) = 1 := by omega
    rw [e4, e5, List.drop_length]
    rfl
theorem lastL_eq (rs : List Int) (r : Int) : decide (rs.getLast?.toList = [r]) = decide (rs.getLast? = some r) := by
  cases rs.getLast? with
  | none => rfl
  | some x =>
    by_cases h : x = r
    · subst h
      simp
    · simp [h]
section
variable {P : Program} {w : World} {K : PySem.W.Frag} {mg : Str → Option Value} {base : Heap} {f : Addr} {fd : FuncData}
theorem scWayFault : FnScope ["many", "value", "k", "step", "inside"] ["many", "value"] (defScope sWayFault) := ⟨rfl, rfl, rfl, by decide +kernel, rfl, by decide +kernel, by decide +kernel⟩
theorem ok_wayFault (F : Fun K "_law_way_fault" "_law_way_fault" sWayFault f fd) (B : Blt mg) (DW : Dfn P w K mg base "_law_whole" ["value", "least", "most"] 1 spWhole) : FnOk P w K mg base CX0 2 f fd ["many", "value"] spWayError := by
  refine F.ok scWayFault (fun vs H Q E h => ?_) (fun cdv A outer s H vs Q E hr h => ?_)
  · obtain ⟨_, _, _, _, rfl, _⟩ := h
    rfl
  obtain ⟨av, v, d, m, rfl, hd, q⟩ := h
  have nd := scWayFault.nd
  have hu := hu_of hr
  have hu64 : (A.deeper (PyProof.Rows.envOfC "_law_way_fault" (defScope sWayFault) s.heap.objs.size f cdv)).units + 64 < cLine := by
    have := hr.un
    omega
  refine ⟨_, pss_cons (ps_if (PW.pt (pw_or (pt_not (pt_val (pe_isi (n := "tuple") (by simp) (pv 1) B.isi B.tup bt_tuple)))
      (pw_or1 (pt_not (pt_chain op_le op_le pe_int (pe_callB call_len_seq (by rfl) B.len PySem.boot_len (pa_cons (pv 1) pa_nil)) pe_int))))) (pss_one (ps_ret pe_str)) pss_nil)
    (pss_cons (ps_for PassesOwn.never rfl (pi_enumT (by rfl) B.enu (pa_cons (pv 1) pa_nil)) (pg_tup rfl (pgs_cons (pg_name (i := 2) nd rfl (Or.inl rfl)) (pgs_cons (pg_name (i := 3) nd rfl (Or.inl rfl)) pgs_nil)))
      (pss_cons (ps_if (PW.pt (pw_or (pt_not (pt_val (pe_isi (n := "tuple") (by simp) (pv 3) B.isi B.tup bt_tuple)))
          (pw_or (pt_cmpR op_ne (pe_callB call_len_seq (by rfl) B.len PySem.boot_len (pa_cons (pv 3) pa_nil)) pe_int (nomark _))
            (pw_or1 (pt_cmpR (op_notInS hu) (pe_ix ix_tup (pv 3) pe_int (fun _ _ => rfl)) (pe_tup (pa_cons pe_str (pa_cons pe_str pa_nil))) (by rfl)))))) (pss_one (ps_ret (pe_tup (pa_cons pe_str (pa_cons (pv 2) pa_nil))))) pss_nil)
        (pss_one (ps_if (pt_not (pt_val (pe_own DW hr (pa_cons (pe_ix ix_tup (pv 3) pe_int (fun _ _ => rfl)) (pa_cons pe_int (pa_cons (pe_op op_sub (pv 0) pe_int) pa_nil))))))
          (pss_one (ps_ret (pe_tup (pa_cons pe_str (pa_cons (pv 2) pa_nil))))) pss_nil))))
    (pss_cons (ps_set (i := 4) nd rfl (Or.inl rfl) (pe_lst pa_nil))
    (pss_cons (ps_for PassesOwn.never rfl (pi_enumT (by rfl) B.enu (pa_cons (pv 1) pa_nil)) (pg_tup rfl (pgs_cons (pg_name (i := 2) nd rfl (Or.inl rfl)) (pgs_cons (pg_name (i := 3) nd rfl (Or.inl rfl)) pgs_nil)))
      (pss_cons (ps_if (PW.pt (pw_or (PW.pt (pw_and (pt_cmpR op_eq (pe_ix ix_tup (pv 3) pe_int (fun _ _ => rfl)) pe_str (nomark _)) (pw_and1 (pt_cmpR op_in_seq (pe_ix ix_tup (pv 3) pe_int (fun _ _ => rfl)) (pv 4) (by rfl)))))
          (pw_or1 (PW.pt (pw_and (pt_cmpR op_eq (pe_ix ix_tup (pv 3) pe_int (fun _ _ => rfl)) pe_str (nomark _))
            (pw_and1 (pt_cmpR (op_neD hu64) (pe_slice sl_list (pv 4) (po_some (pe_un un_neg pe_int)) po_none) (pe_lst (pa_cons (pe_ix ix_tup (pv 3) pe_int (fun _ _ => rfl)) pa_nil)) (nomark _))))))))
          (pss_one (ps_ret (pe_tup (pa_cons (pe_ix ix_tup (pv 3) pe_int (fun _ _ => rfl)) (pa_cons (pv 2) pa_nil))))) pss_nil)
        (pss_one (ps_if (pt_cmpR op_eq (pe_ix ix_tup (pv 3) pe_int (fun _ _ => rfl)) pe_str (nomark _))
          (pss_one (ps_expr (pe_bm PySem.F.plainAttrs_list PySem.F.slot_list_append PySem.F.type_list_append mt_append (pv 4) (pa_cons (pe_ix ix_tup (pv 3) pe_int (fun _ _ => rfl)) pa_nil))))
          (pss_one (ps_expr (pe_bm0 PySem.F.plainAttrs_list PySem.F.slot_list_pop PySem.F.type_list_pop mt_pop (pv 4))))))))
    (pss_one (ps_ret (pe_ifExp (pt_cmpR (op_neD hu64) (pv 4) (pe_lst pa_nil) (nomark _)) pe_str pe_non)))))), ?_⟩
  refine ⟨_, rfl, av, v, d, rfl, hd, _, rfl, ?_⟩
  by_cases ht : isT "tuple" d = true
  case neg =>
    have e : wayE m d = .str "form" := by
      cases d with
      | tuple ds => exact absurd (isT_tup.mpr ⟨ds, rfl⟩) ht
      | _ => rfl
    rw [e] at q
    refine iteY (by simpa using ht) ?_
    refine iteT (B := True) ?_
    exact q _ _ (Same.refl _) (.str _)
  obtain ⟨ds, rfl⟩ := isT_tup.mp ht
  refine iteZ (by simpa using ht) ?_
  obtain ⟨a, xs, rfl, _, ha, hx⟩ := hd.get_tup
  have hl := hx.len
  have form : ¬ (2 ≤ ds.length ∧ ds.length ≤ 24) → Q (.str "form") H := fun n => by
    rw [wayE_tup, if_neg n] at q
    exact q _ _ (Same.refl _) (.str _)
  refine ⟨_, rfl, a, xs, rfl, .inr (SqT.of ha), _, _, rfl, rfl, _, rfl, ?_⟩
  by_cases c1 : (2 : Int) ≤ ((xs.length : Nat) : Int)
  case neg =>
    refine iteZ (by simpa using c1) ?_
    refine ⟨_, rfl, ?_⟩
    refine iteT (B := True) ?_
    exact form (by omega)
  refine iteY (by simpa using c1) ?_
  refine ⟨_, _, rfl, rfl, _, rfl, ?_⟩
  by_cases c2 : ((xs.length : Nat) : Int) ≤ 24
  case neg =>
    refine iteY (by simpa using c2) ?_
    exact form (by omega)
  refine iteZ (by simpa using c2) ?_
  have hlen : 2 ≤ ds.length ∧ ds.length ≤ 24 := by omega
  rw [wayE_tup, if_pos hlen] at q
  refine ⟨_, rfl, a, xs, rfl, SqT.of ha, for_it (walk_enumT (K := K) (a := a) (xs := xs)) (fun i σ H' => ∃ (v2 v3 : Option V), σ = [some (.int m), some (.ref a), v2, v3, none] ∧ Same H H' ∧ badAt m i (ds.drop i) = badAt m 0 ds) ⟨none, none, rfl, Same.refl _, rfl⟩ ?_ ?_ ?_⟩
  · rintro i σ H' _ ⟨_, _, _, s1, _⟩
    exact SqT.of (s1 _ _ ha)
  · rintro i x σ H1 H2 hi ⟨v2, v3, rfl, s1, hb1⟩ ⟨T, x1, y, rfl, hT, rfl, e1, hy⟩
    cases (Option.some.inj e1)
    obtain ⟨d, hdi, hry⟩ := hx.at hy
    have s2 : Same H (upd H1 T (.tup [.int (i : Nat), y])) := s1.trans (same_new hT _)
    rw [badAt_drop (m := m) hdi, badAt_cons] at hb1
    refine ⟨T, _, rfl, SqT.of upd_same, rfl, _, _, rfl, _, _, rfl, rfl, ?_⟩
    generalize upd H1 T (.tup [.int (i : Nat), y]) = H3 at s2
    have bad : ∀ {H4 : Hp}, Same H H4 → ¬ stepB m d = true → ∀ p, H4 p = none → Q (.ref p) (upd H4 p (.tup [.str "step", .int (i : Nat)])) := fun s4 c p hp => by
      rw [if_neg c] at hb1
      rw [← hb1] at q
      exact q.pair s4 hp
    refine ⟨_, rfl, av, y, d, rfl, hry.mono (Ext.of_same s2), _, rfl, ?_⟩
    by_cases t1 : isT "tuple" d = true
    case neg =>
      refine iteY (by simpa using t1) ?_
      refine iteT (B := True) ?_
      refine ⟨_, rfl, (by show 2 ≤ sizeLine; decide), fun p hp => bad s2 (fun c => ?_) p hp⟩
      obtain ⟨z, r, rfl, _⟩ := stepB_ok c
      exact t1 (isT_tup.mpr ⟨_, rfl⟩)
    obtain ⟨es, rfl⟩ := isT_tup.mp t1
    refine iteZ (by simpa using t1) ?_
    obtain ⟨b, ys, rfl, _, hb, hys⟩ := hry.get_tup
    refine ⟨_, rfl, b, ys, rfl, .inr (SqT.of (s2 _ _ hb)), rfl, _, rfl, ?_⟩
    by_cases l2 : es.length = 2
    case neg =>
      refine iteY (by have := hys.len; simp; omega) ?_
      refine iteT (B := True) ?_
      refine ⟨_, rfl, (by show 2 ≤ sizeLine; decide), fun p hp => bad s2 (fun c => ?_) p hp⟩
      obtain ⟨z, r, e, _⟩ := stepB_ok c
      cases e
      exact l2 rfl
    refine iteZ (by have := hys.len; simp; omega) ?_
    match es, l2 with
    | [d0, d1], _ =>
    cases hys with
    | cons ra rt =>
    cases rt with
    | cons rb rn =>
    cases rn
    rename_i y0 _ y1 _
    refine ⟨_, rfl, b, _, _, _, rfl, rfl, SqT.of (s2 _ _ hb), rfl, (by show 2 ≤ sizeLine; decide), fun t ht2 => ?_⟩
    have s3 : Same H (upd H3 t (.tup [.str "in", .str "out"])) := s2.trans (same_new ht2 _)
    have w1 : upd H3 t (.tup [.str "in", .str "out"]) t = some (.tup (zsIO.map V.str)) := upd_same
    generalize upd H3 t (.tup [.str "in", .str "out"]) = H4 at s3 w1
    refine ⟨av, d0, t, zsIO, ra.mono (Ext.of_same s3), rfl, SqT.of w1, _, rfl, ?_⟩
    have e0 : stepB m (.tuple [d0, d1]) = (zsIO.any (eqS d0) && wholeB 0 (m - 1) d1) := rfl
    by_cases c3 : zsIO.any (eqS d0) = true
    case neg =>
      refine iteY (by simpa using c3) ?_
      refine ⟨_, rfl, (by show 2 ≤ sizeLine; decide), fun p hp => bad s3 (fun c => ?_) p hp⟩
      rw [e0, Bool.and_eq_true] at c
      exact c3 c.1
    refine iteZ (by simpa using c3) ?_
    refine ⟨_, rfl, b, _, _, _, rfl, rfl, SqT.of (s3 _ _ hb), rfl, _, rfl, _, _, rfl, rfl, av, _, d1, 0, m - 1, rfl, rb.mono (Ext.of_same s3), _, rfl, ?_⟩
    by_cases c4 : wholeB 0 (m - 1) d1 = true
    · refine iteZ (by simpa using c4) ?_
      rw [if_pos (show stepB m (.tuple [d0, d1]) = true by rw [e0, c3, c4]; rfl)] at hb1
      exact ⟨_, _, rfl, s3, hb1⟩
    · refine iteY (by simpa using c4) ?_
      refine ⟨_, rfl, (by show 2 ≤ sizeLine; decide), fun p hp => bad s3 (fun c => ?_) p hp⟩
      rw [e0, Bool.and_eq_true] at c
      exact c4 c.2
  rintro σ H1 ⟨v2, v3, rfl, s1, hb1⟩
  rw [hl, List.drop_length, badAt_nil] at hb1
  have hst := badAt_none hb1.symm
  rw [← hb1] at q
  have q : Gives (nestE 0 [] ds) H Q := q
  refine ⟨Nat.zero_le _, fun rl hrl => ?_⟩
  have hrl0 : H rl = none := s1.free hrl
  have s2 : Same H (upd H1 rl (.lst [])) := s1.trans (same_new hrl _)
  refine ⟨_, rfl, a, xs, rfl, SqT.of (s2 _ _ ha), for_it (walk_enumT (K := K) (a := a) (xs := xs)) (fun i σ H' => ∃ (rs : List Int) (v2 v3 : Option V), σ = [some (.int m), some (.ref a), v2, v3, some (.ref rl)] ∧ Same H H' ∧ H' rl = some (.lst (rs.map V.int)) ∧ rs.length ≤ i ∧ nestE i rs (ds.drop i) = nestE 0 [] ds)
    ⟨[], v2, v3, rfl, s2, upd_same, Nat.le_refl _, rfl⟩ ?_ ?_ ?_⟩
  · rintro i σ H' _ ⟨_, _, _, _, s1, _⟩
    exact SqT.of (s1 _ _ ha)
  · rintro i x σ H2 H2' hi ⟨rs, u2, u3, rfl, s1, hr1, hl1, hn1⟩ ⟨T, x1, y, rfl, hT, rfl, e1, hy⟩
    cases (Option.some.inj e1)
    obtain ⟨d, hdi, hry⟩ := hx.at hy
    have hmem : d ∈ ds := List.mem_of_getElem? hdi
    obtain ⟨z, r, rfl, hz, _, _⟩ := stepB_ok (hst d hmem)
    obtain ⟨b, ys, rfl, _, hb, hys⟩ := hry.get_tup
    cases hys with
    | cons ra rt =>
    cases rt with
    | cons rb rn =>
    cases rn
    cases ra
    cases rb
    have s3 : Same H (upd H2 T (.tup [.int (i : Nat), .ref b])) := s1.trans (same_new hT _)
    have hb2 := s3 _ _ hb
    have hr2 : upd H2 T (.tup [.int (i : Nat), .ref b]) rl = some (.lst (rs.map V.int)) := (same_new hT _) _ _ hr1
    rw [badAt_drop (m := m) hdi, nestE_cons] at hn1
    refine ⟨T, _, rfl, SqT.of upd_same, rfl, _, _, rfl, _, _, rfl, rfl, ?_⟩
    generalize upd H2 T (.tup [.int (i : Nat), .ref b]) = H3 at s3 hb2 hr2
    have at0 : ∀ {H' : Hp}, H' b = some (.tup [.str z, .int r]) → SqT K H' b [.str z, .int r] := fun e => SqT.of e
    refine ⟨_, rfl, b, _, _, _, rfl, rfl, at0 hb2, rfl, rfl, _, rfl, ?_⟩
    by_cases hz1 : z = ("in" : Str)
    · subst hz1
      rw [if_pos (show wordOf (.tuple [.str "in", .int r]) = ("in" : Str) from rfl)] at hn1
      refine iteY (by simp) ?_
      refine ⟨_, rfl, b, _, _, _, rfl, rfl, at0 hb2, rfl, _, rfl, rl, _, rfl, .inl (SqL.of hr2), rfl, flat_ints rs, _, rfl, ?_⟩
      have e2 : (if false then !inV (V.int r) (rs.map V.int) else inV (V.int r) (rs.map V.int)) = decide (r ∈ rs) := inV_ints r rs
      by_cases hm2 : r ∈ rs
      · rw [if_pos (show roomOf (.tuple [.str "in", .int r]) ∈ rs from hm2)] at hn1
        refine iteY (e2.trans (decide_eq_true hm2)) ?_
        refine iteT (B := True) ?_
        refine ⟨_, rfl, b, _, _, _, rfl, rfl, at0 hb2, rfl, _, rfl, (by show 2 ≤ sizeLine; decide), fun p hp => ?_⟩
        rw [← hn1] at q
        exact q.pair s3 hp
      · rw [if_neg (show ¬ roomOf (.tuple [.str "in", .int r]) ∈ rs from hm2)] at hn1
        refine iteZ (fun c => hm2 (of_decide_eq_true (e2.symm.trans c))) ?_
        refine ⟨_, rfl, b, _, _, _, rfl, rfl, at0 hb2, rfl, rfl, _, rfl, ?_⟩
        refine iteZ (by decide) ?_
        refine iteF (A := True) ?_
        refine ⟨_, rfl, b, _, _, _, rfl, rfl, at0 hb2, rfl, rfl, _, rfl, ?_⟩
        refine iteY (by simp) ?_
        refine ⟨_, rfl, .inl ⟨rfl, _, SqL.of hr2⟩, _, rfl, b, _, _, _, rfl, rfl, at0 hb2, rfl, rl, _, _, rfl, rfl, hr2, szlt (by rw [List.length_map]; omega), ?_⟩
        refine ⟨rs ++ [r], _, _, rfl, same_upd s3 hrl0 _, ?_, ?_, hn1⟩
        · rw [upd_same, List.map_append]
          rfl
        · rw [List.length_append, List.length_singleton]
          omega
    · have hz2 : z = ("out" : Str) := hz.resolve_left hz1
      subst hz2
      rw [if_neg (show ¬ wordOf (.tuple [.str "out", .int r]) = ("in" : Str) from hz1)] at hn1
      refine iteZ (by decide) ?_
      refine iteF (A := True) ?_
      refine ⟨_, rfl, b, _, _, _, rfl, rfl, at0 hb2, rfl, rfl, _, rfl, ?_⟩
      refine iteY (by simp) ?_
      refine ⟨_, rfl, _, rfl, _, rfl, rl, _, rfl, SqL.of hr2, fun p1 hp1 => ?_⟩
      rw [cut_last]
      have s4 : Same H3 (upd H3 p1 (.lst (rs.getLast?.toList.map V.int))) := same_new hp1 _
      refine ⟨_, rfl, b, _, _, _, rfl, rfl, at0 (s4 _ _ hb2), rfl, (by show 1 ≤ sizeLine; decide), fun p2 hp2 => ?_⟩
      have s5 := same_new hp2 (.lst [.int r])
      refine ⟨.list (rs.getLast?.toList.map PyData.int), .list ([r].map PyData.int), .lst (SqL.of (s5 _ _ upd_same)) (dp_ints _), .lst (SqL.of upd_same) (dp_ints [r]), shaped_ints _, shaped_ints [r], _, rfl, ?_⟩
      rw [eqv_ints, lastL_eq]
      have s6 : Same H (upd (upd H3 p1 (.lst (rs.getLast?.toList.map V.int))) p2 (.lst [.int r])) := s3.trans (s4.trans s5)
      have hb3 := s6 _ _ hb
      have hr3 := s5 _ _ (s4 _ _ hr2)
      generalize upd (upd H3 p1 (.lst (rs.getLast?.toList.map V.int))) p2 (.lst [.int r]) = H5 at s6 hb3 hr3
      by_cases hm2 : rs.getLast? = some r
      · rw [if_pos (show rs.getLast? = some (roomOf (.tuple [.str "out", .int r])) from hm2)] at hn1
        refine iteZ (by simp [hm2]) ?_
        refine ⟨_, rfl, b, _, _, _, rfl, rfl, at0 hb3, rfl, rfl, _, rfl, ?_⟩
        refine iteZ (by decide) ?_
        have hr0 : rs ≠ [] := fun e => by
          rw [e] at hm2
          cases hm2
        obtain ⟨c0, hc0, hdl⟩ := last_ints hr0
        refine ⟨_, rfl, .inl ⟨rfl, _, SqL.of hr3⟩, rl, _, _, rfl, rfl, hr3, hc0, ?_⟩
        rw [hdl]
        refine ⟨rs.dropLast, _, _, rfl, same_upd s6 hrl0 _, upd_same, ?_, hn1⟩
        rw [List.length_dropLast]
        omega
      · rw [if_neg (show ¬ rs.getLast? = some (roomOf (.tuple [.str "out", .int r])) from hm2)] at hn1
        refine iteY (by simp [hm2]) ?_
        refine ⟨_, rfl, b, _, _, _, rfl, rfl, at0 hb3, rfl, _, rfl, (by show 2 ≤ sizeLine; decide), fun p hp => ?_⟩
        rw [← hn1] at q
        exact q.pair s6 hp
  · rintro σ H2 ⟨rs, u2, u3, rfl, s1, hr1, hl1, hn1⟩
    rw [hl, List.drop_length, nestE_nil] at hn1
    refine ⟨_, rfl, Nat.zero_le _, fun p hp => ?_⟩
    have s3 := same_new hp (.lst [])
    refine ⟨.list (rs.map PyData.int), .list (([] : List Int).map PyData.int), .lst (SqL.of (s3 _ _ hr1)) (dp_ints _), .lst (SqL.of upd_same) .nil, shaped_ints _, shaped_ints [], _, rfl, ?_⟩
    rw [eqv_ints]
    by_cases hr0 : rs = []
    · rw [if_pos hr0] at hn1
      rw [← hn1] at q
      refine iteZ (by simp [hr0]) ?_
      exact q _ _ (s1.trans s3) .non
    · rw [if_neg hr0] at hn1
      rw [← hn1] at q
      refine iteY (by simp [hr0]) ?_
      exact q _ _ (s1.trans s3) (.str _)
end
end Rw
namespace Rw
open PySem L2
abbrev sSame : Stmt := top 31
def spPick : Sp := fun vs H Q _ => ∃ (dk gl l : Addr) (xs : List V), vs = [.ref dk, .ref l] ∧ DeckAt dk gl H ∧ H l = some (.lst xs) ∧ ¬ avD dk gl l ∧ 0 < xs.length ∧ xs.length < 1000 ∧ ∀ (v : V) (H' : Hp), v ∈ xs → Ext (avD dk gl) H H' → DeckAt dk gl H' → Q v H'
mutual
def plainT : PyData → Bool
  | .list _ => false
  | .dict _ => false
  | .tuple ds => plainAll ds
  | .none => true
  | .bool _ => true
  | .int _ => true
  | .str _ => true
def plainAll : List PyData → Bool
  | [] => true
  | d :: ds => plainT d && plainAll ds
end
theorem plain_mem : ∀ {ds : List PyData} {d : PyData}, plainAll ds = true → d ∈ ds → plainT d = true
  | e :: ds, d, h, hd => by
    have h' : plainT e = true ∧ plainAll ds = true := by simpa only [plainAll, Bool.and_eq_true] using h
    rcases List.mem_cons.mp hd with q | q
    · rw [q]
      exact h'.1
    · exact plain_mem h'.2 q
theorem depth_mem : ∀ {ds : List PyData} {d : PyData}, d ∈ ds → d.depth ≤ PyData.depthAll ds
  | e :: ds, d, hd => by
    simp only [PyData.depthAll]
    rcases List.mem_cons.mp hd with q | q
    · rw [q]
      exact Nat.le_max_left _ _
    · exact Nat.le_trans (depth_mem q) (Nat.le_max_right _ _)
def spSame (n : Nat) : Sp := fun vs H Q _ => ∃ (av av' : Addr → Prop) (x y : V) (d : PyData), vs = [x, y] ∧ Rp av H x d ∧ Rp av' H y d ∧ plainT d = true ∧ d.depth < n ∧ ∀ H', Same H H' → Q (.bl true) H'
section
variable {P : Program} {w : World} {K : PySem.W.Frag} {mg : Str → Option Value} {base : Heap} {f : Addr} {fd : FuncData}
theorem scPick : FnScope ["deck", "items"] ["deck", "items"] (defScope sPick) := ⟨rfl, rfl, rfl, by decide +kernel, rfl, by decide +kernel, by decide +kernel⟩
theorem ok_pick (F : Fun K "_law_pick" "_law_pick" sPick f fd) (B : Blt mg) (DD : Dfn P w K mg base "_law_draw" ["deck", "many"] 1 spDraw) : FnOk P w K mg base CX0 2 f fd ["deck", "items"] spPick := by
  refine F.ok scPick (fun vs H Q E h => ?_) (fun cdv A outer s H vs Q E hr h => ?_)
  · obtain ⟨_, _, _, _, rfl, _⟩ := h
    rfl
  obtain ⟨dk, gl, l, xs, rfl, hD, hl, nl, h0, h1, q⟩ := h
  refine ⟨_, pss_one (ps_ret (pe_ix ix_list (pv 1) (pe_own DD hr (pa_cons (pv 0) (pa_cons (pe_callB call_len_seq (by rfl) B.len PySem.boot_len (pa_cons (pv 1) pa_nil)) pa_nil))) (fun _ _ => rfl))), ?_⟩
  refine ⟨_, rfl, _, rfl, _, rfl, l, xs, rfl, .inl (SqL.of hl), dk, gl, _, rfl, hD, by omega, fun r H' e d r0 r1 => ?_⟩
  have rl : r < (xs.length : Int) := by
    rcases r1 with z | z
    · exact z
    · omega
  have rn : r.toNat < xs.length := by omega
  exact ⟨l, xs, r, xs[r.toNat], rfl, rfl, SqL.of (e _ _ nl hl), at_of (j := r.toNat) (by omega) (List.getElem?_eq_getElem rn), q _ _ (List.getElem_mem rn) e d⟩
theorem scSame : FnScope ["found", "due", "spot", "own"] ["found", "due"] (defScope sSame) := ⟨rfl, rfl, rfl, by decide +kernel, rfl, by decide +kernel, by decide +kernel⟩
theorem ok_same {n : Nat} (F : Fun K "_law_same" "_law_same" sSame f fd) (B : Blt mg) (DS : Dfn P w K mg base "_law_same" ["found", "due"] n (spSame n)) : FnOk P w K mg base CX0 (n + 1) f fd ["found", "due"] (spSame (n + 1)) := by
  refine F.ok scSame (fun vs H Q E h => ?_) (fun cdv A outer s H vs Q E hr h => ?_)
  · obtain ⟨_, _, _, _, _, rfl, _⟩ := h
    rfl
  obtain ⟨av, av', x, y, d, rfl, hx, hy, hp, hdp, q⟩ := h
  have nd := scSame.nd
  refine ⟨_, pss_cons (ps_if (pt_val (pe_isi (n := "tuple") (by simp) (pv 1) B.isi B.tup bt_tuple))
      (pss_cons (ps_if (PW.pt (pw_or (pt_not (pt_val (pe_isi (n := "tuple") (by simp) (pv 0) B.isi B.tup bt_tuple))) (pw_or1 (pt_cmpR op_ne (pe_callB call_len_seq (by rfl) B.len PySem.boot_len (pa_cons (pv 0) pa_nil)) (pe_callB call_len_seq (by rfl) B.len PySem.boot_len (pa_cons (pv 1) pa_nil)) (nomark _))))) (pss_one (ps_ret pe_bl)) pss_nil)
      (pss_cons (ps_for PassesOwn.never rfl (pi_enumT (by rfl) B.enu (pa_cons (pv 1) pa_nil)) (pg_tup rfl (pgs_cons (pg_name (i := 2) nd rfl (Or.inl rfl)) (pgs_cons (pg_name (i := 3) nd rfl (Or.inl rfl)) pgs_nil)))
        (pss_one (ps_if (pt_not (pt_val (pe_own DS hr (pa_cons (pe_ix ix_tup (pv 0) (pv 2) (fun _ _ => rfl)) (pa_cons (pv 3) pa_nil))))) (pss_one (ps_ret pe_bl)) pss_nil)))
      (pss_one (ps_ret pe_bl)))) pss_nil)
    (pss_cons (ps_if (pt_cmpR op_isN (pv 1) pe_non (nomark _)) (pss_one (ps_ret (pe_cmpR op_isN (pv 0) pe_non (nomark _)))) pss_nil)
    (pss_cons (ps_if (pt_val (pe_isi (n := "bool") (by simp) (pv 1) B.isi B.bool bt_bool)) (pss_one (ps_ret (pe_ifExp (pt_val (pv 1)) (pe_cmpR op_isBl (pv 0) pe_bl (nomark _)) (pe_cmpR op_isBl (pv 0) pe_bl (nomark _))))) pss_nil)
    (pss_cons (ps_if (pt_val (pe_isi (n := "int") (by simp) (pv 1) B.isi B.int bt_int)) (pss_one (ps_ret (pe_and (pe_isi (n := "int") (by simp) (pv 0) B.isi B.int bt_int) (pe_and (pe_not (pe_isi (n := "bool") (by simp) (pv 0) B.isi B.bool bt_bool)) (pe_one (pe_cmpR op_eq (pv 0) (pv 1) (nomark _))))))) pss_nil)
    (pss_one (ps_ret (pe_and (pe_isi (n := "str") (by simp) (pv 0) B.isi B.str bt_str) (pe_one (pe_cmpR op_eq (pv 0) (pv 1) (nomark _))))))))), ?_⟩
  have true_ : Q (.bl true) H := q _ (Same.refl _)
  refine ⟨_, rfl, av', y, d, rfl, hy, _, rfl, ?_⟩
  cases d with
  | tuple ds =>
    refine iteY (by show isC "tuple" "tuple" = true; decide) ?_
    obtain ⟨a, xs, rfl, _, ha, hxs⟩ := hx.get_tup
    obtain ⟨b, ys, rfl, _, hb, hys⟩ := hy.get_tup
    have l1 := hxs.len
    have l2 := hys.len
    have hp2 : plainAll ds = true := by simpa only [plainT] using hp
    have hd2 : PyData.depthAll ds < n := by
      simp only [PyData.depth] at hdp
      omega
    refine ⟨_, rfl, av, _, .tuple ds, rfl, hx, _, rfl, ?_⟩
    refine iteZ (by show ¬ (!isC "tuple" "tuple") = true; decide) ?_
    refine ⟨_, rfl, a, xs, rfl, .inr (SqT.of ha), _, rfl, b, ys, rfl, .inr (SqT.of hb), rfl, _, rfl, ?_⟩
    refine iteZ (by simp [l1, l2]) ?_
    refine ⟨_, rfl, b, ys, rfl, SqT.of hb, for_it (walk_enumT (K := K) (a := b) (xs := ys)) (fun i σ H' => ∃ (v2 v3 : Option V), σ = [some (.ref a), some (.ref b), v2, v3] ∧ Same H H') ⟨none, none, rfl, Same.refl _⟩ ?_ ?_ ?_⟩
    · rintro i σ H' _ ⟨_, _, _, s1⟩
      exact SqT.of (s1 _ _ hb)
    · rintro i x σ H1 H2 hi ⟨v2, v3, rfl, s1⟩ ⟨T, x1, y, rfl, hT, rfl, e1, hy1⟩
      cases (Option.some.inj e1)
      obtain ⟨d, hdi, hry⟩ := hys.at hy1
      have hix : i < xs.length := by
        have := (List.getElem?_eq_some_iff.mp hdi).1
        omega
      have hx1 : xs[i]? = some xs[i] := List.getElem?_eq_getElem hix
      obtain ⟨d2, hdi2, hrx⟩ := hxs.at hx1
      have ed : d2 = d := Option.some.inj (hdi2.symm.trans hdi)
      subst ed
      have hmem : d2 ∈ ds := List.mem_of_getElem? hdi
      have s2 : Same H (upd H1 T (.tup [.int (i : Nat), y])) := s1.trans (same_new hT _)
      refine ⟨T, _, rfl, SqT.of upd_same, rfl, _, _, rfl, _, _, rfl, rfl, ?_⟩
      generalize upd H1 T (.tup [.int (i : Nat), y]) = H3 at s2
      refine ⟨_, rfl, _, rfl, a, _, _, _, rfl, rfl, SqT.of (s2 _ _ ha), atI_nat hx1, _, rfl, av, av', _, y, d2, rfl, hrx.mono (Ext.of_same s2), hry.mono (Ext.of_same s2), plain_mem hp2 hmem, Nat.lt_of_le_of_lt (depth_mem hmem) hd2, fun H4 s3 => ⟨_, rfl, ?_⟩⟩
      refine iteF (A := True) ?_
      exact ⟨_, _, rfl, s2.trans s3⟩
    · rintro σ H' ⟨_, _, rfl, s1⟩
      exact q _ s1
  | none =>
    cases hx.get_non
    cases hy.get_non
    refine iteZ (by decide) ?_
    refine ⟨_, rfl, rfl, _, rfl, ?_⟩
    refine iteY (by decide) ?_
    exact ⟨_, rfl, rfl, true_⟩
  | bool b =>
    cases hx.get_bl
    cases hy.get_bl
    refine iteZ (by show ¬ isC "tuple" "bool" = true; decide) ?_
    refine ⟨_, rfl, rfl, _, rfl, ?_⟩
    refine iteZ (by simp) ?_
    refine ⟨_, rfl, av', _, _, rfl, hy, _, rfl, ?_⟩
    refine iteY (by show isC "bool" "bool" = true; decide) ?_
    refine ⟨_, rfl, _, rfl, ?_⟩
    cases b with
    | true =>
      refine iteY rfl ?_
      exact ⟨_, rfl, _, _, rfl, rfl, true_⟩
    | false =>
      refine iteZ (by decide) ?_
      exact ⟨_, rfl, _, _, rfl, rfl, true_⟩
  | int i =>
    cases hx.get_int
    cases hy.get_int
    refine iteZ (by show ¬ isC "tuple" "int" = true; decide) ?_
    refine ⟨_, rfl, rfl, _, rfl, ?_⟩
    refine iteZ (by simp) ?_
    refine ⟨_, rfl, av', _, _, rfl, hy, _, rfl, ?_⟩
    refine iteZ (by show ¬ isC "bool" "int" = true; decide) ?_
    refine ⟨_, rfl, av', _, _, rfl, hy, _, rfl, ?_⟩
    refine iteY (by show isC "int" "int" = true; decide) ?_
    refine ⟨_, rfl, av, _, _, rfl, hx, _, rfl, ?_⟩
    refine iteY (by show isC "int" "int" = true; decide) ?_
    refine ⟨_, rfl, av, _, _, rfl, hx, _, rfl, _, rfl, ?_⟩
    refine iteY (by show (!isC "bool" "int") = true; decide) ?_
    refine ⟨_, rfl, _, rfl, rfl, ?_⟩
    have e : decide (V.int i = V.int i) = true := decide_eq_true rfl
    show Q (.bl (decide (V.int i = V.int i))) H
    rw [e]
    exact true_
  | str z =>
    cases hx.get_str
    cases hy.get_str
    refine iteZ (by show ¬ isC "tuple" "str" = true; decide) ?_
    refine ⟨_, rfl, rfl, _, rfl, ?_⟩
    refine iteZ (by simp) ?_
    refine ⟨_, rfl, av', _, _, rfl, hy, _, rfl, ?_⟩
    refine iteZ (by show ¬ isC "bool" "str" = true; decide) ?_
    refine ⟨_, rfl, av', _, _, rfl, hy, _, rfl, ?_⟩
    refine iteZ (by show ¬ isC "int" "str" = true; decide) ?_
    refine ⟨_, rfl, av, _, _, rfl, hx, _, rfl, ?_⟩
    refine iteY (by show isC "str" "str" = true; decide) ?_
    refine ⟨_, rfl, _, rfl, rfl, ?_⟩
    have e : decide (V.str z = V.str z) = true := decide_eq_true rfl
    show Q (.bl (decide (V.str z = V.str z))) H
    rw [e]
    exact true_
  | list l => cases hp
  | dict l => cases hp
theorem none_ok {ps : List Str} {sp : Sp} (no : ∀ vs H Q E, ¬ sp vs H Q E) : FnOk P w K mg base CX0 0 f fd ps sp :=
  ⟨fun vs H Q E h => absurd h (no vs H Q E), fun A outer s H args us vs Q E _ _ _ _ h => absurd h (no vs H Q E)⟩
theorem same_all (D : Def K mg "_law_same" sSame ["found", "due"]) (B : Blt mg) : ∀ n : Nat, Dfn P w K mg base "_law_same" ["found", "due"] n (spSame n)
  | 0 => by
    obtain ⟨f, fd, F, m, b⟩ := D.ex
    refine ⟨f, fd, none_ok fun vs H Q E h => ?_, m, F.kp, b⟩
    obtain ⟨_, _, _, _, _, _, _, _, _, h0, _⟩ := h
    omega
  | n + 1 => D.ok fun f fd F => ok_same F B (same_all D B n)
end
end Rw
namespace Rw
open PySem L2
abbrev sAny : Stmt := top 32
def wAny : Nat → Nat
  | 0 => 70
  | k + 1 => 3 * (wAny k + 1) + 10
theorem wAny_mono : ∀ k, 70 ≤ wAny k
  | 0 => Nat.le_refl _
  | k + 1 => by
    have := wAny_mono k
    show 70 ≤ 3 * (wAny k + 1) + 10
    omega
theorem RpAll.weak2 {av av' : Addr → Prop} {H : Hp} (e : ∀ b, av' b → av b) : ∀ {vs : List V} {ds : List PyData}, RpAll av H vs ds → RpAll av' H vs ds
  | _, _, .nil => .nil
  | _, _, .cons a b => .cons (a.weak e) (RpAll.weak2 e b)
/-- something stands there -/
def dom (H : Hp) : Addr → Prop := fun b => ∃ o, H b = some o
theorem dom_ext {dk gl : Addr} {H H1 : Hp} (e : Ext (avD dk gl) H H1) (D : DeckAt dk gl H1) {b : Addr} (h : dom H b) : dom H1 b := by
  obtain ⟨g, s, t, h1, h2, _⟩ := D.ex
  obtain ⟨o, h⟩ := h
  by_cases c : avD dk gl b
  · rcases c with z | z
    · exact ⟨_, z ▸ h1⟩
    · exact ⟨_, z ▸ h2⟩
  · exact ⟨o, e _ _ c h⟩
theorem dom_deck {dk gl : Addr} {H : Hp} (D : DeckAt dk gl H) {b : Addr} (h : avD dk gl b) : dom H b := by
  obtain ⟨g, s, t, h1, h2, _⟩ := D.ex
  rcases h with z | z
  · exact ⟨_, z ▸ h1⟩
  · exact ⟨_, z ▸ h2⟩
theorem not_dom {H : Hp} {p : Addr} (h : H p = none) : ¬ dom H p := fun ⟨o, e⟩ => by
  rw [h] at e
  cases e
theorem ext_upd {av : Addr → Prop} {H0 H : Hp} {L : Addr} (e : Ext av H0 H) (h : H0 L = none) (o : HO) : Ext av H0 (upd H L o) := fun b u n q => by
  rw [upd_ne (ne_of_none q h)]
  exact e b u n q
theorem DeckAt.put {dk gl : Addr} {H : Hp} (D : DeckAt dk gl H) {L : Addr} (n : ¬ avD dk gl L) (o : HO) : DeckAt dk gl (upd H L o) := by
  obtain ⟨g, s, t, h1, h2, h3⟩ := D.ex
  refine ⟨g, s, t, ?_, ?_, h3⟩
  · rw [upd_ne fun e => n (.inl e.symm)]
    exact h1
  · rw [upd_ne fun e => n (.inr e.symm)]
    exact h2
/-- some new value is given: data that can be shown, of depth k and weight n at most -/
def GivesNew (dk gl : Addr) (k n : Nat) (H : Hp) (Q : VK) : Prop := ∀ (v : V) (d : PyData) (H' : Hp), Ext (avD dk gl) H H' → DeckAt dk gl H' → Rp (dom H) H' v d → Nc k d → d.weight ≤ n → Q v H'
theorem GivesNew.ext {dk gl : Addr} {k n : Nat} {H H1 : Hp} {Q : VK} (g : GivesNew dk gl k n H Q) (e : Ext (avD dk gl) H H1) (D : DeckAt dk gl H1) : GivesNew dk gl k n H1 Q := fun v d H' e2 hD r c w => g v d H' (e.trans e2) hD (r.weak fun _ h => dom_ext e D h) c w
theorem GivesNew.less {dk gl : Addr} {k n k' n' : Nat} {H : Hp} {Q : VK} (g : GivesNew dk gl k n H Q) (hk : k' ≤ k) (hn : n' ≤ n) : GivesNew dk gl k' n' H Q := fun v d H' e2 hD r c w => g v d H' e2 hD r (c.up hk) (Nat.le_trans w hn)
def spAny (n : Nat) : Sp := fun vs H Q _ => ∃ (dk gl : Addr) (deep : Int), vs = [.ref dk, .int deep] ∧ DeckAt dk gl H ∧ 0 ≤ deep ∧ deep < (n : Int) ∧ GivesNew dk gl (2 * deep.toNat) (wAny deep.toNat) H Q
def nsAny : List Int := [-1, 0, 1, 2, 4, 5, 6, 23, 24, 1000000000000000007]
def zsAny : List Str := ["in", "out", "", "-", "stand", "bow", "even", "rest", "go", "plain", "way +0 -0"]
theorem nsAny_ok : ∀ i ∈ nsAny, i.natAbs < 10 ^ 20 := by decide +kernel
def zOk (z : Str) : Bool := (z.cps.toList.all fun c => decide (c < 16 ^ 8)) && decide (z.cps.size ≤ 70)
theorem zsAny_ok : ∀ z ∈ zsAny, zOk z = true := by decide +kernel
theorem Nc.ofZ {k : Nat} {z : Str} (h : zOk z = true) : Nc k (.str z) ∧ (PyData.str z).weight ≤ 70 := by
  have h' : (z.cps.toList.all fun c => decide (c < 16 ^ 8)) = true ∧ z.cps.size ≤ 70 := by
    have q : ((z.cps.toList.all fun c => decide (c < 16 ^ 8)) && decide (z.cps.size ≤ 70)) = true := h
    simpa only [Bool.and_eq_true, decide_eq_true_eq] using q
  refine ⟨.str h'.1, ?_⟩
  simp only [PyData.weight]
  exact h'.2
theorem mem_strs {zs : List Str} {v : V} (h : v ∈ zs.map V.str) : ∃ z ∈ zs, v = .str z := by
  obtain ⟨z, hz, e⟩ := List.mem_map.mp h
  exact ⟨z, hz, e.symm⟩
theorem mem_intsV {zs : List Int} {v : V} (h : v ∈ zs.map V.int) : ∃ z ∈ zs, v = .int z := by
  obtain ⟨z, hz, e⟩ := List.mem_map.mp h
  exact ⟨z, hz, e.symm⟩
section
variable {P : Program} {w : World} {K : PySem.W.Frag} {mg : Str → Option Value} {base : Heap} {f : Addr} {fd : FuncData}
theorem scAny : FnScope ["deck", "deep", "sort", "items", "turn"] ["deck", "deep"] (defScope sAny) := ⟨rfl, rfl, rfl, by decide +kernel, rfl, by decide +kernel, by decide +kernel⟩
theorem ok_any {n : Nat} (F : Fun K "_law_any" "_law_any" sAny f fd) (B : Blt mg) (DD : Dfn P w K mg base "_law_draw" ["deck", "many"] 1 spDraw) (DP : Dfn P w K mg base "_law_pick" ["deck", "items"] 2 spPick)
    (DA : Dfn P w K mg base "_law_any" ["deck", "deep"] (n + 2) (spAny n)) : FnOk P w K mg base CX0 (n + 3) f fd ["deck", "deep"] (spAny (n + 1)) := by
  refine F.ok scAny (fun vs H Q E h => ?_) (fun cdv A outer s H vs Q E hr h => ?_)
  · obtain ⟨_, _, _, rfl, _⟩ := h
    rfl
  obtain ⟨dk, gl, deep, rfl, hD, d0, d1, q⟩ := h
  have nd := scAny.nd
  have hr1 : Room 1 (A.deeper (PyProof.Rows.envOfC "_law_any" (defScope sAny) s.heap.objs.size f cdv)) := hr.mono (by omega)
  have hr2 : Room 2 (A.deeper (PyProof.Rows.envOfC "_law_any" (defScope sAny) s.heap.objs.size f cdv)) := hr.mono (by omega)
  refine ⟨_, pss_cons (ps_set (i := 2) nd rfl (Or.inl rfl) (pe_own DD hr1 (pa_cons (pv 0) (pa_cons (pe_ifExp (pt_cmpR op_gt (pv 1) pe_int (nomark _)) pe_int pe_int) pa_nil))))
    (pss_cons (ps_if (pt_cmpR op_lt (pv 2) pe_int (nomark _)) (pss_one (ps_ret (pe_ix ix_list (pe_lst (pa_cons pe_non (pa_cons pe_bl (pa_cons pe_bl pa_nil)))) (pv 2) (fun _ _ => rfl)))) pss_nil)
    (pss_cons (ps_if (pt_cmpR op_lt (pv 2) pe_int (nomark _)) (pss_one (ps_ret (pe_own DP hr2 (pa_cons (pv 0) (pa_cons (pe_lst (pa_cons (pe_un un_neg pe_int) (pa_cons pe_int (pa_cons pe_int (pa_cons pe_int (pa_cons pe_int (pa_cons pe_int (pa_cons pe_int (pa_cons pe_int (pa_cons pe_int (pa_cons (pe_op op_add (pe_op op_pow pe_int pe_int) pe_int) pa_nil))))))))))) pa_nil))))) pss_nil)
    (pss_cons (ps_if (pt_cmpR op_lt (pv 2) pe_int (nomark _)) (pss_one (ps_ret (pe_own DP hr2 (pa_cons (pv 0) (pa_cons (pe_lst (pa_cons pe_str (pa_cons pe_str (pa_cons pe_str (pa_cons pe_str (pa_cons pe_str (pa_cons pe_str (pa_cons pe_str (pa_cons pe_str (pa_cons pe_str (pa_cons pe_str (pa_cons pe_str pa_nil)))))))))))) pa_nil))))) pss_nil)
    (pss_cons (ps_setLc (i := 3) (own := [("turn", 4)]) (g := gName 4) (tt := tYes) (by rfl) nd rfl rfl (sw_true rfl rfl rfl (by decide +kernel)) (pi_range1 (by rfl) B.rng (pa_cons (pe_own DD hr1 (pa_cons (pv 0) (pa_cons pe_int pa_nil))) pa_nil))
      (blkOk_by (N := ["deck", "deep", "sort", "items", "turn"]) (sc := defScope sAny) (by decide +kernel)) (fun _ _ _ _ _ => pg_name (i := 4) nd rfl (Or.inl rfl)) (fun _ _ _ _ _ => pts_nil)
      (fun _ _ _ _ _ => pe_own DA hr (pa_cons (pv 0) (pa_cons (pe_op op_sub (pv 1) pe_int) pa_nil))))
    (pss_cons (ps_if (pt_cmpR op_lt (pv 2) pe_int (nomark _)) (pss_one (ps_ret (pv 3))) pss_nil)
    (pss_one (ps_ret (pe_ifExp (pt_cmpR op_eq (pv 2) pe_int (nomark _)) (pe_disp (pps_cons pe_str (pv 3) pps_nil) (by rfl) (by rfl) (fun z => by cases z) (by decide)) (pe_callTy call_tuple_of (by rfl) B.tup (by decide +kernel) (pa_cons (pv 3) pa_nil)))))))))), ?_⟩
  refine ⟨_, rfl, _, rfl, _, _, rfl, rfl, _, rfl, ?_⟩
  refine ite2 (fun c => ?_) (fun c => ?_)
  all_goals refine ⟨dk, gl, _, rfl, hD, by decide, fun r H1 e1 D1 r0 r1 => ?_⟩
  all_goals have hr16 : r < 16 ∧ (deep ≤ 0 → r < 10) := by first | (have c := of_decide_eq_true c; omega) | (have c := of_decide_eq_false (Bool.eq_false_iff.mpr c); omega)
  all_goals clear r1 c
  all_goals replace q := q.ext e1 D1
  all_goals clear e1 hD
  all_goals (
    refine ⟨_, rfl, _, _, rfl, rfl, _, rfl, ?_⟩
    refine ite2 (fun c => ?_) (fun c => ?_)
    · have c := of_decide_eq_true c
      refine ⟨(by show 3 ≤ sizeLine; decide), fun l hl => ?_⟩
      have e2 : Ext (avD dk gl) H1 (upd H1 l (.lst [.non, .bl true, .bl false])) := Ext.new hl _
      have D2 := D1.same (same_new hl (.lst [.non, .bl true, .bl false]))
      have hr3 : r = 0 ∨ r = 1 ∨ r = 2 := by omega
      have w0 : ∀ n, 0 ≤ wAny n := fun n => Nat.zero_le _
      rcases hr3 with e | e | e <;> subst e
      · exact ⟨_, rfl, l, _, _, .non, rfl, rfl, SqL.of upd_same, rfl, q _ _ _ e2 D2 .non .non (w0 _)⟩
      · exact ⟨_, rfl, l, _, _, .bl true, rfl, rfl, SqL.of upd_same, rfl, q _ _ _ e2 D2 (.bl _) (.bl _) (w0 _)⟩
      · exact ⟨_, rfl, l, _, _, .bl false, rfl, rfl, SqL.of upd_same, rfl, q _ _ _ e2 D2 (.bl _) (.bl _) (w0 _)⟩
    refine ⟨_, rfl, _, _, rfl, rfl, _, rfl, ?_⟩
    refine ite2 (fun _ => ?_) (fun _ => ?_)
    · refine ⟨_, rfl, _, rfl, _, _, rfl, rfl, ⟨by decide, by decide, by decide⟩, _, _, rfl, rfl, (by show 10 ≤ sizeLine; decide), fun l hl => ?_⟩
      have s1 := same_new hl (.lst (nsAny.map V.int))
      refine ⟨dk, gl, l, nsAny.map V.int, rfl, D1.same s1, upd_same, D1.new hl, by decide, by decide, fun v H' hv e2 D2 => ?_⟩
      obtain ⟨z, hz, rfl⟩ := mem_intsV hv
      exact q _ _ _ ((Ext.of_same s1).trans e2) D2 (.int z) (.int (nsAny_ok z hz)) (Nat.le_trans (w_int (nsAny_ok z hz)) (wAny_mono _))
    refine ⟨_, rfl, _, _, rfl, rfl, _, rfl, ?_⟩
    refine ite2 (fun _ => ?_) (fun c2 => ?_)
    · refine ⟨_, rfl, (by show 11 ≤ sizeLine; decide), fun l hl => ?_⟩
      have s1 := same_new hl (.lst (zsAny.map V.str))
      refine ⟨dk, gl, l, zsAny.map V.str, rfl, D1.same s1, upd_same, D1.new hl, by decide, by decide, fun v H' hv e2 D2 => ?_⟩
      obtain ⟨z, hz, rfl⟩ := mem_strs hv
      obtain ⟨n1, n2⟩ := Nc.ofZ (k := 2 * deep.toNat) (zsAny_ok z hz)
      exact q _ _ _ ((Ext.of_same s1).trans e2) D2 (.str z) n1 (Nat.le_trans n2 (wAny_mono _))
    have c2 := of_decide_eq_false (Bool.eq_false_iff.mpr c2)
    have hdeep : 1 ≤ deep := by omega
    obtain ⟨k, hk⟩ : ∃ k : Nat, deep.toNat = k + 1 := ⟨deep.toNat - 1, by omega⟩
    have hk2 : (deep - 1).toNat = k := by omega
    rw [hk] at q
    refine ⟨_, rfl, dk, gl, 4, rfl, D1, by decide, fun r2 H2 e2 D2 p0 p1 => ⟨_, rfl, by omega, by omega, fun L hL => ?_⟩⟩
    have q2 := q.ext e2 D2
    have nL : ¬ avD dk gl L := D2.new hL
    refine lc_range (lo := 0) (n := r2.toNat) (fun i H' => Ext (avD dk gl) H2 H' ∧ DeckAt dk gl H' ∧ ∃ (xs : List V) (ds : List PyData), H' L = some (.lst xs) ∧ RpAll (fun b => dom H2 b ∨ b = L) H' xs ds ∧ NcAll (2 * k) ds ∧ PyData.weightAll ds ≤ i * (wAny k + 1) ∧ xs.length = i) ?_ ?_ ?_
    · exact ⟨Ext.new hL _, D2.same (same_new hL _), [], [], upd_same, .nil, .nil, Nat.zero_le _, rfl⟩
    · rintro i H3 hi ⟨e3, D3, xs, ds, hx, rx, nx, wx, lx⟩
      refine ⟨rfl, ?_⟩
      refine iteT (B := True) ?_
      refine ⟨_, rfl, _, rfl, _, _, rfl, rfl, dk, gl, deep - 1, rfl, D3, by omega, by omega, fun v d H4 e4 D4 rv nv wv => ?_⟩
      rw [hk2] at nv wv
      have hx4 := e4 _ _ nL hx
      refine ⟨xs, hx4, szlt (by omega), ext_upd (e3.trans e4) hL _, D4.put nL _, xs ++ [v], ds ++ [d], upd_same, ?_, nx.app (.cons nv .nil), ?_, ?_⟩
      · have m1 : Ext (fun b => dom H2 b ∨ b = L) H3 H4 := fun b o n h => e4 b o (fun z => n (.inl (dom_deck D2 z))) h
        have m2 : Ext (fun b => dom H2 b ∨ b = L) H4 (upd H4 L (.lst (xs ++ [v]))) := Ext.put (.inr rfl) _
        refine ((rx.mono m1).snoc (rv.weak fun b hb => ?_)).mono m2
        rcases hb with z | z
        · exact dom_ext e3 D3 z
        · exact ⟨_, z ▸ hx⟩
      · rw [wA_app]
        simp only [PyData.weightAll]
        have : (i + 1) * (wAny k + 1) = i * (wAny k + 1) + (wAny k + 1) := Nat.succ_mul _ _
        omega
      · rw [List.length_append, List.length_singleton, lx]
    rintro H3 ⟨e3, D3, xs, ds, hx, rx, nx, wx, lx⟩
    have hi3 : r2.toNat ≤ 3 := by omega
    have wx3 : PyData.weightAll ds ≤ 3 * (wAny k + 1) := Nat.le_trans wx (Nat.mul_le_mul_right _ hi3)
    have wk : 3 * (wAny k + 1) + 10 = wAny (k + 1) := rfl
    have rl : Rp (dom H2) H3 (.ref L) (.list ds) := .lst (not_dom hL) hx (rx.weak2 fun b h => .inl h)
    have lenx : xs.length ≤ sizeLine := sz (by omega)
    refine ⟨_, rfl, _, _, rfl, rfl, _, rfl, ?_⟩
    refine ite2 (fun _ => ?_) (fun _ => ?_)
    · refine ⟨_, rfl, q2 _ _ _ e3 D3 rl ((Nc.lst nx).up (by omega)) ?_⟩
      simp only [PyData.weight]
      omega
    refine ⟨_, rfl, rfl, _, rfl, ?_⟩
    refine ite2 (fun _ => ?_) (fun _ => ?_)
    · refine fun p hp => ⟨_, rfl, upd_same, [(Sum.inr ("0" : Str), .ref L)], rfl, (by show 1 ≤ 15; decide), ?_⟩
      have em : mergeK [] [((Sum.inr ("0" : Str) : Key), V.ref L)] = [(Sum.inr ("0" : Str), .ref L)] := rfl
      rw [em]
      have hp2 : H2 p = none := by
        cases z : H2 p with
        | none => rfl
        | some o =>
          obtain ⟨u, hu⟩ := dom_ext e3 D3 ⟨o, z⟩
          rw [hu] at hp
          cases hp
      have s5 : Same H3 (upd (upd H3 p (.dK [])) p (.dK [(Sum.inr ("0" : Str), .ref L)])) := by
        rw [upd_upd]
        exact same_new hp _
      have r5 : Rp (dom H2) (upd (upd H3 p (.dK [])) p (.dK [(Sum.inr ("0" : Str), .ref L)])) (.ref p) (.dict [(.str "0", .list ds)]) := .dct (not_dom hp2) upd_same (rl.mono (Ext.of_same s5))
      refine q2 _ _ _ (e3.trans (Ext.of_same s5)) (D3.same s5) r5 ((Nc.dct (.str (by decide +kernel)) (Nc.lst nx)).up (by omega)) ?_
      simp only [PyData.weight, PyData.weightKv]
      have z0 : (Str.ofString "0").cps.size = 1 := by decide +kernel
      omega
    · refine ⟨_, rfl, L, xs, rfl, .inl ⟨SqL.of hx, fun p hp => ?_⟩⟩
      have hp2 : H2 p = none := by
        cases z : H2 p with
        | none => rfl
        | some o =>
          obtain ⟨u, hu⟩ := dom_ext e3 D3 ⟨o, z⟩
          rw [hu] at hp
          cases hp
      have s5 := same_new hp (.tup xs)
      refine q2 _ _ _ (e3.trans (Ext.of_same s5)) (D3.same s5) (.tup (not_dom hp2) upd_same ((rx.weak2 fun b h => .inl h).mono (Ext.of_same s5))) ((Nc.tup nx).up (by omega)) ?_
      simp only [PyData.weight]
      omega)
theorem any_all (D : Def K mg "_law_any" sAny ["deck", "deep"]) (B : Blt mg) (DD : Dfn P w K mg base "_law_draw" ["deck", "many"] 1 spDraw) (DP : Dfn P w K mg base "_law_pick" ["deck", "items"] 2 spPick) : ∀ n : Nat, Dfn P w K mg base "_law_any" ["deck", "deep"] (n + 2) (spAny n)
  | 0 => by
    obtain ⟨f, fd, F, m, b⟩ := D.ex
    refine ⟨f, fd, (none_ok fun vs H Q E h => ?_).mono (Nat.zero_le _), m, F.kp, b⟩
    obtain ⟨_, _, _, _, _, h0, h1, _⟩ := h
    omega
  | n + 1 => D.ok fun f fd F => ok_any F B DD DP (any_all D B DD DP n)
end
end Rw
section
namespace Rw
open PySem L2
/-! ### slices and sums of tuples, new or not -/
theorem cut_whole {xs : List V} {lo hi : Option Int} (h : HT.sIx xs.length 0 lo = 0 ∧ HT.sIx xs.length xs.length hi = xs.length) : cutV xs lo hi = xs := by
  unfold cutV
  rw [h.1, h.2, List.drop_zero, Nat.sub_zero, List.take_length]
section
variable {X : Cx}
def rSlB : V → Option Int → Option Int → Hp → VK → Prop := fun x lo hi H Q => ∃ (a : Addr) (xs : List V), x = .ref a ∧ H a = some (.tup xs) ∧ ∀ (r : Addr) (H' : Hp), Same H H' → H' r = some (.tup (cutV xs lo hi)) → (r = a ∨ H r = none) → Q (.ref r) H'
theorem sl_tupB : SlR X rSlB := by
  intro pins s σ H x v vl vu lo hi sl Q I rx hs pl pu h
  obtain ⟨a, xs, rfl, ha, q⟩ := h
  refine sl_tupA pins s σ H _ v vl vu lo hi sl Q I rx hs pl pu ⟨a, xs, rfl, SqT.of ha, fun hw => ?_, fun _ p hp => ?_⟩
  · exact q a H (Same.refl _) (by rw [cut_whole hw]; exact ha) (.inl rfl)
  · exact q p _ (same_new hp _) upd_same (.inr hp)
def rCatB : R2 := fun x y H Q => ∃ (a b : Addr) (xs ys : List V), x = .ref a ∧ y = .ref b ∧ H a = some (.tup xs) ∧ H b = some (.tup ys) ∧ xs.length + ys.length ≤ sizeLine ∧
  ∀ (r : Addr) (H' : Hp), Same H H' → H' r = some (.tup (xs ++ ys)) → (r = a ∨ r = b ∨ H r = none) → Q (.ref r) H'
theorem op_catB : OpR X (binaryOp .Add) rCatB := by
  intro pins s σ H x y v u Q I rx ry h
  obtain ⟨a, b, xs, ys, rfl, rfl, ha, hb, hz, q⟩ := h
  refine op_catA pins s σ H _ _ v u Q I rx ry ⟨a, b, xs, ys, rfl, rfl, SqT.of ha, SqT.of hb, hz, fun e => ?_, fun _ e => ?_, fun _ _ p hp => ?_⟩
  · subst e
    exact q b H (Same.refl _) hb (.inr (.inl rfl))
  · subst e
    exact q a H (Same.refl _) (by rw [List.append_nil]; exact ha) (.inl rfl)
  · exact q p _ (same_new hp _) upd_same (.inr (.inr hp))
end
theorem cut_to (xs : List V) (n : Nat) : cutV xs none (some (n : Int)) = xs.take n := by
  unfold cutV
  rw [HT.sIx_none, HT.sIx_nat, List.drop_zero, Nat.sub_zero]
  by_cases h : n ≤ xs.length
  · rw [Nat.min_eq_left h]
  · rw [Nat.min_eq_right (by omega), List.take_length, List.take_of_length_le (by omega)]
theorem cut_from (xs : List V) (n : Nat) : cutV xs (some (n : Int)) none = xs.drop n := by
  unfold cutV
  rw [HT.sIx_none, HT.sIx_nat]
  by_cases h : n ≤ xs.length
  · rw [Nat.min_eq_left h]
    exact List.take_of_length_le (by rw [List.length_drop]; omega)
  · rw [Nat.min_eq_right (by omega), List.drop_length, List.drop_of_length_le (by omega)]
    simp
abbrev sOther : Stmt := top 33
abbrev sBent : Stmt := top 34
/-- some value is given, no part of which is the deck's -/
def GivesAny (dk gl : Addr) (k n : Nat) (H : Hp) (Q : VK) : Prop := ∀ (v : V) (d : PyData) (H' : Hp), Ext (avD dk gl) H H' → DeckAt dk gl H' → Rp (avD dk gl) H' v d → Nc k d → d.weight ≤ n → Q v H'
theorem GivesAny.ext {dk gl : Addr} {k n : Nat} {H H1 : Hp} {Q : VK} (g : GivesAny dk gl k n H Q) (e : Ext (avD dk gl) H H1) : GivesAny dk gl k n H1 Q := fun v d H' e2 hD r c w => g v d H' (e.trans e2) hD r c w
theorem GivesAny.less {dk gl : Addr} {k n k' n' : Nat} {H : Hp} {Q : VK} (g : GivesAny dk gl k n H Q) (hk : k' ≤ k) (hn : n' ≤ n) : GivesAny dk gl k' n' H Q := fun v d H' e2 hD r c w => g v d H' e2 hD r (c.up hk) (Nat.le_trans w hn)
theorem GivesAny.new {dk gl : Addr} {k n : Nat} {H : Hp} {Q : VK} (g : GivesAny dk gl k n H Q) (D : DeckAt dk gl H) : GivesNew dk gl k n H Q := fun v d H' e2 hD r c w => g v d H' e2 hD (r.weak fun _ h => dom_deck D h) c w
def spOther : Sp := fun vs H Q _ => ∃ (dk gl : Addr) (v : V) (d : PyData) (k n : Nat), vs = [.ref dk, v] ∧ DeckAt dk gl H ∧ Rp (avD dk gl) H v d ∧ Nc k d ∧ 4 ≤ k ∧ d.weight ≤ n ∧ n ≤ 500000 ∧ GivesAny dk gl k (2 * n + 700) H Q
def zsOther : List Str := ["in", "out", "stand", "bow", "even", "-", "In", "in ", "rest", "go"]
def zsMore : List Str := ["hand", "look", "yield", "low"]
theorem zsOther_ok : ∀ z ∈ zsOther ++ zsMore, zOk z = true := by decide +kernel
set_option hygiene false
/-! the last three rows of _law_other, from the heap Hc on -/
local macro_rules | `(tactic| walk_at "other end") => `(tactic| (
  refine ⟨_, rfl, rfl, _, rfl, ?_⟩
  refine (if h6 : r = 6 then ?_ else ?_)
  · refine iteY (by simp [h6]) ?_
    refine ⟨_, rfl, avD dk gl, v, d, 0, 1, rfl, rp1, _, rfl, ?_⟩
    refine (if hw6 : wholeB 0 1 d = true then ?_ else ?_)
    · refine iteY hw6 ?_
      cases d with
      | int i =>
        cases rp1.get_int
        refine ⟨_, rfl, rfl, ?_⟩
        exact q _ _ _ Ext.refl DC (.bl _) (.bl _) (Nat.zero_le _)
      | _ => cases hw6
    · refine iteZ hw6 ?_
      refine ⟨_, rfl, (by show 2 ≤ sizeLine; decide), fun t9 ht9 => ?_⟩
      have s19 := same_new ht9 (.tup [.int 4, .int 7])
      refine ⟨t9, [.int 4, .int 7], rfl, .inr (SqT.of upd_same), rfl, rfl, _, rfl, ?_⟩
      refine iteZ (fun c => absurd (of_decide_eq_true ((inTup [4, 7]).symm.trans c)) (by simp; omega)) ?_
      exact ⟨_, rfl, dk, gl, 2, rfl, DC.same s19, by decide, by decide, ((q.ext (Ext.of_same s19)).new (DC.same s19)).less (show 2 * (2 : Int).toNat ≤ k from hk) (show wAny (2 : Int).toNat ≤ 2 * n + 700 from Nat.le_trans (by decide : wAny 2 ≤ 700) (Nat.le_add_left _ _))⟩
  · refine iteZ (by simp [h6]) ?_
    refine iteF (A := True) ?_
    refine ⟨_, rfl, (by show 2 ≤ sizeLine; decide), fun t9 ht9 => ?_⟩
    have s19 := same_new ht9 (.tup [.int 4, .int 7])
    refine ⟨t9, [.int 4, .int 7], rfl, .inr (SqT.of upd_same), rfl, rfl, _, rfl, ?_⟩
    have D19 := DC.same s19
    have q19 := q.ext (Ext.of_same s19)
    refine (if h47 : r ∈ [(4 : Int), 7] then ?_ else ?_)
    · refine iteY ((inTup [4, 7]).trans (decide_eq_true h47)) ?_
      refine ⟨_, rfl, dk, gl, 8, rfl, D19, by decide, fun z H8 e8 D8 z0 z1 => ?_⟩
      have sm : (z - 1).natAbs < 10 ^ 20 := by omega
      exact ⟨_, _, rfl, rfl, q19 _ _ _ e8 D8 (.int _) (.int sm) (Nat.le_trans (w_int sm) (by omega))⟩
    · refine iteZ (fun c => h47 (of_decide_eq_true ((inTup [4, 7]).symm.trans c))) ?_
      exact ⟨_, rfl, dk, gl, 2, rfl, D19, by decide, by decide, (q19.new D19).less (show 2 * (2 : Int).toNat ≤ k from hk) (show wAny (2 : Int).toNat ≤ 2 * n + 700 from Nat.le_trans (by decide : wAny 2 ≤ 700) (Nat.le_add_left _ _))⟩))
local macro_rules | `(tactic| walk_at "other tail") => `(tactic| (
  refine ⟨_, rfl, rfl, _, rfl, ?_⟩
  refine (if h5 : r = 5 then ?_ else ?_)
  · refine iteY (by simp [h5]) ?_
    refine ⟨_, rfl, avD dk gl, v, d, rfl, rp1, _, rfl, ?_⟩
    refine (if hs5 : isT "str" d = true then ?_ else ?_)
    · refine iteY hs5 ?_
      refine ⟨(by show 10 ≤ sizeLine; decide), fun l hl => ?_⟩
      have s11 := same_new hl (.lst (zsOther.map V.str))
      refine ⟨_, rfl, _, rfl, (by show 4 ≤ sizeLine; decide), fun l2 hl2 => ?_⟩
      have s12 := same_new hl2 (.lst (zsMore.map V.str))
      refine ⟨l, l2, zsOther.map V.str, zsMore.map V.str, rfl, rfl, s12 _ _ upd_same, upd_same, (by show 14 ≤ sizeLine; decide), fun l3 hl3 => ?_⟩
      have s13 := same_new hl3 (.lst (zsOther.map V.str ++ zsMore.map V.str))
      have s14 := s11.trans (s12.trans s13)
      refine ⟨dk, gl, l3, (zsOther ++ zsMore).map V.str, rfl, DC.same s14, upd_same, (DC.same (s11.trans s12)).new hl3, by decide, by decide, fun v9 H9 hv9 e9 D9 => ?_⟩
      obtain ⟨z9, hz9, rfl⟩ := mem_strs hv9
      obtain ⟨n1, n2⟩ := Nc.ofZ (k := k) (zsOther_ok z9 hz9)
      exact q _ _ _ ((Ext.of_same s14).trans e9) D9 (.str z9) n1 (by omega)
    · refine iteZ hs5 ?_
      walk_at "other end"
  · refine iteZ (by simp [h5]) ?_
    refine iteF (A := True) ?_
    walk_at "other end"))
section
variable {P : Program} {w : World} {K : PySem.W.Frag} {mg : Str → Option Value} {base : Heap} {f : Addr} {fd : FuncData}
theorem scOther : FnScope ["deck", "item", "sort", "words"] ["deck", "item"] (defScope sOther) := ⟨rfl, rfl, rfl, by decide +kernel, rfl, by decide +kernel, by decide +kernel⟩
theorem ok_other (F : Fun K "_law_other" "_law_other" sOther f fd) (B : Blt mg) (DD : Dfn P w K mg base "_law_draw" ["deck", "many"] 1 spDraw) (DP : Dfn P w K mg base "_law_pick" ["deck", "items"] 2 spPick)
    (DW : Dfn P w K mg base "_law_whole" ["value", "least", "most"] 1 spWhole) (DA : Dfn P w K mg base "_law_any" ["deck", "deep"] 5 (spAny 3)) : FnOk P w K mg base CX0 6 f fd ["deck", "item"] spOther := by
  refine F.ok scOther (fun vs H Q E h => ?_) (fun cdv A outer s H vs Q E hr h => ?_)
  · obtain ⟨_, _, _, _, _, _, rfl, _⟩ := h
    rfl
  obtain ⟨dk, gl, v, d, k, n, rfl, hD, rp, nc, hk, wd, hn, q⟩ := h
  have nd := scOther.nd
  have hr1 : Room 1 (A.deeper (PyProof.Rows.envOfC "_law_other" (defScope sOther) s.heap.objs.size f cdv)) := hr.mono (by omega)
  have hr2 : Room 2 (A.deeper (PyProof.Rows.envOfC "_law_other" (defScope sOther) s.heap.objs.size f cdv)) := hr.mono (by omega)
  refine ⟨_, pss_cons (ps_set (i := 2) nd rfl (Or.inl rfl) (pe_own DD hr1 (pa_cons (pv 0) (pa_cons pe_int pa_nil))))
    (pss_cons (ps_if (PW.pt (pw_and (pt_cmpR op_lt (pv 2) pe_int (nomark _)) (pw_and1 (pt_val (pe_own DW hr1 (pa_cons (pv 1) (pa_cons (pe_un un_neg pe_int) (pa_cons pe_int pa_nil)))))))) (pss_one (ps_ret (pe_op op_sub (pe_op op_add (pv 1) pe_int) (pe_op op_mul pe_int (pv 2))))) pss_nil)
    (pss_cons (ps_if (PW.pt (pw_and (pt_val (pe_isi (n := "tuple") (by simp) (pv 1) B.isi B.tup bt_tuple)) (pw_and1 (pt_cmpR op_in_seq (pv 2) (pe_tup (pa_cons pe_int (pa_cons pe_int (pa_cons pe_int (pa_cons pe_int pa_nil))))) (by rfl)))))
      (pss_one (ps_ret (pe_ix ix_list (pe_lst (pa_cons (pe_callTy call_list_of (by rfl) B.list (by decide +kernel) (pa_cons (pv 1) pa_nil)) (pa_cons (pe_op op_catB (pv 1) (pe_slice sl_tupB (pv 1) po_none (po_some pe_int)))
        (pa_cons (pe_slice sl_tupB (pv 1) (po_some pe_int) po_none) (pa_cons (pe_op op_catB (pv 1) (pe_tup (pa_cons pe_non pa_nil))) pa_nil))))) (pe_op op_sub (pv 2) pe_int) (fun _ _ => rfl)))) pss_nil)
    (pss_cons (ps_if (PW.pt (pw_and (pt_cmpR op_eq (pv 2) pe_int (nomark _)) (pw_and1 (pt_val (pe_isi (n := "str") (by simp) (pv 1) B.isi B.str bt_str)))))
      (pss_cons (ps_set (i := 3) nd rfl (Or.inl rfl) (pe_lst (pa_cons pe_str (pa_cons pe_str (pa_cons pe_str (pa_cons pe_str (pa_cons pe_str (pa_cons pe_str (pa_cons pe_str (pa_cons pe_str (pa_cons pe_str (pa_cons pe_str pa_nil))))))))))))
        (pss_one (ps_ret (pe_own DP hr2 (pa_cons (pv 0) (pa_cons (pe_op op_cat (pv 3) (pe_lst (pa_cons pe_str (pa_cons pe_str (pa_cons pe_str (pa_cons pe_str pa_nil)))))) pa_nil)))))) pss_nil)
    (pss_cons (ps_if (PW.pt (pw_and (pt_cmpR op_eq (pv 2) pe_int (nomark _)) (pw_and1 (pt_val (pe_own DW hr1 (pa_cons (pv 1) (pa_cons pe_int (pa_cons pe_int pa_nil)))))))) (pss_one (ps_ret (pe_cmpR op_eq (pv 1) pe_int (nomark _)))) pss_nil)
    (pss_one (ps_ret (pe_ifExp (pt_cmpR op_in_seq (pv 2) (pe_tup (pa_cons pe_int (pa_cons pe_int pa_nil))) (by rfl)) (pe_op op_sub (pe_own DD hr1 (pa_cons (pv 0) (pa_cons pe_int pa_nil))) pe_int) (pe_own DA hr (pa_cons (pv 0) (pa_cons pe_int pa_nil)))))))))), ?_⟩
  refine ⟨_, rfl, dk, gl, 9, rfl, hD, by decide, fun r H1 e1 D1 r0 r1 => ?_⟩
  have r9 : r < 9 := by omega
  replace q := q.ext e1
  have rp1 := rp.mono e1
  clear r1 rp e1 hD
  have ten20 : (10 : Nat) ^ 20 = 100000000000000000000 := by decide
  have numbers : ∀ i : Int, -9 ≤ i → i ≤ 99999 → Q (.int (i + 1 - 2 * r)) H1 := fun i a b => by
    have sm : (i + 1 - 2 * r).natAbs < 10 ^ 20 := by omega
    exact q _ _ _ Ext.refl D1 (.int _) (.int sm) (Nat.le_trans (w_int sm) (by omega))
  have inTup : ∀ (zs : List Int), (if false then !inV (V.int r) (zs.map V.int) else inV (V.int r) (zs.map V.int)) = decide (r ∈ zs) := fun zs => inV_ints r zs
  refine ⟨_, rfl, _, _, rfl, rfl, _, rfl, ?_⟩
  by_cases hr2 : r < 2
  · refine iteY (decide_eq_true hr2) ?_
    refine ⟨_, rfl, _, rfl, avD dk gl, v, d, -9, 99999, rfl, rp1, _, rfl, ?_⟩
    by_cases hw : wholeB (-9) 99999 d = true
    · refine iteY hw ?_
      cases d with
      | int i =>
        cases rp1.get_int
        have h3 : -9 ≤ i ∧ i ≤ 99999 := by
          rw [whole_at, Bool.and_eq_true, decide_eq_true_eq, decide_eq_true_eq] at hw
          exact hw
        refine ⟨_, rfl, _, _, rfl, rfl, _, rfl, _, _, rfl, rfl, .inl ⟨by decide, by decide⟩, _, _, rfl, rfl, numbers i h3.1 h3.2⟩
      | _ => cases hw
    refine iteZ hw ?_
    refine ⟨_, rfl, avD dk gl, v, d, rfl, rp1, _, rfl, ?_⟩
    by_cases ht : isT "tuple" d = true
    · refine iteY ht ?_
      refine ⟨_, rfl, (by show 4 ≤ sizeLine; decide), fun t ht2 => ?_⟩
      have s1 := same_new ht2 (.tup [.int 2, .int 3, .int 4, .int 5])
      refine ⟨t, [.int 2, .int 3, .int 4, .int 5], rfl, .inr (SqT.of upd_same), rfl, rfl, _, rfl, ?_⟩
      have hr5 : ¬ r ∈ [(2 : Int), 3, 4, 5] := by
        simp
        omega
      refine iteZ (fun c => hr5 (of_decide_eq_true ((inTup [2, 3, 4, 5]).symm.trans c))) ?_
      have D2 := D1.same s1
      replace q := q.ext (Ext.of_same s1)
      replace rp1 := rp1.mono (Ext.of_same s1)
      generalize upd H1 t (.tup [.int 2, .int 3, .int 4, .int 5]) = Hc at D2 q rp1
      have DC := D2
      walk_at "other tail"
    · refine iteZ ht ?_
      refine iteF (A := True) ?_
      have DC := D1
      walk_at "other tail"
  · refine iteZ (fun c => hr2 (of_decide_eq_true c)) ?_
    refine iteF (A := True) ?_
    refine ⟨_, rfl, avD dk gl, v, d, rfl, rp1, _, rfl, ?_⟩
    by_cases ht : isT "tuple" d = true
    · refine iteY ht ?_
      refine ⟨_, rfl, (by show 4 ≤ sizeLine; decide), fun t ht2 => ?_⟩
      have s1 := same_new ht2 (.tup [.int 2, .int 3, .int 4, .int 5])
      refine ⟨t, [.int 2, .int 3, .int 4, .int 5], rfl, .inr (SqT.of upd_same), rfl, rfl, _, rfl, ?_⟩
      by_cases hr5 : r ∈ [(2 : Int), 3, 4, 5]
      · refine iteY ((inTup [2, 3, 4, 5]).trans (decide_eq_true hr5)) ?_
        obtain ⟨ds, rfl⟩ := isT_tup.mp ht
        obtain ⟨a, xs, rfl, na, ha, hx⟩ := rp1.get_tup
        have ha1 := s1 _ _ ha
        have E1 : Ext (avD dk gl) H1 (upd H1 t (.tup [.int 2, .int 3, .int 4, .int 5])) := Ext.of_same s1
        have D2 := D1.same s1
        replace q := q.ext E1
        replace hx := hx.mono E1
        generalize upd H1 t (.tup [.int 2, .int 3, .int 4, .int 5]) = H2 at ha1 D2 q hx
        have hl := hx.len
        have hwl := wA_len ds
        have wd2 : PyData.weightAll ds ≤ n := by simpa only [PyData.weight] using wd
        obtain ⟨nc2, k1⟩ := nc.of_tup
        obtain ⟨k', rfl⟩ : ∃ k', k = k' + 1 := ⟨k - 1, by omega⟩
        have nc3 : NcAll k' ds := nc2
        have lim : xs.length + xs.length ≤ sizeLine := by
          rw [PySem.sizeLine_eq]
          omega
        -- list(item)
        refine ⟨_, rfl, a, xs, rfl, .inr (SqT.of ha1), fun l hl1 => ?_⟩
        have s3 := same_new hl1 (.lst xs)
        -- item + item[:1]
        refine ⟨_, rfl, _, rfl, 1, rfl, a, xs, rfl, s3 _ _ ha1, fun c1 H3 s4 hc1 oc1 => ?_⟩
        have ha3 := s4 _ _ (s3 _ _ ha1)
        rw [show (some (1 : Int)) = some ((1 : Nat) : Int) from rfl, cut_to] at hc1
        refine ⟨a, c1, xs, _, rfl, rfl, ha3, hc1, ?_, fun c2 H4 s5 hc2 oc2 => ?_⟩
        · rw [List.length_take]
          omega
        have ha4 := s5 _ _ ha3
        -- item[1:]
        refine ⟨_, rfl, 1, rfl, a, xs, rfl, ha4, fun c3 H5 s6 hc3 oc3 => ?_⟩
        rw [show (some (1 : Int)) = some ((1 : Nat) : Int) from rfl, cut_from] at hc3
        have ha5 := s6 _ _ ha4
        -- item + (None,)
        refine ⟨_, rfl, (by show 1 ≤ sizeLine; decide), fun t1 ht1 => ?_⟩
        have s7 := same_new ht1 (.tup [.non])
        refine ⟨a, t1, xs, [.non], rfl, rfl, s7 _ _ ha5, upd_same, ?_, fun c4 H6 s8 hc4 oc4 => ?_⟩
        · show xs.length + 1 ≤ sizeLine
          rw [PySem.sizeLine_eq]
          omega
        refine ⟨(by show 4 ≤ sizeLine; decide), fun z hz => ?_⟩
        have s9 := same_new hz (.lst [.ref l, .ref c2, .ref c3, .ref c4])
        have S3 := s3.trans s4
        have S4 := S3.trans s5
        have S5 := S4.trans s6
        have S7 := S5.trans s7
        have S8 := S7.trans s8
        have S9 := S8.trans s9
        have EX := Ext.of_same (av := avD dk gl) S9
        have DD9 := D2.same S9
        have hx9 := hx.mono EX
        have na2 : ¬ avD dk gl c1 := by
          rcases oc1 with e | e
          · rw [e]
            exact na
          · exact (D2.same s3).new e
        have na3 : ¬ avD dk gl c2 := by
          rcases oc2 with e | e | e
          · rw [e]
            exact na
          · rw [e]
            exact na2
          · exact (D2.same S3).new e
        have na4 : ¬ avD dk gl c3 := by
          rcases oc3 with e | e
          · rw [e]
            exact na
          · exact (D2.same S4).new e
        have na5 : ¬ avD dk gl c4 := by
          rcases oc4 with e | e | e
          · rw [e]
            exact na
          · rw [e]
            exact (D2.same S5).new ht1
          · exact (D2.same S7).new e
        have hl9 := s9 _ _ (s8 _ _ (s7 _ _ (s6 _ _ (s5 _ _ (s4 _ _ (upd_same (H := H2) (a := l) (o := .lst xs)))))))
        have hc29 := s9 _ _ (s8 _ _ (s7 _ _ (s6 _ _ hc2)))
        have hc39 := s9 _ _ (s8 _ _ (s7 _ _ hc3))
        have hc49 := s9 _ _ hc4
        have r2345 : r = 2 ∨ r = 3 ∨ r = 4 ∨ r = 5 := by simpa using hr5
        have wt1 := wA_take 1 ds
        have wd1 := wA_drop 1 ds
        rcases r2345 with e | e | e | e <;> subst e
        · refine ⟨_, rfl, _, _, rfl, rfl, z, _, _, .ref l, rfl, rfl, SqL.of upd_same, rfl, ?_⟩
          refine q _ _ _ EX DD9 (.lst (D2.new hl1) hl9 hx9) (Nc.lst nc3) ?_
          simp only [PyData.weight]
          omega
        · refine ⟨_, rfl, _, _, rfl, rfl, z, _, _, .ref c2, rfl, rfl, SqL.of upd_same, rfl, ?_⟩
          refine q _ _ _ EX DD9 (.tup na3 hc29 (hx9.app (hx9.take 1))) (Nc.tup (nc3.app (nc3.sub fun d h => List.mem_of_mem_take h))) ?_
          simp only [PyData.weight]
          rw [wA_app]
          omega
        · refine ⟨_, rfl, _, _, rfl, rfl, z, _, _, .ref c3, rfl, rfl, SqL.of upd_same, rfl, ?_⟩
          refine q _ _ _ EX DD9 (.tup na4 hc39 (hx9.drop 1)) (Nc.tup (nc3.sub fun d h => List.mem_of_mem_drop h)) ?_
          simp only [PyData.weight]
          omega
        · refine ⟨_, rfl, _, _, rfl, rfl, z, _, _, .ref c4, rfl, rfl, SqL.of upd_same, rfl, ?_⟩
          refine q _ _ _ EX DD9 (.tup na5 hc49 (hx9.snoc .non)) (Nc.tup (nc3.app (.cons .non .nil))) ?_
          simp only [PyData.weight]
          rw [wA_app]
          simp only [PyData.weightAll, PyData.weight]
          omega
      · refine iteZ (fun c => hr5 (of_decide_eq_true ((inTup [2, 3, 4, 5]).symm.trans c))) ?_
        have D2 := D1.same s1
        replace q := q.ext (Ext.of_same s1)
        replace rp1 := rp1.mono (Ext.of_same s1)
        generalize upd H1 t (.tup [.int 2, .int 3, .int 4, .int 5]) = Hc at D2 q rp1
        have DC := D2
        walk_at "other tail"
    · refine iteZ ht ?_
      refine iteF (A := True) ?_
      have DC := D1
      walk_at "other tail"
end
end Rw
end
namespace Rw
open PySem L2
def wB (n j : Nat) : Nat := (2 + j) * n + 700 + j
theorem wB_succ (n j : Nat) : wB n (j + 1) = n + wB n j + 1 := by
  unfold wB
  have : (2 + (j + 1)) * n = (2 + j) * n + n := by rw [← Nat.add_assoc]; exact Nat.succ_mul _ _
  omega
theorem wB_low (n j : Nat) : 3 * n ≤ wB n (j + 1) := by
  unfold wB
  have : 3 * n ≤ (2 + (j + 1)) * n := Nat.mul_le_mul_right _ (by omega)
  omega
theorem wB_zero (n j : Nat) : 2 * n + 700 ≤ wB n j := by
  unfold wB
  have : 2 * n ≤ (2 + j) * n := Nat.mul_le_mul_right _ (by omega)
  omega
def spBent (m : Nat) : Sp := fun vs H Q _ => ∃ (dk gl : Addr) (v : V) (d : PyData) (deep : Int) (k n : Nat), vs = [.ref dk, v, .int deep] ∧ DeckAt dk gl H ∧ Rp (avD dk gl) H v d ∧ Nc k d ∧ 4 + deep.toNat ≤ k ∧ d.weight ≤ n ∧ n ≤ 100000 ∧ 0 ≤ deep ∧ deep < (m : Int) ∧ GivesAny dk gl k (wB n deep.toNat) H Q
section
variable {P : Program} {w : World} {K : PySem.W.Frag} {mg : Str → Option Value} {base : Heap} {f : Addr} {fd : FuncData}
theorem scBent : FnScope ["deck", "value", "deep", "at", "sort", "other", "row"] ["deck", "value", "deep"] (defScope sBent) := ⟨rfl, rfl, rfl, by decide +kernel, rfl, by decide +kernel, by decide +kernel⟩
theorem ok_bent {m : Nat} (F : Fun K "_law_bent" "_law_bent" sBent f fd) (B : Blt mg) (DD : Dfn P w K mg base "_law_draw" ["deck", "many"] 1 spDraw) (DO : Dfn P w K mg base "_law_other" ["deck", "item"] 6 spOther)
    (DB : Dfn P w K mg base "_law_bent" ["deck", "value", "deep"] (m + 6) (spBent m)) : FnOk P w K mg base CX0 (m + 7) f fd ["deck", "value", "deep"] (spBent (m + 1)) := by
  refine F.ok scBent (fun vs H Q E h => ?_) (fun cdv A outer s H vs Q E hr h => ?_)
  · obtain ⟨_, _, _, _, _, _, _, rfl, _⟩ := h
    rfl
  obtain ⟨dk, gl, v, d, deep, k, n, rfl, hD, rp, nc, hk, wd, hn, d0, d1, q⟩ := h
  have nd := scBent.nd
  have hu := hu_of hr
  have hu0 : (A.deeper (PyProof.Rows.envOfC "_law_bent" (defScope sBent) s.heap.objs.size f cdv)).units < cLine := by omega
  have hr1 : Room 1 (A.deeper (PyProof.Rows.envOfC "_law_bent" (defScope sBent) s.heap.objs.size f cdv)) := hr.mono (by omega)
  have hr6 : Room 6 (A.deeper (PyProof.Rows.envOfC "_law_bent" (defScope sBent) s.heap.objs.size f cdv)) := hr.mono (by omega)
  refine ⟨_, pss_cons (ps_if (PW.pt (pw_or (pt_not (pt_val (pe_isi (n := "tuple") (by simp) (pv 1) B.isi B.tup bt_tuple))) (pw_or (pt_cmpR (op_eqNil hu0) (pv 1) (pe_tup pa_nil) (nomark _)) (pw_or (pt_cmpR op_eq (pv 2) pe_int (nomark _))
        (pw_or1 (pt_cmpR op_eq (pe_own DD hr1 (pa_cons (pv 0) (pa_cons pe_int pa_nil))) pe_int (nomark _))))))) (pss_one (ps_ret (pe_own DO hr6 (pa_cons (pv 0) (pa_cons (pv 1) pa_nil))))) pss_nil)
    (pss_cons (ps_par (i := 3) (j := 4) (by rfl) nd rfl rfl (by decide) rfl rfl (pa_cons (pe_own DD hr1 (pa_cons (pv 0) (pa_cons (pe_callB call_len_seq (by rfl) B.len PySem.boot_len (pa_cons (pv 1) pa_nil)) pa_nil))) (pa_cons (pe_own DD hr1 (pa_cons (pv 0) (pa_cons pe_int pa_nil))) pa_nil)) (by rfl))
    (pss_cons (ps_if (pt_cmpR op_eq (pv 4) pe_int (nomark _)) (pss_one (ps_ret (pe_op op_catB (pe_slice sl_tupB (pv 1) po_none (po_some (pv 3))) (pe_slice sl_tupB (pv 1) (po_some (pe_op op_add (pv 3) pe_int)) po_none)))) pss_nil)
    (pss_cons (ps_if (pt_cmpR op_eq (pv 4) pe_int (nomark _)) (pss_one (ps_ret (pe_op op_catB (pe_op op_catB (pe_slice sl_tupB (pv 1) po_none (po_some (pv 3))) (pe_tup (pa_cons (pe_ix ix_tup (pv 1) (pv 3) (fun _ _ => rfl)) pa_nil))) (pe_slice sl_tupB (pv 1) (po_some (pv 3)) po_none)))) pss_nil)
    (pss_cons (ps_if (pt_cmpR op_eq (pv 4) pe_int (nomark _))
      (pss_cons (ps_par (i := 5) (j := 6) (by rfl) nd rfl rfl (by decide) rfl rfl (pa_cons (pe_own DD hr1 (pa_cons (pv 0) (pa_cons (pe_callB call_len_seq (by rfl) B.len PySem.boot_len (pa_cons (pv 1) pa_nil)) pa_nil))) (pa_cons (pe_callTy call_list_of (by rfl) B.list (by decide +kernel) (pa_cons (pv 1) pa_nil)) pa_nil)) (by rfl))
      (pss_cons (ps_asg (pe_tup (pa_cons (pe_ix ix_tup (pv 1) (pv 5) (fun _ _ => rfl)) (pa_cons (pe_ix ix_tup (pv 1) (pv 3) (fun _ _ => rfl)) pa_nil))) (pg_tup rfl (pgs_cons (pg_sub (pv 6) (pv 3) set_list) (pgs_cons (pg_sub (pv 6) (pv 5) set_list) pgs_nil))))
      (pss_one (ps_ret (pe_callTy call_tuple_of (by rfl) B.tup (by decide +kernel) (pa_cons (pv 6) pa_nil)))))) pss_nil)
    (pss_one (ps_ret (pe_op op_catB (pe_op op_catB (pe_slice sl_tupB (pv 1) po_none (po_some (pv 3))) (pe_tup (pa_cons (pe_own DB hr (pa_cons (pv 0) (pa_cons (pe_ix ix_tup (pv 1) (pv 3) (fun _ _ => rfl)) (pa_cons (pe_op op_sub (pv 2) pe_int) pa_nil)))) pa_nil))) (pe_slice sl_tupB (pv 1) (po_some (pe_op op_add (pv 3) pe_int)) po_none)))))))), ?_⟩
  have other : ∀ H', Ext (avD dk gl) H H' → DeckAt dk gl H' → spOther [.ref dk, v] H' Q E0 := fun H' e D => ⟨dk, gl, v, d, k, n, rfl, D, rp.mono e, nc, by omega, wd, by omega, (q.ext e).less (Nat.le_refl _) (wB_zero _ _)⟩
  refine ⟨_, rfl, avD dk gl, v, d, rfl, rp, _, rfl, ?_⟩
  by_cases ht : isT "tuple" d = true
  case neg =>
    refine iteY (by simpa using ht) ?_
    refine iteT (B := True) ?_
    exact ⟨_, rfl, _, rfl, other H Ext.refl hD⟩
  refine iteZ (by simpa using ht) ?_
  obtain ⟨ds, rfl⟩ := isT_tup.mp ht
  obtain ⟨a, xs, rfl, na, ha, hx⟩ := id rp.get_tup
  have hl := hx.len
  refine ⟨_, rfl, Nat.zero_le _, fun t0 ht0 => ?_⟩
  have s0 := same_new ht0 (.tup [])
  refine ⟨a, t0, xs, rfl, rfl, SqT.of (s0 _ _ ha), SqT.of upd_same, _, rfl, ?_⟩
  have E0' := Ext.of_same (av := avD dk gl) s0
  have D0 := hD.same s0
  by_cases hx0 : xs = []
  · refine iteY (decide_eq_true hx0) ?_
    refine iteT (B := True) ?_
    exact ⟨_, rfl, _, rfl, other _ E0' D0⟩
  refine iteZ (fun c => hx0 (of_decide_eq_true c)) ?_
  refine ⟨_, rfl, rfl, _, rfl, ?_⟩
  by_cases hd0 : deep = 0
  · refine iteY (by simp [hd0]) ?_
    refine iteT (B := True) ?_
    exact ⟨_, rfl, _, rfl, other _ E0' D0⟩
  refine iteZ (by simp [hd0]) ?_
  refine ⟨_, rfl, dk, gl, 6, rfl, D0, by decide, fun z1 H1 e1 D1 _ _ => ?_⟩
  replace e1 := E0'.trans e1
  refine ⟨rfl, _, rfl, ?_⟩
  by_cases hz1 : z1 = 0
  · refine iteY (by simp [hz1]) ?_
    exact ⟨_, rfl, _, rfl, other _ e1 D1⟩
  refine iteZ (by simp [hz1]) ?_
  -- at, sort
  have len1 : 0 < xs.length := List.length_pos_iff.mpr hx0
  have hwl := wA_len ds
  have wd2 : PyData.weightAll ds ≤ n := by simpa only [PyData.weight] using wd
  have szx : xs.length ≤ 600000 := by omega
  refine ⟨_, rfl, _, rfl, a, xs, rfl, .inr (SqT.of (e1 _ _ na ha)), dk, gl, _, rfl, D1, by omega, fun at_ H2 e2 D2 a0 a1 => ?_⟩
  have at1 : at_.toNat < xs.length := by omega
  have e12 := e1.trans e2
  refine ⟨_, rfl, dk, gl, 9, rfl, D2, by decide, fun sort H3 e3 D3 s0 s1 => ?_⟩
  have e13 := e12.trans e3
  have ha3 := e13 _ _ na ha
  have hx3 := hx.mono e13
  replace q := q.ext e13
  obtain ⟨j, hj⟩ : ∃ j : Nat, deep.toNat = j + 1 := ⟨deep.toNat - 1, by omega⟩
  have hj2 : (deep - 1).toNat = j := by omega
  rw [hj] at q hk
  obtain ⟨nc2, k1⟩ := nc.of_tup
  obtain ⟨k', rfl⟩ : ∃ k', k = k' + 1 := ⟨k - 1, by omega⟩
  have nc3 : NcAll k' ds := nc2
  clear e1 e2 e3 e12 other E0' D0 D1 D2 ha hx hD rp
  obtain ⟨i, rfl⟩ : ∃ i : Nat, at_ = (i : Int) := ⟨at_.toNat, by omega⟩
  have hi : i < xs.length := by omega
  have hid : i < ds.length := by omega
  have gx : xs[i]? = some xs[i] := List.getElem?_eq_getElem hi
  have gd : ds[i]? = some ds[i] := List.getElem?_eq_getElem hid
  have next_ : (some ((i : Int) + 1)) = some ((i + 1 : Nat) : Int) := by congr 1
  have wlow := wB_low n j
  have wi : ds[i].weight + 1 ≤ PyData.weightAll ds := wA_mem (List.getElem_mem hid)
  have wt := wA_take i ds
  have wdr := wA_drop i ds
  have wsplit : PyData.weightAll (ds.take i) + PyData.weightAll (ds.drop i) = PyData.weightAll ds := by
    rw [← wA_app, List.take_append_drop]
  have wsplit2 : PyData.weightAll (ds.drop i) = ds[i].weight + 1 + PyData.weightAll (ds.drop (i + 1)) := by
    rw [List.drop_eq_getElem_cons hid]
    simp only [PyData.weightAll]
  have rpi : Rp (avD dk gl) H3 xs[i] ds[i] := by
    obtain ⟨d', e, r⟩ := hx3.at gx
    rw [gd] at e
    cases e
    exact r
  have nci : Nc k' ds[i] := NcAll.iff.mp nc3 _ (List.getElem_mem hid)
  have small : ∀ p : Nat, p ≤ 300000 → p ≤ sizeLine := fun p hp => by
    rw [PySem.sizeLine_eq]
    omega
  have fin : ∀ (r : Addr) (H' : Hp) (es : List PyData) (ys : List V), Ext (avD dk gl) H3 H' → DeckAt dk gl H' → ¬ avD dk gl r → H' r = some (.tup ys) → RpAll (avD dk gl) H' ys es → NcAll k' es → PyData.weightAll es ≤ wB n (j + 1) → Q (.ref r) H' := fun r H' es ys e D nr hr rr ne we =>
    q _ _ _ e D (.tup nr hr rr) (Nc.tup ne) (by simpa only [PyData.weight] using we)
  have was : ∀ {H : Hp} {r : Addr}, DeckAt dk gl H → (r = a ∨ H r = none) → ¬ avD dk gl r := fun D o => by
    rcases o with e | e
    · rw [e]
      exact na
    · exact D.new e
  refine ⟨_, _, rfl, ?_⟩
  refine ⟨_, rfl, rfl, _, rfl, ?_⟩
  by_cases hs0 : sort = 0
  · refine iteY (by simp [hs0]) ?_
    refine ⟨_, rfl, _, rfl, (i : Int), rfl, a, xs, rfl, ha3, fun c1 H4 t1 hc1 oc1 => ?_⟩
    rw [cut_to] at hc1
    refine ⟨_, rfl, _, rfl, _, _, rfl, rfl, _, rfl, a, xs, rfl, t1 _ _ ha3, fun c2 H5 t2 hc2 oc2 => ?_⟩
    rw [next_, cut_from] at hc2
    refine ⟨c1, c2, _, _, rfl, rfl, t2 _ _ hc1, hc2, small _ (by rw [List.length_take, List.length_drop]; omega), fun r H6 t3 hr6 or6 => ?_⟩
    have T := t1.trans (t2.trans t3)
    have D5 := D3.same (t1.trans t2)
    have nr : ¬ avD dk gl r := by
      rcases or6 with e | e | e
      · rw [e]
        exact was D3 oc1
      · rw [e]
        exact was (D3.same t1) oc2
      · exact D5.new e
    have hx6 := hx3.mono (Ext.of_same T)
    refine fin r H6 _ _ (Ext.of_same T) (D3.same T) nr hr6 ((hx6.take i).app (hx6.drop (i + 1))) ((nc3.sub fun d h => List.mem_of_mem_take h).app (nc3.sub fun d h => List.mem_of_mem_drop h)) ?_
    rw [wA_app]
    omega
  refine iteZ (by simp [hs0]) ?_
  refine ⟨_, rfl, rfl, _, rfl, ?_⟩
  by_cases hs1 : sort = 1
  · refine iteY (by simp [hs1]) ?_
    refine ⟨_, rfl, _, rfl, (i : Int), rfl, a, xs, rfl, ha3, fun c1 H4 t1 hc1 oc1 => ?_⟩
    rw [cut_to] at hc1
    refine ⟨_, rfl, _, rfl, a, xs, _, _, rfl, rfl, SqT.of (t1 _ _ ha3), atI_nat gx, (by show 1 ≤ sizeLine; decide), fun p2 hp2 => ?_⟩
    have t2 := same_new hp2 (.tup [xs[i]])
    refine ⟨c1, p2, _, _, rfl, rfl, t2 _ _ hc1, upd_same, small _ (by rw [List.length_take, List.length_singleton]; omega), fun c3 H5 t3 hc3 oc3 => ?_⟩
    have T5 := t1.trans (t2.trans t3)
    refine ⟨_, rfl, _, rfl, (i : Int), rfl, a, xs, rfl, T5 _ _ ha3, fun c4 H6 t4 hc4 oc4 => ?_⟩
    rw [cut_from] at hc4
    refine ⟨c3, c4, _, _, rfl, rfl, t4 _ _ hc3, hc4, small _ (by rw [List.length_append, List.length_take, List.length_drop, List.length_singleton]; omega), fun r H7 t5 hr7 or7 => ?_⟩
    have T7 := T5.trans (t4.trans t5)
    have n3 : ¬ avD dk gl c3 := by
      rcases oc3 with e | e | e
      · rw [e]
        exact was D3 oc1
      · rw [e]
        exact (D3.same t1).new hp2
      · exact (D3.same (t1.trans t2)).new e
    have nr : ¬ avD dk gl r := by
      rcases or7 with e | e | e
      · rw [e]
        exact n3
      · rw [e]
        exact was (D3.same T5) oc4
      · exact (D3.same (T5.trans t4)).new e
    have hx7 := hx3.mono (Ext.of_same T7)
    refine fin r H7 _ _ (Ext.of_same T7) (D3.same T7) nr hr7 (((hx7.take i).snoc (rpi.mono (Ext.of_same T7))).app (hx7.drop i)) (((nc3.sub fun d h => List.mem_of_mem_take h).app (.cons nci .nil)).app (nc3.sub fun d h => List.mem_of_mem_drop h)) ?_
    rw [wA_app, wA_app]
    simp only [PyData.weightAll]
    omega
  refine iteZ (by simp [hs1]) ?_
  refine ⟨_, rfl, rfl, _, rfl, ?_⟩
  by_cases hs2 : sort = 2
  · refine iteY (by simp [hs2]) ?_
    refine ⟨_, rfl, _, rfl, a, xs, rfl, .inr (SqT.of ha3), dk, gl, _, rfl, D3, by omega, fun o_ H4 e4 D4 o0 o1 => ?_⟩
    have oi1 : o_.toNat < xs.length := by omega
    obtain ⟨o, rfl⟩ : ∃ o : Nat, o_ = (o : Int) := ⟨o_.toNat, by omega⟩
    have oi : o < xs.length := by omega
    have oid : o < ds.length := by omega
    have ox : xs[o]? = some xs[o] := List.getElem?_eq_getElem oi
    have od : ds[o]? = some ds[o] := List.getElem?_eq_getElem oid
    have wo : ds[o].weight + 1 ≤ PyData.weightAll ds := wA_mem (List.getElem_mem oid)
    have ha4 := e4 _ _ na ha3
    refine ⟨_, rfl, a, xs, rfl, .inr (SqT.of ha4), fun l hl1 => ⟨_, _, rfl, ?_⟩⟩
    have t1 := same_new hl1 (.lst xs)
    have nl := D4.new hl1
    have al : a ≠ l := ne_of_none ha4 hl1
    refine ⟨_, rfl, _, rfl, a, xs, _, _, rfl, rfl, SqT.of (t1 _ _ ha4), atI_nat ox, _, rfl, _, rfl, a, xs, _, _, rfl, rfl, SqT.of (t1 _ _ ha4), atI_nat gx, (by show 2 ≤ sizeLine; decide), fun p2 hp2 => ?_⟩
    have t2 := same_new hp2 (.tup [xs[o], xs[i]])
    have hl2 := t2 _ _ (upd_same (H := H4) (a := l) (o := .lst xs))
    have E5 : Ext (avD dk gl) H3 (upd (upd H4 l (.lst xs)) p2 (.tup [xs[o], xs[i]])) := e4.trans (Ext.of_same (t1.trans t2))
    have D5 := D4.same (t1.trans t2)
    have m5 : upd (upd H4 l (.lst xs)) p2 (.tup [xs[o], xs[i]]) p2 = some (.tup [xs[o], xs[i]]) := upd_same
    have lnone : H3 l = none := by
      cases z : H3 l with
      | none => rfl
      | some u =>
        have := e4 _ _ nl z
        rw [this] at hl1
        cases hl1
    generalize upd (upd H4 l (.lst xs)) p2 (.tup [xs[o], xs[i]]) = H5 at hl2 E5 D5 m5
    have ix1 : ixN xs.length (i : Int) = some i := by
      unfold ixN
      rw [if_pos (by omega), if_pos (by omega), Int.toNat_natCast]
    have ix2 : ixN (xs.set i xs[o]).length (o : Int) = some o := by
      rw [List.length_set]
      unfold ixN
      rw [if_pos (by omega), if_pos (by omega), Int.toNat_natCast]
    refine ⟨p2, _, rfl, SqT.of m5, rfl, _, _, rfl, _, rfl, _, rfl, l, xs, _, i, rfl, rfl, hl2, ix1, _, _, rfl, _, rfl, _, rfl, l, xs.set i xs[o], _, o, rfl, rfl, upd_same, ix2, rfl, ?_⟩
    have E7 : Ext (avD dk gl) H3 (upd (upd H5 l (.lst (xs.set i xs[o]))) l (.lst ((xs.set i xs[o]).set o xs[i]))) := by
      rw [upd_upd]
      exact ext_upd E5 lnone _
    have D7 : DeckAt dk gl (upd (upd H5 l (.lst (xs.set i xs[o]))) l (.lst ((xs.set i xs[o]).set o xs[i]))) := by
      rw [upd_upd]
      exact D5.put nl _
    have m7 : upd (upd H5 l (.lst (xs.set i xs[o]))) l (.lst ((xs.set i xs[o]).set o xs[i])) l = some (.lst ((xs.set i xs[o]).set o xs[i])) := upd_same
    generalize upd (upd H5 l (.lst (xs.set i xs[o]))) l (.lst ((xs.set i xs[o]).set o xs[i])) = H7 at E7 D7 m7
    refine ⟨_, rfl, l, _, rfl, .inl ⟨SqL.of m7, fun r hr7 => ?_⟩⟩
    have t8 := same_new hr7 (.tup ((xs.set i xs[o]).set o xs[i]))
    have E8 := E7.trans (Ext.of_same t8)
    have rpo : Rp (avD dk gl) H3 xs[o] ds[o] := by
      obtain ⟨d', e, r⟩ := hx3.at ox
      rw [od] at e
      cases e
      exact r
    have nco : Nc k' ds[o] := NcAll.iff.mp nc3 _ (List.getElem_mem oid)
    refine fin r _ ((ds.set i ds[o]).set o ds[i]) _ E8 (D7.same t8) (D7.new hr7) upd_same (((hx3.set rpo i).set rpi o).mono E8) ((nc3.set nco i).set nci o) ?_
    have w1 := wA_set ds i ds[o]
    have w2 := wA_set (ds.set i ds[o]) o ds[i]
    omega
  refine iteZ (by simp [hs2]) ?_
  refine ⟨_, rfl, _, rfl, (i : Int), rfl, a, xs, rfl, ha3, fun c1 H4 t1 hc1 oc1 => ?_⟩
  rw [cut_to] at hc1
  have D4 := D3.same t1
  refine ⟨_, rfl, _, rfl, _, rfl, a, xs, _, _, rfl, rfl, SqT.of (t1 _ _ ha3), atI_nat gx, _, rfl, _, _, rfl, rfl, dk, gl, xs[i], ds[i], deep - 1, k', n, rfl, D4, rpi.mono (Ext.of_same t1), nci, by omega, by omega, hn, by omega, by omega, fun v5 d5 H5 e5 D5 r5 n5 w5 => ?_⟩
  rw [hj2] at w5
  have nc1 : ¬ avD dk gl c1 := was D3 oc1
  have hc15 := e5 _ _ nc1 hc1
  refine ⟨(by show 1 ≤ sizeLine; decide), fun p2 hp2 => ?_⟩
  have t2 := same_new hp2 (.tup [v5])
  refine ⟨c1, p2, _, _, rfl, rfl, t2 _ _ hc15, upd_same, small _ (by rw [List.length_take, List.length_singleton]; omega), fun c3 H6 t3 hc3 oc3 => ?_⟩
  have E6 : Ext (avD dk gl) H3 H6 := (Ext.of_same t1).trans (e5.trans (Ext.of_same (t2.trans t3)))
  have D6 := D5.same (t2.trans t3)
  refine ⟨_, rfl, _, rfl, _, _, rfl, rfl, _, rfl, a, xs, rfl, E6 _ _ na ha3, fun c4 H7 t4 hc4 oc4 => ?_⟩
  rw [next_, cut_from] at hc4
  refine ⟨c3, c4, _, _, rfl, rfl, t4 _ _ hc3, hc4, small _ (by rw [List.length_append, List.length_take, List.length_drop, List.length_singleton]; omega), fun r H8 t5 hr8 or8 => ?_⟩
  have n3 : ¬ avD dk gl c3 := by
    rcases oc3 with e | e | e
    · rw [e]
      exact nc1
    · rw [e]
      exact D5.new hp2
    · exact (D5.same t2).new e
  have nr : ¬ avD dk gl r := by
    rcases or8 with e | e | e
    · rw [e]
      exact n3
    · rw [e]
      exact was D6 oc4
    · exact (D6.same t4).new e
  have E8 := E6.trans (Ext.of_same (t4.trans t5))
  have hx8 := hx3.mono E8
  have r58 := r5.mono (Ext.of_same (t2.trans (t3.trans (t4.trans t5))))
  refine fin r H8 _ _ E8 (D6.same (t4.trans t5)) nr hr8 (((hx8.take i).snoc r58).app (hx8.drop (i + 1))) (((nc3.sub fun d h => List.mem_of_mem_take h).app (.cons n5 .nil)).app (nc3.sub fun d h => List.mem_of_mem_drop h)) ?_
  rw [wA_app, wA_app]
  simp only [PyData.weightAll]
  have ws := wB_succ n j
  omega
theorem bent_all (D : Def K mg "_law_bent" sBent ["deck", "value", "deep"]) (B : Blt mg) (DD : Dfn P w K mg base "_law_draw" ["deck", "many"] 1 spDraw) (DO : Dfn P w K mg base "_law_other" ["deck", "item"] 6 spOther) : ∀ m : Nat, Dfn P w K mg base "_law_bent" ["deck", "value", "deep"] (m + 6) (spBent m)
  | 0 => by
    obtain ⟨f, fd, F, mm, b⟩ := D.ex
    refine ⟨f, fd, (none_ok fun vs H Q E h => ?_).mono (Nat.zero_le _), mm, F.kp, b⟩
    obtain ⟨_, _, _, _, _, _, _, _, _, _, _, _, _, _, h0, h1, _⟩ := h
    omega
  | m + 1 => D.ok fun f fd F => ok_bent F B DD DO (bent_all D B DD DO m)
end
end Rw
section
namespace Rw
open PySem L2
abbrev sWay : Stmt := top 35

def stepD (p : Bool × Int) : PyData := .tuple [.str (if p.1 then "in" else "out"), .int p.2]
def stk : List Int → List (Bool × Int) → Option (List Int)
  | rs, [] => some rs
  | rs, (true, r) :: t => stk (rs ++ [r]) t
  | rs, (false, _) :: t => if rs = [] then none else stk rs.dropLast t
theorem stk_app : ∀ (a b : List (Bool × Int)) (rs : List Int), stk rs (a ++ b) = (stk rs a).bind fun r => stk r b
  | [], _, _ => rfl
  | (true, r) :: a, b, rs => stk_app a b (rs ++ [r])
  | (false, _) :: a, b, rs => by
    show (if rs = [] then none else stk rs.dropLast (a ++ b)) = (if rs = [] then none else stk rs.dropLast a).bind _
    split
    · rfl
    · exact stk_app a b rs.dropLast
structure WayOk (st : List (Bool × Int)) : Prop where
  len : st.length ≤ 28
  rooms : ∀ p ∈ st, 0 ≤ p.2 ∧ p.2 < 1000
  runs : ∃ rs, stk [] st = some rs
def GivesWay (dk gl : Addr) (H : Hp) (Q : VK) : Prop := ∀ (v : V) (st : List (Bool × Int)) (H' : Hp), Ext (avD dk gl) H H' → DeckAt dk gl H' → Rp (dom H) H' v (.tuple (st.map stepD)) → WayOk st → Q v H'
def spWay : Sp := fun vs H Q _ => ∃ (dk gl : Addr) (rooms most : Int), vs = [.ref dk, .int rooms, .int most] ∧ DeckAt dk gl H ∧ 1 ≤ rooms ∧ rooms ≤ 900 ∧ 2 ≤ most ∧ most ≤ 24 ∧ GivesWay dk gl H Q
/-- within the loop of _law_way: the steps so far at SL, what is held at IL -/
structure WayAt (dk gl SL IL : Addr) (H H' : Hp) (rs : List Int) (sv : List V) (sd : List PyData) : Prop where
  ex : Ext (avD dk gl) H H'
  de : DeckAt dk gl H'
  st : H' SL = some (.lst sv)
  il : H' IL = some (.lst (rs.map V.int))
  rp : RpAll (fun b => dom H b ∨ b = SL ∨ b = IL) H' sv sd
theorem WayAt.ext {dk gl SL IL : Addr} {H H1 H2 : Hp} {rs : List Int} {sv : List V} {sd : List PyData} (w : WayAt dk gl SL IL H H1 rs sv sd) (hD : DeckAt dk gl H) (nS : ¬ avD dk gl SL) (nI : ¬ avD dk gl IL) (e : Ext (avD dk gl) H1 H2) (D : DeckAt dk gl H2) : WayAt dk gl SL IL H H2 rs sv sd where
  ex := w.ex.trans e
  de := D
  st := e _ _ nS w.st
  il := e _ _ nI w.il
  rp := w.rp.mono fun b o n h => e b o (fun z => n (.inl (dom_deck hD z))) h
theorem WayAt.putI {dk gl SL IL : Addr} {H H1 : Hp} {rs : List Int} {sv : List V} {sd : List PyData} (w : WayAt dk gl SL IL H H1 rs sv sd) (hI : H IL = none) (ne : SL ≠ IL) (nI : ¬ avD dk gl IL) (ts : List Int) : WayAt dk gl SL IL H (upd H1 IL (.lst (ts.map V.int))) ts sv sd where
  ex := ext_upd w.ex hI _
  de := w.de.put nI _
  st := by rw [upd_ne ne]; exact w.st
  il := upd_same
  rp := w.rp.mono (Ext.put (.inr (.inr rfl)) _)
theorem WayAt.putS {dk gl SL IL : Addr} {H H1 : Hp} {rs : List Int} {sv : List V} {sd : List PyData} (w : WayAt dk gl SL IL H H1 rs sv sd) (hS : H SL = none) (ne : SL ≠ IL) (nS : ¬ avD dk gl SL) {v : V} {d : PyData} (r : Rp (fun b => dom H b ∨ b = SL ∨ b = IL) H1 v d) : WayAt dk gl SL IL H (upd H1 SL (.lst (sv ++ [v]))) rs (sv ++ [v]) (sd ++ [d]) where
  ex := ext_upd w.ex hS _
  de := w.de.put nS _
  st := upd_same
  il := by rw [upd_ne ne.symm]; exact w.il
  rp := (w.rp.snoc r).mono (Ext.put (.inr (.inl rfl)) _)
def rOk (x : Int) : Prop := 0 ≤ x ∧ x < 1000
/-- ahead of a turn of the loop of _law_way -/
def WayW (dk gl SL IL : Addr) (H : Hp) (rooms most r : Int) (m : Nat) (σ : L2.St) (H' : Hp) : Prop := ∃ (c : Int) (rs : List Int) (sv : List V) (st : List (Bool × Int)) (v6 v7 : Option V), σ = [some (.ref dk), some (.int rooms), some (.int most), some (.int c), some (.ref SL), some (.ref IL), v6, v7] ∧
  0 ≤ c ∧ m = 2 * c.toNat + rs.length ∧ (sv.length : Int) + 2 * c + (rs.length : Int) = 2 * (1 + r) ∧ WayAt dk gl SL IL H H' rs sv (st.map stepD) ∧ stk [] st = some rs ∧ (∀ p ∈ st, 0 ≤ p.2 ∧ p.2 < 1000) ∧ ∀ x ∈ rs, rOk x
theorem pair_ok {z : Str} {x : Int} (hz : zOk z = true) (hx : rOk x) : Nc 1 (.tuple [.str z, .int x]) ∧ (PyData.tuple [.str z, .int x]).weight ≤ 142 := by
  have sm : x.natAbs < 10 ^ 20 := by
    have ten20 : (10 : Nat) ^ 20 = 100000000000000000000 := by decide
    obtain ⟨a, b⟩ := hx
    omega
  obtain ⟨n1, n2⟩ := Nc.ofZ (k := 0) hz
  refine ⟨Nc.tup (.cons n1 (.cons (.int sm) .nil)), ?_⟩
  have n3 := w_int sm
  simp only [PyData.weight, PyData.weightAll] at n2 n3 ⊢
  omega
theorem z_in : zOk "in" = true := by decide +kernel
theorem z_out : zOk "out" = true := by decide +kernel
theorem at_last (rs : List Int) (z : Int) : atI ((rs ++ [z]).map V.int) (-1) = some (.int z) := by
  unfold atI ixN
  rw [if_neg (by decide), List.length_map, List.length_append, List.length_singleton, if_pos (by omega)]
  have e : ((-1 : Int) + ((rs.length + 1 : Nat) : Int)).toNat = rs.length := by omega
  rw [e]
  show ((rs ++ [z]).map V.int)[rs.length]? = _
  rw [List.getElem?_map, List.getElem?_append_right (Nat.le_refl _), Nat.sub_self]
  rfl
theorem WayAt.new {dk gl SL IL : Addr} {H H1 : Hp} {rs : List Int} {sv : List V} {sd : List PyData} (w : WayAt dk gl SL IL H H1 rs sv sd) {p : Addr} (hp : H1 p = none) : ¬ (dom H p ∨ p = SL ∨ p = IL) := by
  rintro (z | z | z)
  · exact not_dom hp (dom_ext w.ex w.de z)
  · rw [z, w.st] at hp
    cases hp
  · rw [z, w.il] at hp
    cases hp
set_option hygiene false
local macro_rules | `(tactic| walk_at "way then") => `(tactic| (
  obtain ⟨c9, hc9, hdl⟩ := last_ints hr1
  have lpos : 0 < rs.length := List.length_pos_iff.mpr hr1
  have c9in : c9 ∈ rs := by
    obtain ⟨y, hy, ey⟩ := List.mem_map.mp (List.mem_of_getElem? hc9)
    cases ey
    exact hy
  refine ⟨_, rfl, .inl ⟨rfl, _, SqL.of Wx.st⟩, _, rfl, .inl ⟨rfl, _, SqL.of Wx.il⟩, IL, _, _, rfl, rfl, Wx.il, hc9, (by show 2 ≤ sizeLine; decide), ?_⟩
  rw [hdl]
  intro p9 hp9
  have W9 := Wx.putI hI0 ne nI rs.dropLast
  have s9 := same_new hp9 (.tup [.str "out", .int c9])
  have W10 := W9.ext hD nS nI (Ext.of_same s9) (W9.de.same s9)
  refine ⟨SL, _, _, rfl, rfl, W10.st, szlt (by omega), ?_⟩
  have W11 := W10.putS hS0 ne nS (.tup (W9.new hp9) upd_same (.cons (.str _) (.cons (.int _) .nil)))
  have es : st.map stepD ++ [PyData.tuple [.str "out", .int c9]] = (st ++ [(false, c9)]).map stepD := by
    rw [List.map_append]
    rfl
  rw [es] at W11
  refine ⟨_, ?_, c, rs.dropLast, _, st ++ [(false, c9)], _, _, rfl, c0, rfl, ?_, W11, ?_, ?_, fun x hx => hrs x ((List.dropLast_sublist _).subset hx)⟩
  · rw [List.length_dropLast]
    omega
  · rw [List.length_dropLast, List.length_append, List.length_singleton]
    omega
  · rw [stk_app, wd]
    exact if_neg hr1
  · intro p hp
    rcases List.mem_append.mp hp with y | y
    · exact nc p y
    · rw [List.mem_singleton.mp y]
      exact hrs c9 c9in))
local macro_rules | `(tactic| walk_at "way else") => `(tactic| (
  refine ⟨_, rfl, .inl ⟨rfl, _, SqL.of Wx.il⟩, _, rfl, _, rfl, dk, gl, L, fs.map V.int, rfl, Wx.de, hFx, nL, by rw [List.length_map]; exact f0, by rw [List.length_map]; omega, fun v9 H9 hv9 e9 D9 => ?_⟩
  obtain ⟨z9, hz9, rfl⟩ := mem_intsV hv9
  have W9 := Wx.ext hD nS nI e9 D9
  refine ⟨IL, _, _, rfl, rfl, W9.il, szlt (by rw [List.length_map]; omega), ?_⟩
  have eL : (rs.map V.int ++ [V.int z9]) = (rs ++ [z9]).map V.int := by
    rw [List.map_append]
    rfl
  rw [eL]
  have W10 := W9.putI hI0 ne nI (rs ++ [z9])
  generalize upd H9 IL (.lst ((rs ++ [z9]).map V.int)) = H10 at W10
  refine ⟨_, rfl, .inl ⟨rfl, _, SqL.of W10.st⟩, _, rfl, _, rfl, IL, _, _, _, rfl, rfl, SqL.of W10.il, at_last rs z9, (by show 2 ≤ sizeLine; decide), fun p9 hp9 => ?_⟩
  have s9 := same_new hp9 (.tup [.str "in", .int z9])
  have W11 := W10.ext hD nS nI (Ext.of_same s9) (W10.de.same s9)
  refine ⟨SL, _, _, rfl, rfl, W11.st, szlt (by omega), ?_⟩
  refine ⟨_, rfl, _, _, rfl, rfl, ?_⟩
  have W12 := W11.putS hS0 ne nS (.tup (W10.new hp9) upd_same (.cons (.str _) (.cons (.int _) .nil)))
  have es : st.map stepD ++ [PyData.tuple [.str "in", .int z9]] = (st ++ [(true, z9)]).map stepD := by
    rw [List.map_append]
    rfl
  rw [es] at W12
  refine ⟨_, ?_, c - 1, rs ++ [z9], _, st ++ [(true, z9)], _, _, rfl, by omega, rfl, ?_, W12, ?_, ?_, ?_⟩
  · rw [List.length_append, List.length_singleton]
    omega
  · rw [List.length_append, List.length_singleton, List.length_append, List.length_singleton]
    omega
  · rw [stk_app, wd]
    rfl
  · intro p hp
    rcases List.mem_append.mp hp with y | y
    · exact nc p y
    · rw [List.mem_singleton.mp y]
      exact hfs z9 hz9
  · intro x hx
    rcases List.mem_append.mp hx with y | y
    · exact hrs x y
    · rw [List.mem_singleton.mp y]
      exact hfs z9 hz9))
local macro_rules | `(tactic| walk_at "way body") => `(tactic| (
  refine ⟨fun σ2 H2 => ∃ m', m' < 2 * c.toNat + rs.length ∧ WayW dk gl SL IL H rooms most r m' σ2 H2, fun _ _ h => h, ?_⟩
  refine ⟨_, rfl, _, rfl, by omega, by omega, fun L hL => ?_⟩
  have nL : ¬ avD dk gl L := Wc.de.new hL
  refine lc_range (lo := 0) (n := rooms.toNat) (fun i H2 => Same Hc H2 ∧ ∃ fs : List Int, H2 L = some (.lst (fs.map V.int)) ∧ (∀ x ∈ fs, rOk x) ∧ fs.length ≤ i ∧ (rs = [] → fs.length = i)) ?_ ?_ ?_
  · exact ⟨same_new hL _, [], upd_same, fun x hx => absurd hx (by simp), Nat.le_refl _, fun _ => rfl⟩
  · rintro i H2 hi ⟨s5, fs, hF, hfs, lf, lf2⟩
    refine ⟨rfl, ?_⟩
    refine ⟨_, rfl, _, rfl, IL, _, rfl, .inl (SqL.of (s5 _ _ Wc.il)), rfl, flat_ints rs, _, rfl, ?_⟩
    have eN : (if true then !inV (V.int (0 + (i : Nat))) (rs.map V.int) else inV (V.int (0 + (i : Nat))) (rs.map V.int)) = !decide ((0 + (i : Nat) : Int) ∈ rs) := by
      rw [if_pos rfl, inV_ints]
    refine ite2 (fun cN => ?_) (fun cN => ?_)
    · refine ⟨_, rfl, _, hF, szlt (by rw [List.length_map]; omega), same_upd s5 hL _, fs ++ [(0 + (i : Nat) : Int)], ?_, ?_, ?_, ?_⟩
      · rw [upd_same, List.map_append]
        rfl
      · intro x hx
        rcases List.mem_append.mp hx with y | y
        · exact hfs x y
        · rw [List.mem_singleton.mp y]
          exact ⟨by omega, by omega⟩
      · rw [List.length_append, List.length_singleton]
        omega
      · intro y
        rw [List.length_append, List.length_singleton, lf2 y]
    · refine ⟨s5, fs, hF, hfs, by omega, fun y => ?_⟩
      subst y
      exact absurd (eN.trans (by simp)) cN
  rintro H3 ⟨s5, fs, hF, hfs, lf, lf2⟩
  have W3 := Wc.ext hD nS nI (Ext.of_same s5) (Wc.de.same s5)
  have lfs : fs.length ≤ 900 := by omega
  refine ⟨_, rfl, Nat.zero_le _, fun p1 hp1 => ?_⟩
  have s6 := same_new hp1 (.lst [])
  refine ⟨.list (rs.map PyData.int), .list (([] : List Int).map PyData.int), .lst (SqL.of (s6 _ _ W3.il)) (dp_ints _), .lst (SqL.of upd_same) .nil, shaped_ints _, shaped_ints [], _, rfl, ?_⟩
  rw [eqv_ints]
  have hF6 := s6 _ _ hF
  have W6 := W3.ext hD nS nI (Ext.of_same s6) (W3.de.same s6)
  generalize upd H3 p1 (.lst []) = H6 at W6 hF6
  refine (if hr1 : rs = [] then ?_ else ?_)
  · refine iteZ (by simp [hr1]) ?_
    refine iteF (A := True) ?_
    have f0 : 0 < fs.length := by
      have := lf2 hr1
      omega
    have cp : 0 < c := go.resolve_right (fun z => z hr1)
    have Wx := W6
    have hFx := hF6
    generalize H6 = Hx at Wx hFx
    walk_at "way else"
  · refine iteY (by simp [hr1]) ?_
    refine ⟨_, rfl, rfl, _, rfl, ?_⟩
    refine (if hc1 : c = 0 then ?_ else ?_)
    · refine iteY (by simp [hc1]) ?_
      refine iteT (B := True) ?_
      have Wx := W6
      generalize H6 = Hx at Wx
      walk_at "way then"
    · refine iteZ (by simp [hc1]) ?_
      have cp : 0 < c := by omega
      refine ⟨_, rfl, Nat.zero_le _, fun p2 hp2 => ?_⟩
      have s7 := same_new hp2 (.lst [])
      refine ⟨.list (fs.map PyData.int), .list (([] : List Int).map PyData.int), .lst (SqL.of (s7 _ _ hF6)) (dp_ints _), .lst (SqL.of upd_same) .nil, shaped_ints _, shaped_ints [], _, rfl, ?_⟩
      rw [eqv_ints]
      have hF7 := s7 _ _ hF6
      have W7 := W6.ext hD nS nI (Ext.of_same s7) (W6.de.same s7)
      generalize upd H6 p2 (.lst []) = H7 at W7 hF7
      refine (if hf1 : fs = [] then ?_ else ?_)
      · refine iteY (by simp [hf1]) ?_
        refine iteT (B := True) ?_
        have Wx := W7
        generalize H7 = Hx at Wx
        walk_at "way then"
      · refine iteZ (by simp [hf1]) ?_
        have f0 : 0 < fs.length := List.length_pos_iff.mpr hf1
        refine ⟨_, rfl, dk, gl, 5, rfl, W7.de, by decide, fun z8 H8 e8 D8 _ _ => ⟨_, _, rfl, rfl, _, rfl, ?_⟩⟩
        have Wx := W7.ext hD nS nI e8 D8
        have hFx := e8 _ _ nL hF7
        generalize H8 = Hx at Wx hFx
        refine ite2 (fun _ => ?_) (fun _ => ?_)
        · walk_at "way then"
        · walk_at "way else"))
section
variable {P : Program} {w : World} {K : PySem.W.Frag} {mg : Str → Option Value} {base : Heap} {f : Addr} {fd : FuncData}
theorem scWay : FnScope ["deck", "rooms", "most", "count", "steps", "inside", "free", "room"] ["deck", "rooms", "most"] (defScope sWay) := ⟨rfl, rfl, rfl, by decide +kernel, rfl, by decide +kernel, by decide +kernel⟩
theorem ok_way (F : Fun K "_law_way" "_law_way" sWay f fd) (B : Blt mg) (DD : Dfn P w K mg base "_law_draw" ["deck", "many"] 1 spDraw) (DP : Dfn P w K mg base "_law_pick" ["deck", "items"] 2 spPick) : FnOk P w K mg base CX0 3 f fd ["deck", "rooms", "most"] spWay := by
  refine F.ok scWay (fun vs H Q E h => ?_) (fun cdv A outer s H vs Q E hr h => ?_)
  · obtain ⟨_, _, _, _, rfl, _⟩ := h
    rfl
  obtain ⟨dk, gl, rooms, most, rfl, hD, m0, m1, m2, m3, q⟩ := h
  have nd := scWay.nd
  have hu64 : (A.deeper (PyProof.Rows.envOfC "_law_way" (defScope sWay) s.heap.objs.size f cdv)).units + 64 < cLine := by
    have := hr.un
    omega
  have hr1 : Room 1 (A.deeper (PyProof.Rows.envOfC "_law_way" (defScope sWay) s.heap.objs.size f cdv)) := hr.mono (by omega)
  refine ⟨_, pss_cons (ps_asg (pe_tup (pa_cons (pe_op op_add pe_int (pe_own DD hr1 (pa_cons (pv 0) (pa_cons (pe_op op_fdiv (pv 2) pe_int) pa_nil)))) (pa_cons (pe_lst pa_nil) (pa_cons (pe_lst pa_nil) pa_nil))))
      (pg_tup rfl (pgs_cons (pg_name (i := 3) nd rfl (Or.inl rfl)) (pgs_cons (pg_name (i := 4) nd rfl (Or.inl rfl)) (pgs_cons (pg_name (i := 5) nd rfl (Or.inr rfl)) pgs_nil)))))
    (pss_cons (ps_while PassesOwn.never (PW.pt (pw_or (pt_cmpR op_gt (pv 3) pe_int (nomark _)) (pw_or1 (pt_cmpR (op_neD hu64) (pv 5) (pe_lst pa_nil) (nomark _)))))
      (pss_cons (ps_setLc (i := 6) (own := [("room", 7)]) (g := gName 7) (tt := _) (by rfl) nd rfl rfl (sw_true rfl rfl rfl (by decide +kernel)) (pi_range1 (by rfl) B.rng (pa_cons (pv 1) pa_nil))
        (blkOk_by (N := ["deck", "rooms", "most", "count", "steps", "inside", "free", "room"]) (sc := defScope sWay) (by decide +kernel)) (fun _ _ _ _ _ => pg_name (i := 7) nd rfl (Or.inl rfl)) (fun _ _ _ _ _ => pts_one (pt_cmpR (r := rIn K true) op_notIn_seq (pv 7) (pv 5) (by rfl))) (fun _ _ _ _ _ => pv 7))
      (pss_one (ps_if (PW.pt (pw_and (pt_cmpR (op_neD hu64) (pv 5) (pe_lst pa_nil) (nomark _)) (pw_and1 (PW.pt (pw_or (pt_cmpR op_eq (pv 3) pe_int (nomark _)) (pw_or (pt_cmpR (op_eqD hu64) (pv 6) (pe_lst pa_nil) (nomark _)) (pw_or1 (pt_cmpR op_lt (pe_own DD hr1 (pa_cons (pv 0) (pa_cons pe_int pa_nil))) pe_int (nomark _)))))))))
        (pss_one (ps_expr (pe_bm PySem.F.plainAttrs_list PySem.F.slot_list_append PySem.F.type_list_append mt_append (pv 4) (pa_cons (pe_tup (pa_cons pe_str (pa_cons (pe_bm0 PySem.F.plainAttrs_list PySem.F.slot_list_pop PySem.F.type_list_pop mt_pop (pv 5)) pa_nil))) pa_nil))))
        (pss_cons (ps_expr (pe_bm PySem.F.plainAttrs_list PySem.F.slot_list_append PySem.F.type_list_append mt_append (pv 5) (pa_cons (pe_own DP hr (pa_cons (pv 0) (pa_cons (pv 6) pa_nil))) pa_nil)))
        (pss_cons (ps_expr (pe_bm PySem.F.plainAttrs_list PySem.F.slot_list_append PySem.F.type_list_append mt_append (pv 4) (pa_cons (pe_tup (pa_cons pe_str (pa_cons (pe_ix ix_list (pv 5) (pe_un un_neg pe_int) (fun _ _ => rfl)) pa_nil))) pa_nil)))
        (pss_one (ps_set (i := 3) nd rfl (Or.inl rfl) (pe_op op_sub (pv 3) pe_int)))))))))
    (pss_one (ps_ret (pe_callTy call_tuple_of (by rfl) B.tup (by decide +kernel) (pa_cons (pv 4) pa_nil))))), ?_⟩
  refine ⟨_, rfl, _, rfl, _, _, rfl, rfl, ⟨by decide, by decide⟩, dk, gl, _, rfl, hD, by omega, fun r H1 e1 D1 r0 r1 => ?_⟩
  refine ⟨_, _, rfl, rfl, Nat.zero_le _, fun SL hSL => ⟨Nat.zero_le _, fun IL hIL => ⟨(by show 3 ≤ sizeLine; decide), fun T hT => ?_⟩⟩⟩
  have nS : ¬ avD dk gl SL := D1.new hSL
  have D1a := D1.same (same_new hSL (.lst []))
  have nI : ¬ avD dk gl IL := D1a.new hIL
  have ne : SL ≠ IL := ne_of_none upd_same hIL
  have sN : ∀ {p : Addr}, ¬ avD dk gl p → H1 p = none → H p = none := fun {p} n h => by
    cases z : H p with
    | none => rfl
    | some o =>
      rw [e1 _ _ n z] at h
      cases h
  have hS0 : H SL = none := sN nS hSL
  have hI1 : H1 IL = none := by
    have := hIL
    rw [upd_ne ne.symm] at this
    exact this
  have hI0 : H IL = none := sN nI hI1
  have W0 : WayAt dk gl SL IL H (upd (upd (upd H1 SL (.lst [])) IL (.lst [])) T (.tup [.int (1 + r), .ref SL, .ref IL])) [] [] [] := by
    have s3 := same_new hT (.tup [.int (1 + r), .ref SL, .ref IL])
    refine ⟨(ext_upd (ext_upd e1 hS0 _) hI0 _).trans (Ext.of_same s3), (D1a.put nI _).same s3, s3 _ _ ?_, s3 _ _ upd_same, .nil⟩
    rw [upd_ne ne]
    exact upd_same
  refine ⟨T, _, rfl, SqT.of upd_same, rfl, _, _, rfl, _, _, rfl, _, _, rfl, rfl, ?_⟩
  generalize upd (upd (upd H1 SL (.lst [])) IL (.lst [])) T (.tup [.int (1 + r), .ref SL, .ref IL]) = H2 at W0
  have hr12 : r < 12 := by omega
  refine ⟨WayW dk gl SL IL H rooms most r, ⟨2 * (1 + r).toNat, 1 + r, [], [], [], none, none, rfl, by omega, rfl, by simp, W0, rfl, fun p hp => absurd hp (by simp), fun x hx => absurd hx (by simp)⟩, ?_⟩
  rintro m σ H' ⟨c, rs, sv, st, v6, v7, rfl, c0, rfl, hsum, W1, wd, nc, hrs⟩
  have lsv : sv.length ≤ 24 := by omega
  have lrs : rs.length ≤ 24 := by omega
  refine ⟨_, rfl, _, _, rfl, rfl, _, rfl, ?_⟩
  by_cases hc : 0 < c
  · refine iteY (decide_eq_true hc) ?_
    refine iteT (B := True) ?_
    have Wc := W1
    generalize H' = Hc at Wc
    have go : 0 < c ∨ rs ≠ [] := .inl hc
    walk_at "way body"
  · refine iteZ (fun z => hc (of_decide_eq_true z)) ?_
    refine ⟨_, rfl, Nat.zero_le _, fun p0 hp0 => ?_⟩
    have s4 := same_new hp0 (.lst [])
    refine ⟨.list (rs.map PyData.int), .list (([] : List Int).map PyData.int), .lst (SqL.of (s4 _ _ W1.il)) (dp_ints _), .lst (SqL.of upd_same) .nil, shaped_ints _, shaped_ints [], _, rfl, ?_⟩
    rw [eqv_ints]
    have Wc := W1.ext hD nS nI (Ext.of_same s4) (W1.de.same s4)
    generalize upd H' p0 (.lst []) = Hc at Wc
    by_cases hr0 : rs = []
    · have hc0 : c = 0 := by omega
      subst hr0
      refine iteZ (by simp) ?_
      refine ⟨_, rfl, SL, sv, rfl, .inl ⟨SqL.of Wc.st, fun p hp => ?_⟩⟩
      have s5 := same_new hp (.tup sv)
      have W5 := Wc.ext hD nS nI (Ext.of_same s5) (Wc.de.same s5)
      have ls : st.length = sv.length := by
        have := W5.rp.len
        rw [List.length_map] at this
        exact this.symm
      exact q _ st _ W5.ex W5.de (.tup (fun z => Wc.new hp (.inl z)) upd_same (W5.rp.weak2 fun b z => .inl z)) ⟨by omega, nc, _, wd⟩
    · refine iteY (by simp [hr0]) ?_
      have go : 0 < c ∨ rs ≠ [] := .inr hr0
      walk_at "way body"
end
end Rw
end
namespace Rw
open PySem PyProof.Rows
/-! ### sorted of a tuple of ints; a value of any kind beside a text -/
section
variable {prog : Program} {w : World} {A : Around} {E : Value → Shared → Prop} {s : Shared}
theorem got_tup {T : Addr} {us : List Value} {Q : List Value → Shared → Prop} (ht : s.heap.IsTuple T us.toArray) (hz : us.length ≤ sizeLine)
    (q : Q us { s with heap := (s.heap.push (seqObj "list" #[] 0)).update s.heap.objs.size (Obj.mapSeq (· ++ us.toArray)) }) : wpAny (model prog w) A (collect (.ref T)) Q E s := by
  obtain ⟨oT, look, cls, k, dat⟩ := ht
  have look2 : (s.heap.push (seqObj "list" #[] 0)).get? T = some oT := Heap.get?_push_of_some _ look
  have mine : (s.heap.push (seqObj "list" #[] 0)).get? s.heap.objs.size = some (seqObj "list" #[] 0) := Heap.get?_push_size _ rfl
  unfold collect
  refine wpAny_bind (wpAny_runValue (codeAny_builtin entry_proto_collect' (show wpAny _ _ (do again (.builtin "list.__iadd__" ⟨[← newList [], .ref T], []⟩)) _ _ s from ?_)))
  refine wpAny_bind (wpAny_newList (wpAny_pure ⟨Code.quiet_builtin _ (by decide +kernel), codeAny_builtin entry_list_iadd' (show wpAny _ _ (Builtin.List.listExtendWith (.ref s.heap.objs.size) (.ref T) (.ref s.heap.objs.size)) _ _ { s with heap := s.heap.push (seqObj "list" #[] 0) } from ?_)⟩))
  unfold Builtin.List.listExtendWith
  refine wpAny_bind (wpAny_typeOf (T := "tuple") ⟨oT, look2, cls⟩ ?_)
  rw [if_pos (by rw [show (Value.type "tuple" == Value.type "tuple") = true from rfl, Bool.or_true])]
  refine wpAny_bind (listItems_at look2 dat (wpAny_bind (listItems_at mine rfl ?_)))
  rw [if_neg (by simp)]
  refine wpAny_bind (listUpdate_at mine rfl (wpAny_pure ?_) (Nat.zero_le _) ?_)
  · refine (show wpAny (model prog w) A (do
      let o ← load s.heap.objs.size
      match o.data with
      | .seq xs _ => pure xs.toList
      | _ => unsupported "internal:collect") Q E { s with heap := (s.heap.push (seqObj "list" #[] 0)).update s.heap.objs.size (Obj.mapSeq (· ++ us.toArray)) } from ?_)
    refine wpAny_bind (wpAny_load (get?_update_seq mine _) (show wpAny _ _ (pure ((#[] : Array Value) ++ us.toArray).toList) Q E _ from ?_))
    rw [show ((#[] : Array Value) ++ us.toArray).toList = us by simp]
    exact wpAny_pure q
  · have e : ((#[] : Array Value) ++ us.toArray).size = us.length := by simp
    rw [e]
    exact Nat.le_succ_of_le hz
theorem sort_tup {T : Addr} {us : List Value} {ns : List Int} {Q : Value → Shared → Prop} (ht : s.heap.IsTuple T us.toArray) (hi : IntsAre us ns) (hz : us.length ≤ sizeLine)
    (q : ∀ (out : Array Value) (ms : List Int), IntsAre out.toList ms → ms.Perm ns → ms.Pairwise (· ≤ ·) → Q (.ref (s.heap.objs.size + 1)) { s with heap := sortedAll s.heap us out }) :
    wpAny (model prog w) A (call (.builtin "sorted") [.ref T]) Q E s := by
  refine Calls.call_function_entry kind_sorted plain_sorted entry_sorted (args_sorted1 _) (show wpAny _ _ (Builtin.«sorted» _) _ _ _ from ?_)
  unfold Builtin.«sorted»
  refine wpAny_bind (m := checkCount "sorted" 1 1 _) (wpAny_pure (wpAny_bind (got_tup ht hz (wpAny_bind (wpAny_newList ?_ hz)))))
  have grown : ((s.heap.push (seqObj "list" #[] 0)).update s.heap.objs.size (Obj.mapSeq (· ++ us.toArray))).objs.size = s.heap.objs.size + 1 := (Heap.size_update ..).trans (size_push' _ _)
  have there : (((s.heap.push (seqObj "list" #[] 0)).update s.heap.objs.size (Obj.mapSeq (· ++ us.toArray))).push (seqObj "list" us.toArray 0)).get? (s.heap.objs.size + 1) = some (seqObj "list" us.toArray 0) := grown ▸ Heap.get?_push_size _ rfl
  refine (show wpAny _ _ _ _ _ { s with heap := ((s.heap.push (seqObj "list" #[] 0)).update s.heap.objs.size (Obj.mapSeq (· ++ us.toArray))).push (seqObj "list" us.toArray 0) } from ?_)
  rw [grown]
  refine wpAny_bind (wpAny_holding (wpAny_call_entry slot_list_sort ⟨_, there, rfl⟩ entry_list_sort (list_sort_treeAny there hi hz fun out ms k1 k2 k3 => ⟨_, rfl, wpAny_pure ⟨_, rfl, q out ms k1 k2 k3⟩⟩) (args_list_sort _)))
end
open L2 PySem.Spec
def rSortT (K : PySem.W.Frag) : List V → Hp → VK → Prop := fun vs H Q => ∃ (T : Addr) (ns : List Int), vs = [V.ref T] ∧ SqT K H T (ns.map V.int) ∧ ns.length ≤ sizeLine ∧
  ∀ (ms : List Int) (p : Addr), ms.Perm ns → ms.Pairwise (· ≤ ·) → H p = none → Q (.ref p) (upd H p (.lst (ms.map V.int)))
section
variable {X : Cx}
theorem call_sortT : CallR X (.builtin "sorted") (rSortT X.K) := by
  intro pins s σ H vs us Q I r h
  obtain ⟨T, ns, rfl, ht, hz, q⟩ := h
  obtain ⟨its, rv, look, _⟩ := I.tuple ht
  rw [Vals.ref1 r]
  have len : its.length = ns.length := by rw [← rv.length, List.length_map]
  refine sort_tup look rv.ints (by rw [len]; exact hz) fun out ms k1 k2 k3 => ?_
  obtain ⟨ep, at_⟩ := sortedAll_at s.heap its out
  have hm : (ms.map V.int).length ≤ sizeLine := by
    rw [List.length_map, k2.length_eq]
    exact hz
  refine ⟨.ref _, upd H (s.heap.objs.size + 1) (.lst (ms.map V.int)), I.laid (t' := s.toks) (fun _ _ => sortedAll_old) (Nat.le_succ _) ⟨hm, out.toList, ep, vals_of_ints k1, ?_⟩, rfl, q _ _ k2 k3 (I.hok.fresh (Nat.le_succ _))⟩
  simpa using at_
end
end Rw
namespace Rw
open PySem PySem.Spec PyProof.Rows L2 PySem.SeqAt
theorem dict_ne_str_no (l : Addr) (es : Array DictEntry) (n : Nat) (dd : Option Addr) (sl : Array (Option Value)) (z : Str) (u : Tok) :
    Meets (Builtin.«dict.__ne__» ⟨[.ref l, .str z u], []⟩) (fun _ R s => s.heap.get? l = some { cls := .type "dict", dict := dd, data := .dict es n, slots := sl } ∧ R (.ok (.ret .notImplemented)) s) :=
  .of_wp fun prog w A R s q => by
    obtain ⟨hp, gens, dr, toks, os⟩ := s
    obtain ⟨look, q⟩ := q
    have other : isSubtype (.type "str") (.type "dict") = pure false := by rw [isSubtype_type]; kernel_rfl
    wp_walk using AutoSeq1.wpAny_loadPart' look, wpAny_load look
    exact ⟨_, rfl, q⟩
theorem str_ne_dict_no (z : Str) (u : Tok) (l : Addr) (c : Value) (es : Array DictEntry) (n : Nat) (dd : Option Addr) (sl : Array (Option Value)) :
    Meets (Builtin.«str.__ne__» ⟨[.str z u, .ref l], []⟩) (fun _ R s => s.heap.get? l = some { cls := c, dict := dd, data := .dict es n, slots := sl } ∧ R (.ok (.ret .notImplemented)) s) :=
  .of_wp fun prog w A R s q => by
    obtain ⟨hp, gens, dr, toks, os⟩ := s
    obtain ⟨look, q⟩ := q
    wp_walk using AutoSeq1.wpAny_loadPart' look, wpAny_load look
    exact ⟨_, rfl, q⟩
theorem sub_str_dict2 : isSubtype (.type "str") (.type "dict") = pure false := by rw [isSubtype_type]; kernel_rfl
section
variable {A : Around} {s : Shared}
theorem ne_dict_str {l : Addr} {o : Obj} {es : Array DictEntry} {n : Nat} (z : Str) (u : Tok) (look : s.heap.get? l = some o) (hc : o.cls = .type "dict") (hd : o.data = .dict es n) (hu : A.units < cLine) : RcNeAt A s (.ref l) (.str z u) true := fun prog w E Q q => by
  obtain ⟨cls, dd, data, sl⟩ := o
  have hc' : cls = .type "dict" := hc
  have hd' : data = .dict es n := hd
  rw [hc', hd'] at look
  exact rc_ne_decline_or (k := false) ⟨_, look, rfl⟩ (typeIs_str s z u) (by decide) sub_str_dict2 F.slot_dict_ne F.slot_str_ne_refl
    (fun _ r => call_meets F.slot_dict_ne ⟨_, look, rfl⟩ F.entry_dict_ne (F.args_dict_ne_2 _ _) (dict_ne_str_no l es n dd sl z u) ⟨look, r⟩)
    (fun _ r => call_meets F.slot_str_ne_refl (typeIs_str s z u) F.entry_str_ne (F.args_str_ne_2 _ _) (str_ne_dict_no z u l (.type "dict") es n dd sl) ⟨look, r⟩)
    (fun _ r => wpAny_of_eq (rfl : isSame (.ref l) (.str z u) = pure false) r) (.inr hu) q
theorem ne_any_str {u : Value} {d : PyData} {as : List Addr} (hu : A.units < cLine) (rd : Reads s.heap u d as) (z : Str) (t : Tok) : RcNeAt A s u (.str z t) (!eqS d z) := by
  cases rd with
  | none => exact RcNeAt.none_str z t
  | bool b => exact RcNeAt.bool_str b z t
  | int i k => exact RcNeAt.int_str i k z t
  | str x k =>
    have e : (z == x) = (x == z) := by
      by_cases h : x = z
      · subst h
        rfl
      · rw [beq_eq_false_iff_ne.mpr h, beq_eq_false_iff_ne.mpr fun y => h y.symm]
    show RcNeAt A s (.str x k) (.str z t) (!(z == x))
    rw [e]
    exact RcNeAt.str_str x k z t
  | list h1 h2 h3 h4 => exact RcNeAt.list_str z t ⟨_, h1, h2, _, h3⟩ hu
  | tuple h1 h2 h3 h4 => exact RcNeAt.tuple_str z t ⟨_, h1, h2, _, h3⟩ hu
  | dict h1 h2 h3 h4 h5 => exact ne_dict_str z t h1 h2 h3 hu
end
section
variable {X : Cx}
def rNeS : R2 := fun x y H Q => ∃ (av : Addr → Prop) (d : PyData) (z : Str), Rp av H x d ∧ y = .str z ∧ Q (.bl (!eqS d z)) H
theorem op_neS (hu : X.A.units < cLine) : OpR X (compareOp .NotEq) rNeS := by
  intro pins s σ H x y v u Q I rx ry h
  obtain ⟨av, d, z, hd, rfl, q⟩ := h
  obtain ⟨t, rfl⟩ := ry
  obtain ⟨as, rd, _⟩ := hd.reads I d x v rx
  exact ne_any_str hu rd z t X.prog X.w _ _ ⟨.bl _, H, I, rfl, q⟩
end
end Rw
namespace Rw
open PySem PySem.Spec PyProof.Rows L2 PySem.SeqAt
section
variable {X : Cx}
/-- a list of anything beside an empty one -/
def rNoneL (K : PySem.W.Frag) (neg : Bool) : R2 := fun x y H Q => ∃ (a b : Addr) (xs : List V), x = .ref a ∧ y = .ref b ∧ SqL K H a xs ∧ SqL K H b [] ∧ Q (.bl (neg != decide (xs = []))) H
theorem op_eqNone (hu : X.A.units < cLine) : OpR X (compareOp .Eq) (rNoneL X.K false) := by
  intro pins s σ H x y v u Q I rx ry h
  obtain ⟨a, b, xs, rfl, rfl, ha, hb, q⟩ := h
  cases rx
  cases ry
  obtain ⟨i1, r1, l1, _⟩ := I.list ha
  obtain ⟨i2, r2, l2, _⟩ := I.list hb
  cases r2
  cases r1 with
  | nil => exact eq_listAt (e := fun _ => true) l1.isList l2.isList rfl hu (fun j z _ => absurd z (by simp)) ⟨.bl _, H, I, rfl, q⟩
  | cons _ _ => exact eq_list_lengthsAt l1.isList l2.isList (by simp) hu ⟨.bl _, H, I, rfl, by simpa using q⟩
theorem op_neNone (hu : X.A.units < cLine) : OpR X (compareOp .NotEq) (rNoneL X.K true) := by
  intro pins s σ H x y v u Q I rx ry h
  obtain ⟨a, b, xs, rfl, rfl, ha, hb, q⟩ := h
  cases rx
  cases ry
  obtain ⟨i1, r1, l1, _⟩ := I.list ha
  obtain ⟨i2, r2, l2, _⟩ := I.list hb
  cases r2
  cases r1 with
  | nil => exact RcNeAt.lists (e := fun _ => true) l1.isList l2.isList rfl hu (fun j z _ => absurd z (by simp)) X.prog X.w _ _ ⟨.bl _, H, I, rfl, q⟩
  | cons _ _ => exact RcNeAt.lists_lengths l1.isList l2.isList (by simp) hu X.prog X.w _ _ ⟨.bl _, H, I, rfl, by simpa using q⟩
end
/-! ### the mirror -/
def zsW : List Str := ["stand", "bow", "even"]
def wordB (d : PyData) : Bool := zsW.any (eqS d)
def pairT : PyData → Bool
  | .tuple ds => decide (ds.length = 2) && ds.all (isT "tuple")
  | _ => false
def dashAt (ds : List PyData) (i : Nat) : Bool := match ds[i]? with
  | some d => eqS d "-"
  | none => false
def rowB (n i : Nat) : PyData → Bool
  | .tuple ds => decide (ds.length = n) && dashAt ds i && (ds.take i ++ ds.drop (i + 1)).all wordB
  | _ => false
structure Blt2 (mg : Str → Option Value) : Prop where
  all : mg "all" = none
  sorted : mg "sorted" = none
  words : ∃ a, mg "WORDS" = some (.ref a)
abbrev sPairT : Stmt := top 7
abbrev sRow : Stmt := top 15
def spPairT : Sp := fun vs H Q _ => ∃ (av : Addr → Prop) (v : V) (d : PyData), vs = [v] ∧ Rp av H v d ∧ Q (.bl (pairT d)) H
def spRow : Sp := fun vs H Q _ => ∃ (av : Addr → Prop) (v : V) (d : PyData) (n i : Nat), vs = [.int (n : Nat), .int (i : Nat), v] ∧ Rp av H v d ∧ i < n ∧ n ≤ 1000 ∧ ∀ H', Same H H' → Q (.bl (rowB n i d)) H'
section
variable {P : Program} {w : World} {K : PySem.W.Frag} {mg : Str → Option Value} {base : Heap} {f : Addr} {fd : FuncData}
theorem scPairT : FnScope ["value"] ["value"] (defScope sPairT) := ⟨rfl, rfl, rfl, by decide +kernel, rfl, by decide +kernel, by decide +kernel⟩
theorem ok_pairT (F : Fun K "is_pair_of_tuples" "is_pair_of_tuples" sPairT f fd) (B : Blt mg) (DT : Dfn P w K mg base "is_tuple_of" ["value", "many"] 1 spTupleOf) : FnOk P w K mg base CX0 2 f fd ["value"] spPairT := by
  refine F.ok scPairT (fun vs H Q E h => ?_) (fun cdv A outer s H vs Q E hr h => ?_)
  · obtain ⟨_, _, _, rfl, _⟩ := h
    rfl
  obtain ⟨av, v, d, rfl, hd, q⟩ := h
  refine ⟨_, pss_one (ps_ret (pe_and (pe_own DT hr (pa_cons (pv 0) (pa_cons pe_int pa_nil))) (pe_and (pe_isi (n := "tuple") (by simp) (pe_ix ix_tup (pv 0) pe_int (fun _ _ => rfl)) B.isi B.tup bt_tuple)
    (pe_one (pe_isi (n := "tuple") (by simp) (pe_ix ix_tup (pv 0) pe_int (fun _ _ => rfl)) B.isi B.tup bt_tuple))))), ?_⟩
  refine ⟨_, rfl, av, v, d, 2, rfl, hd, _, rfl, ?_⟩
  by_cases c : tupOf 2 d = true
  case neg =>
    refine iteZ c ?_
    have e2 : pairT d = false := by
      cases d with
      | tuple ds =>
        show (decide (ds.length = 2) && _) = false
        rw [decide_eq_false fun z => c (decide_eq_true (by rw [z]; rfl)), Bool.false_and]
      | _ => rfl
    rw [e2] at q
    exact q
  refine iteY c ?_
  match d, c, hd, q with
  | .tuple [a, b], c, hd, q =>
  obtain ⟨t, xs, rfl, _, ha, hx⟩ := hd.get_tup
  cases hx with
  | cons r1 r2 =>
    cases r2 with
    | cons r2 r3 =>
    cases r3
    refine ⟨_, rfl, t, _, _, _, rfl, rfl, SqT.of ha, rfl, av, _, a, rfl, r1, _, rfl, ?_⟩
    by_cases c1 : isT "tuple" a = true
    case neg =>
      refine iteZ c1 ?_
      have e1 : isT "tuple" a = false := by simpa using c1
      have e2 : pairT (.tuple [a, b]) = false := by
        show (true && (isT "tuple" a && _)) = false
        rw [e1]
        rfl
      rw [e2] at q
      exact q
    refine iteY c1 ?_
    refine ⟨_, rfl, t, _, _, _, rfl, rfl, SqT.of ha, rfl, av, _, b, rfl, r2, ?_⟩
    have e2 : pairT (.tuple [a, b]) = isT "tuple" b := by
      show (true && (isT "tuple" a && (isT "tuple" b && true))) = _
      rw [c1, Bool.true_and, Bool.true_and, Bool.and_true]
    rw [e2] at q
    exact q
theorem scRow : FnScope ["hands", "hand", "value", "word"] ["hands", "hand", "value"] (defScope sRow) := ⟨rfl, rfl, rfl, by decide +kernel, rfl, by decide +kernel, by decide +kernel⟩
theorem ok_row (F : Fun K "is_row" "is_row" sRow f fd) (C : Blt2 mg) (hW : ∀ (a : Addr) (H : Hp), mg "WORDS" = some (.ref a) → SqT K H a (zsW.map V.str)) (DT : Dfn P w K mg base "is_tuple_of" ["value", "many"] 1 spTupleOf) : FnOk P w K mg base CX0 2 f fd ["hands", "hand", "value"] spRow := by
  refine F.ok scRow (fun vs H Q E h => ?_) (fun cdv A outer s H vs Q E hr h => ?_)
  · obtain ⟨_, _, _, _, _, rfl, _⟩ := h
    rfl
  obtain ⟨av, v, d, n, i, rfl, hd, hin, hn, q⟩ := h
  have nd := scRow.nd
  have hu := hu_of hr
  have hu0 : (A.deeper (PyProof.Rows.envOfC "is_row" (defScope sRow) s.heap.objs.size f cdv)).units < cLine := by omega
  obtain ⟨wa, hwa⟩ := C.words
  refine ⟨_, pss_cons (ps_if (PW.pt (pw_or (pt_not (pt_val (pe_own DT hr (pa_cons (pv 2) (pa_cons (pv 0) pa_nil))))) (pw_or1 (pt_cmpR (op_neS hu0) (pe_ix ix_tup (pv 2) (pv 1) (fun _ _ => rfl)) pe_str (nomark _))))) (pss_one (ps_ret pe_bl)) pss_nil)
    (pss_one (ps_ret (pe_callB (cr_all (by rfl)) (by rfl) C.all (by decide +kernel) (pa_cons (pe_lc (own := [("word", 3)]) (g := gName 3) (tt := tYes) rfl nd (pi_tup (pe_op op_catB (pe_slice sl_tupB (pv 2) po_none (po_some (pv 1))) (pe_slice sl_tupB (pv 2) (po_some (pe_op op_add (pv 1) pe_int)) po_none)))
      (blkOk_by (N := ["hands", "hand", "value", "word"]) (sc := defScope sRow) (by decide +kernel)) (fun _ _ _ _ _ => pg_name (i := 3) nd rfl (Or.inl rfl)) (fun _ _ _ _ _ => pts_nil) (fun _ _ _ _ _ => pe_cmpR (r := rInS K false) (op_inS hu) (pv 3) (pe_glob (v := .ref wa) (by rfl) hwa rfl) (by rfl))) pa_nil)))), ?_⟩
  refine ⟨_, rfl, _, rfl, av, v, d, n, rfl, hd, _, rfl, ?_⟩
  by_cases c : tupOf (n : Nat) d = true
  case neg =>
    refine iteY (by simpa using c) ?_
    refine iteT (B := True) ?_
    have e : rowB n i d = false := by
      cases d with
      | tuple ds =>
        show (decide (ds.length = n) && _ && _) = false
        rw [decide_eq_false fun z => c (decide_eq_true (by rw [z])), Bool.false_and, Bool.false_and]
      | _ => rfl
    have q' := q H (Same.refl _)
    rw [e] at q'
    exact q'
  obtain ⟨ds, rfl⟩ : ∃ ds, d = .tuple ds := by
    cases d with
    | tuple ds => exact ⟨ds, rfl⟩
    | _ => cases c
  have len : ds.length = n := by
    have z : ((ds.length : Nat) : Int) = (n : Nat) := of_decide_eq_true c
    omega
  refine iteZ (by simpa using c) ?_
  obtain ⟨t, xs, rfl, _, ht, hx⟩ := hd.get_tup
  have lx := hx.len
  have hi : i < xs.length := by omega
  have gx : xs[i]? = some xs[i] := List.getElem?_eq_getElem hi
  obtain ⟨d1, hd1, r1⟩ := hx.at gx
  have ed : dashAt ds i = eqS d1 "-" := by
    unfold dashAt
    rw [hd1]
  refine ⟨_, rfl, _, rfl, t, xs, _, _, rfl, rfl, SqT.of ht, atI_nat gx, av, d1, "-", r1, rfl, _, rfl, ?_⟩
  have eR : rowB n i (.tuple ds) = (eqS d1 "-" && (ds.take i ++ ds.drop (i + 1)).all wordB) := by
    show (decide (ds.length = n) && dashAt ds i && _) = _
    rw [decide_eq_true len, Bool.true_and, ed]
  rw [eR] at q
  by_cases c2 : eqS d1 "-" = true
  case neg =>
    refine iteY (by simpa using c2) ?_
    have e : eqS d1 "-" = false := by simpa using c2
    have q' := q H (Same.refl _)
    rw [e, Bool.false_and] at q'
    exact q'
  refine iteZ (by simpa using c2) ?_
  rw [c2, Bool.true_and] at q
  refine ⟨_, rfl, _, rfl, (i : Int), rfl, t, xs, rfl, ht, fun p1 H1 s1 hc1 _ => ?_⟩
  rw [cut_to] at hc1
  have next_ : ((i : Int) + 1) = ((i + 1 : Nat) : Int) := by omega
  refine ⟨_, rfl, _, rfl, _, _, rfl, rfl, _, rfl, t, xs, rfl, s1 _ _ ht, fun p2 H2 s2 hc2 _ => ?_⟩
  rw [next_, cut_from] at hc2
  refine ⟨p1, p2, _, _, rfl, rfl, s2 _ _ hc1, hc2, sz (by rw [List.length_take, List.length_drop]; omega), fun r H3 s3 hr3 _ => ?_⟩
  have T := s1.trans (s2.trans s3)
  have hes : RpAll av H3 (xs.take i ++ xs.drop (i + 1)) (ds.take i ++ ds.drop (i + 1)) := ((hx.take i).app (hx.drop (i + 1))).mono (Ext.of_same T)
  generalize ds.take i ++ ds.drop (i + 1) = es at hes q
  have les : es.length ≤ 1000 := by
    have z := hes.len
    rw [List.length_append, List.length_take, List.length_drop] at z
    omega
  generalize xs.take i ++ xs.drop (i + 1) = ys at hes hr3
  refine ⟨r, rfl, ⟨_, SqT.of hr3⟩, fun D hD => ?_⟩
  refine lc_tup (K := K) (a := r) (xs := ys) (fun j H' => Same H3 H' ∧ H' D = some (.lst (((es.take j).map wordB).map V.bl))) ?_ ?_ ?_ ?_
  · exact ⟨same_new hD _, upd_same⟩
  · rintro j H' _ ⟨e, _⟩
    exact SqT.of (e _ _ hr3)
  · rintro j x H' hj ⟨e, hl⟩
    obtain ⟨dj, hdj, rj⟩ := hes.at hj
    have hj2 : j < es.length := (List.getElem?_eq_some_iff.mp hdj).1
    refine ⟨rfl, ?_⟩
    refine iteT (B := True) ?_
    refine ⟨_, rfl, av, dj, wa, zsW, rj.mono (Ext.of_same e), rfl, hW wa _ hwa, _, hl, szlt (by rw [List.length_map, List.length_map, List.length_take]; omega), same_upd e hD _, ?_⟩
    have en : es.take (j + 1) = es.take j ++ [dj] := by
      rw [List.take_add_one, hdj]
      rfl
    have eb : (false != zsW.any (eqS dj)) = wordB dj := by
      show (false != wordB dj) = _
      cases wordB dj <;> rfl
    rw [upd_same, en, List.map_append, List.map_append, eb]
    rfl
  rintro H4 ⟨e, hl⟩
  have full : es.take ys.length = es := by rw [List.take_of_length_le (by have := hes.len; omega)]
  rw [full] at hl
  refine ⟨D, es.map wordB, rfl, SqL.of hl, ?_⟩
  have ea : (es.map wordB).all id = es.all wordB := by rw [List.all_map]; rfl
  rw [ea]
  exact q _ (T.trans e)
end
end Rw
namespace Rw
open PySem L2
theorem eqS_of {d : PyData} {z : Str} (h : eqS d z = true) : d = .str z := by
  cases d with
  | str x =>
    have e : z = x := eq_of_beq h
    rw [e]
  | _ => cases h
theorem wordB_of {d : PyData} (h : wordB d = true) : ∃ z, d = .str z := by
  obtain ⟨z, _, e⟩ := List.any_eq_true.mp h
  exact ⟨z, eqS_of e⟩
theorem rowB_parts {n i : Nat} {d : PyData} (h : rowB n i d = true) : ∃ es, d = .tuple es ∧ es.length = n ∧ dashAt es i = true ∧ ∀ e ∈ es.take i ++ es.drop (i + 1), wordB e = true := by
  cases d with
  | tuple es =>
    have h' : (decide (es.length = n) && dashAt es i && (es.take i ++ es.drop (i + 1)).all wordB) = true := h
    rw [Bool.and_eq_true, Bool.and_eq_true] at h'
    exact ⟨es, rfl, of_decide_eq_true h'.1.1, h'.1.2, fun e he => List.all_eq_true.mp h'.2 e he⟩
  | _ => cases h
theorem row_text {n i : Nat} {d : PyData} (h : rowB n i d = true) {j : Nat} (hj : j < n) : ∃ es z, d = .tuple es ∧ es[j]? = some (.str z) := by
  obtain ⟨es, rfl, le, h1, h2⟩ := rowB_parts h
  have ge : es[j]? = some es[j] := List.getElem?_eq_getElem (by omega)
  by_cases c : j = i
  · subst c
    unfold dashAt at h1
    rw [ge] at h1
    exact ⟨es, _, rfl, ge.trans (by rw [eqS_of h1])⟩
  · have m : es[j] ∈ es.take i ++ es.drop (i + 1) := by
      rw [List.mem_append]
      by_cases q : j < i
      · exact .inl (List.mem_of_getElem? (i := j) (by rw [List.getElem?_take_of_lt q, ge]))
      · refine .inr (List.mem_of_getElem? (i := j - (i + 1)) ?_)
        rw [List.getElem?_drop, show i + 1 + (j - (i + 1)) = j by omega, ge]
    obtain ⟨z, e⟩ := wordB_of (h2 _ m)
    exact ⟨es, z, rfl, ge.trans (by rw [e])⟩
def cellE (ts : List PyData) (i j : Nat) : Bool := match ts[i]? with
  | some (.tuple es) => match es[j]? with
    | some d => eqS d "even"
    | none => false
  | _ => false
def evIn (ts : List PyData) (i : Nat) : Nat → Nat → Option (Nat × Nat)
  | 0, _ => none
  | k + 1, j => if (cellE ts i j != cellE ts j i) = true then some (i, j) else evIn ts i k (j + 1)
def evOut (ts : List PyData) (n : Nat) : Nat → Nat → Option (Nat × Nat)
  | 0, _ => none
  | k + 1, i => match evIn ts i (n - (i + 1)) (i + 1) with
    | some p => some p
    | none => evOut ts n k (i + 1)
theorem evIn_succ (ts : List PyData) (i k j : Nat) : evIn ts i (k + 1) j = if (cellE ts i j != cellE ts j i) = true then some (i, j) else evIn ts i k (j + 1) := rfl
theorem evOut_succ (ts : List PyData) (n k i : Nat) : evOut ts n (k + 1) i = match evIn ts i (n - (i + 1)) (i + 1) with
    | some p => some p
    | none => evOut ts n k (i + 1) := rfl
def evP : Option (Nat × Nat) → PyData
  | some p => .tuple [.str "even", .int (p.1 : Nat), .int (p.2 : Nat)]
  | none => .none
def evenE (ts : List PyData) : PyData := evP (evOut ts ts.length ts.length 0)
def RowsOk (ts : List PyData) : Prop := ∀ i d, ts[i]? = some d → rowB ts.length i d = true
theorem cell_at {av : Addr → Prop} {H : Hp} {xs : List V} {ts : List PyData} (hx : RpAll av H xs ts) (ok : RowsOk ts) {i j : Nat} (hi : i < ts.length) (hj : j < ts.length) :
    ∃ (a : Addr) (ys : List V) (z : Str), xs[i]? = some (.ref a) ∧ H a = some (.tup ys) ∧ ys[j]? = some (.str z) ∧ decide (V.str z = V.str "even") = cellE ts i j := by
  have hxi : i < xs.length := by have := hx.len; omega
  have gx : xs[i]? = some xs[i] := List.getElem?_eq_getElem hxi
  obtain ⟨d, hd, r⟩ := hx.at gx
  obtain ⟨es, z, rfl, ez⟩ := row_text (ok i d hd) hj
  obtain ⟨a, ys, ea, _, ha, hy⟩ := r.get_tup
  have hyj : j < ys.length := by
    have := (List.getElem?_eq_some_iff.mp ez).1
    have := hy.len
    omega
  have gy : ys[j]? = some ys[j] := List.getElem?_eq_getElem hyj
  obtain ⟨d2, hd2, r2⟩ := hy.at gy
  rw [ez] at hd2
  cases hd2
  refine ⟨a, ys, z, gx.trans (by rw [ea]), ha, gy.trans (by rw [r2.get_str]), ?_⟩
  unfold cellE
  rw [hd]
  show decide (V.str z = V.str "even") = (match es[j]? with | some d => eqS d "even" | none => false)
  rw [ez]
  show decide (V.str z = V.str "even") = (("even" : Str) == z)
  by_cases c : z = "even"
  · subst c
    rw [decide_eq_true rfl]
    exact (beq_self_eq_true _).symm
  · rw [decide_eq_false fun q => c (V.str.inj q), beq_eq_false_iff_ne.mpr fun q => c q.symm]
abbrev sEven : Stmt := top 16
def spEven : Sp := fun vs H Q _ => ∃ (av : Addr → Prop) (v : V) (ts : List PyData), vs = [v] ∧ Rp av H v (.tuple ts) ∧ RowsOk ts ∧ ts.length ≤ 1000 ∧ Gives (evenE ts) H Q
theorem Gives.three {x : Str} {i j : Int} {H H3 : Hp} {Q : VK} (g : Gives (.tuple [.str x, .int i, .int j]) H Q) (s : Same H H3) {p : Addr} (hp : H3 p = none) : Q (.ref p) (upd H3 p (.tup [.str x, .int i, .int j])) := by
  refine g _ _ (s.trans (same_new hp _)) (.tup ?_ upd_same (.cons (.str _) (.cons (.int _) (.cons (.int _) .nil))))
  rintro ⟨o, ho⟩
  rw [s _ _ ho] at hp
  cases hp
section
variable {P : Program} {w : World} {K : PySem.W.Frag} {mg : Str → Option Value} {base : Heap} {f : Addr} {fd : FuncData}
theorem scEven : FnScope ["table", "one", "other"] ["table"] (defScope sEven) := ⟨rfl, rfl, rfl, by decide +kernel, rfl, by decide +kernel, by decide +kernel⟩
theorem ok_even (F : Fun K "evenness_error" "evenness_error" sEven f fd) (B : Blt mg) : FnOk P w K mg base CX0 1 f fd ["table"] spEven := by
  refine F.ok scEven (fun vs H Q E h => ?_) (fun cdv A outer s H vs Q E hr h => ?_)
  · obtain ⟨_, _, _, rfl, _⟩ := h
    rfl
  obtain ⟨av, v, ts, rfl, hd, ok, hn, q⟩ := h
  have nd := scEven.nd
  refine ⟨_, pss_cons (ps_for PassesOwn.never rfl (pi_range1 (by rfl) B.rng (pa_cons (pe_callB call_len_seq (by rfl) B.len PySem.boot_len (pa_cons (pv 0) pa_nil)) pa_nil)) (pg_name (i := 1) nd rfl (Or.inl rfl))
      (pss_one (ps_for PassesOwn.never rfl (pi_range2 (by rfl) B.rng (pa_cons (pe_op op_add (pv 1) pe_int) (pa_cons (pe_callB call_len_seq (by rfl) B.len PySem.boot_len (pa_cons (pv 0) pa_nil)) pa_nil))) (pg_name (i := 2) nd rfl (Or.inl rfl))
        (pss_one (ps_if (pt_cmpR op_ne (pe_cmpR op_eq (pe_ix ix_tup (pe_ix ix_tup (pv 0) (pv 1) (fun _ _ => rfl)) (pv 2) (fun _ _ => rfl)) pe_str (nomark _)) (pe_cmpR op_eq (pe_ix ix_tup (pe_ix ix_tup (pv 0) (pv 2) (fun _ _ => rfl)) (pv 1) (fun _ _ => rfl)) pe_str (nomark _)) (nomark _))
          (pss_one (ps_ret (pe_tup (pa_cons pe_str (pa_cons (pv 1) (pa_cons (pv 2) pa_nil)))))) pss_nil)))))
    (pss_one (ps_ret pe_non)), ?_⟩
  obtain ⟨t, xs, rfl, _, ht, hx⟩ := hd.get_tup
  have lx := hx.len
  refine ⟨_, rfl, t, xs, rfl, .inr (SqT.of ht), _, rfl, by omega, by omega, for_it (walk_range (lo := 0) (n := xs.length)) (fun i σ H' => H' = H ∧ (∃ (v1 v2 : Option V), σ = [some (.ref t), v1, v2]) ∧ evOut ts ts.length (ts.length - i) i = evOut ts ts.length ts.length 0) ⟨rfl, ⟨_, _, rfl⟩, rfl⟩ (fun _ _ _ _ _ => trivial) ?_ ?_⟩
  · rintro i x σ H1 H2 hi ⟨rfl, ⟨_, _, rfl⟩, hev⟩ ⟨rfl, ex⟩
    have ex : x = V.int (i : Nat) := by
      rw [ex]
      show V.int (0 + (i : Nat)) = _
      rw [Int.zero_add]
    subst ex
    have hk : ts.length - i = (ts.length - (i + 1)) + 1 := by omega
    rw [hk] at hev
    have next_ : ((i : Int) + 1) = ((i + 1 : Nat) : Int) := by omega
    refine ⟨_, rfl, _, _, rfl, rfl, ?_⟩
    refine ⟨_, rfl, t, xs, rfl, .inr (SqT.of ht), _, _, rfl, ⟨by omega, by omega, by omega, by omega⟩, ?_⟩
    refine for_it (walk_range (lo := (i : Int) + 1) (n := (((xs.length : Nat) : Int) - ((i : Int) + 1)).toNat)) (fun k σ H' => H' = H2 ∧ (∃ v2 : Option V, σ = [some (.ref t), some (.int (i : Nat)), v2]) ∧ evIn ts i (ts.length - (i + 1) - k) (i + 1 + k) = evIn ts i (ts.length - (i + 1)) (i + 1)) ⟨rfl, ⟨_, rfl⟩, rfl⟩ (fun _ _ _ _ _ => trivial) ?_ ?_
    · rintro k y σ H3 H4 hk2 ⟨rfl, ⟨_, rfl⟩, hin⟩ ⟨rfl, ey⟩
      have ey : y = V.int ((i + 1 + k : Nat) : Int) := by
        rw [ey]
        show V.int ((i : Int) + 1 + (k : Nat)) = _
        congr 1
      subst ey
      have hj : i + 1 + k < ts.length := by omega
      have hi' : i < ts.length := by omega
      generalize hjj : i + 1 + k = j at hj hin
      obtain ⟨a1, y1, z1, g1, b1, c1, d1⟩ := cell_at hx ok hi' hj
      obtain ⟨a2, y2, z2, g2, b2, c2, d2⟩ := cell_at hx ok hj hi'
      have hk3 : ts.length - (i + 1) - k = (ts.length - (i + 1) - (k + 1)) + 1 := by omega
      rw [hk3] at hin
      refine ⟨_, rfl, _, rfl, t, xs, _, _, rfl, rfl, SqT.of ht, atI_nat g1, _, rfl, a1, y1, _, _, rfl, rfl, SqT.of b1, atI_nat c1, rfl, _, rfl, _, rfl, t, xs, _, _, rfl, rfl, SqT.of ht, atI_nat g2, _, rfl, a2, y2, _, _, rfl, rfl, SqT.of b2, atI_nat c2, rfl, rfl, _, rfl, ?_⟩
      have eb : (!decide (V.bl (decide (V.str z1 = V.str "even")) = V.bl (decide (V.str z2 = V.str "even")))) = (cellE ts i j != cellE ts j i) := by
        rw [d1, d2]
        cases cellE ts i j <;> cases cellE ts j i <;> rfl
      by_cases c : (cellE ts i j != cellE ts j i) = true
      · rw [evIn_succ, if_pos c] at hin
        refine iteY (eb.trans c) ?_
        refine ⟨_, rfl, _, rfl, (by show 3 ≤ sizeLine; decide), fun p hp => ?_⟩
        have e : evenE ts = .tuple [.str "even", .int (i : Nat), .int (j : Nat)] := by
          unfold evenE
          rw [← hev, evOut_succ, ← hin]
          rfl
        rw [e] at q
        exact q.three (Same.refl _) hp
      · rw [evIn_succ, if_neg c] at hin
        refine iteZ (fun z => c (eb.symm.trans z)) ?_
        refine ⟨rfl, ⟨_, rfl⟩, ?_⟩
        rw [← hin, ← hjj]
        rfl
    · rintro σ H3 ⟨rfl, ⟨_, rfl⟩, hin⟩
      have z0 : ts.length - (i + 1) - (((xs.length : Nat) : Int) - ((i : Int) + 1)).toNat = 0 := by omega
      rw [z0] at hin
      refine ⟨rfl, ⟨_, _, rfl⟩, ?_⟩
      rw [← hev, evOut_succ, ← hin]
      rfl
  · rintro σ H3 ⟨rfl, ⟨_, _, rfl⟩, hev⟩
    have z0 : ts.length - xs.length = 0 := by omega
    rw [z0] at hev
    have e : evenE ts = .none := by
      unfold evenE
      rw [← hev]
      rfl
    rw [e] at q
    exact q _ _ (Same.refl _) .non
end
end Rw
namespace Rw
open PySem L2
def badP (p : Nat → PyData → Bool) : Nat → List PyData → Option Nat
  | _, [] => none
  | i, d :: r => if p i d = true then badP p (i + 1) r else some i
theorem badP_nil (p : Nat → PyData → Bool) (i : Nat) : badP p i [] = none := rfl
theorem badP_cons (p : Nat → PyData → Bool) (i : Nat) (d : PyData) (r : List PyData) : badP p i (d :: r) = if p i d = true then badP p (i + 1) r else some i := rfl
theorem drop_at : ∀ {ds : List PyData} {i : Nat} {d : PyData}, ds[i]? = some d → ds.drop i = d :: ds.drop (i + 1)
  | [], _, _, h => by simp at h
  | e :: ds, 0, d, h => by
    have q : e = d := Option.some.inj h
    rw [q]
    rfl
  | e :: ds, i + 1, d, h => drop_at (ds := ds) (i := i) h
theorem badP_none {p : Nat → PyData → Bool} : ∀ {ds : List PyData} {i : Nat}, badP p i ds = none → ∀ j d, ds[j]? = some d → p (i + j) d = true
  | [], _, _, _, _, hd => by simp at hd
  | e :: ds, i, h, j, d, hd => by
    rw [badP_cons] at h
    by_cases c : p i e = true
    · rw [if_pos c] at h
      cases j with
      | zero =>
        have q : e = d := Option.some.inj hd
        rw [← q]
        exact c
      | succ j =>
        have z := badP_none (ds := ds) (i := i + 1) h j d hd
        rw [show i + (j + 1) = i + 1 + j by omega]
        exact z
    · rw [if_neg c] at h
      cases h
def tableE (n : Nat) (ts : List PyData) : PyData := if ts.length = n then match badP (rowB n) 0 ts with
    | some k => .tuple [.str "row", .int (k : Nat)]
    | none => evenE ts
  else .str "rows"
def intsOf : List PyData → Option (List Int)
  | [] => some []
  | .int i :: r => (intsOf r).map (i :: ·)
  | _ => none
def others (n i : Nat) : List Int := ((List.range n).filter fun j => decide (j ≠ i)).map fun j => ((j : Nat) : Int)
def orderB (n i : Nat) : PyData → Bool
  | .tuple ds => match intsOf ds with
    | some ns => ns.isPerm (others n i)
    | none => false
  | _ => false
def ordersE (n : Nat) (os : List PyData) : PyData := if os.length = n then match badP (orderB n) 0 os with
    | some k => .tuple [.str "order", .int (k : Nat)]
    | none => .none
  else .str "orders"
def isNone : PyData → Bool
  | .none => true
  | _ => false
def doorE (n : Nat) (d : PyData) : PyData := match d with
  | .tuple [.tuple ts, .tuple os] => if isNone (tableE n ts) = true then ordersE n os else tableE n ts
  | _ => .str "form"
abbrev sTable : Stmt := top 17
abbrev sOrder : Stmt := top 18
abbrev sOrders : Stmt := top 19
abbrev sDoorE : Stmt := top 20
def spTable : Sp := fun vs H Q _ => ∃ (av : Addr → Prop) (v : V) (ts : List PyData) (n : Nat), vs = [.int (n : Nat), v] ∧ Rp av H v (.tuple ts) ∧ n ≤ 1000 ∧ Gives (tableE n ts) H Q
def spOrder : Sp := fun vs H Q _ => ∃ (av : Addr → Prop) (v : V) (d : PyData) (n i : Nat), vs = [.int (n : Nat), .int (i : Nat), v] ∧ Rp av H v d ∧ i < n ∧ n ≤ 1000 ∧ d.weight ≤ 600000 ∧ ∀ H', Same H H' → Q (.bl (orderB n i d)) H'
def spOrders : Sp := fun vs H Q _ => ∃ (av : Addr → Prop) (v : V) (os : List PyData) (n : Nat), vs = [.int (n : Nat), v] ∧ Rp av H v (.tuple os) ∧ n ≤ 1000 ∧ PyData.weightAll os ≤ 600000 ∧ Gives (ordersE n os) H Q
def spDoorE : Sp := fun vs H Q _ => ∃ (av : Addr → Prop) (v : V) (d : PyData) (n : Nat), vs = [.int (n : Nat), v] ∧ Rp av H v d ∧ n ≤ 1000 ∧ d.weight ≤ 600000 ∧ Gives (doorE n d) H Q
theorem len_ne {a n : Nat} : (!decide (V.int ((a : Nat) : Int) = V.int ((n : Nat) : Int))) = !decide (a = n) := by
  by_cases h : a = n
  · subst h
    rw [decide_eq_true rfl, decide_eq_true rfl]
  · rw [decide_eq_false h, decide_eq_false fun z => h (by have := V.int.inj z; omega)]
section
variable {P : Program} {w : World} {K : PySem.W.Frag} {mg : Str → Option Value} {base : Heap} {f : Addr} {fd : FuncData}
theorem scTable : FnScope ["hands", "table", "hand", "row"] ["hands", "table"] (defScope sTable) := ⟨rfl, rfl, rfl, by decide +kernel, rfl, by decide +kernel, by decide +kernel⟩
theorem ok_table (F : Fun K "table_error" "table_error" sTable f fd) (B : Blt mg) (DR : Dfn P w K mg base "is_row" ["hands", "hand", "value"] 2 spRow) (DE : Dfn P w K mg base "evenness_error" ["table"] 1 spEven) : FnOk P w K mg base CX0 3 f fd ["hands", "table"] spTable := by
  refine F.ok scTable (fun vs H Q E h => ?_) (fun cdv A outer s H vs Q E hr h => ?_)
  · obtain ⟨_, _, _, _, rfl, _⟩ := h
    rfl
  obtain ⟨av, v, ts, n, rfl, hd, hn, q⟩ := h
  have nd := scTable.nd
  have hr1 : Room 1 (A.deeper (PyProof.Rows.envOfC "table_error" (defScope sTable) s.heap.objs.size f cdv)) := hr.mono (by omega)
  refine ⟨_, pss_cons (ps_if (pt_cmpR op_ne (pe_callB call_len_seq (by rfl) B.len PySem.boot_len (pa_cons (pv 1) pa_nil)) (pv 0) (nomark _)) (pss_one (ps_ret pe_str)) pss_nil)
    (pss_cons (ps_for PassesOwn.never rfl (pi_enumT (by rfl) B.enu (pa_cons (pv 1) pa_nil)) (pg_tup rfl (pgs_cons (pg_name (i := 2) nd rfl (Or.inl rfl)) (pgs_cons (pg_name (i := 3) nd rfl (Or.inl rfl)) pgs_nil)))
      (pss_one (ps_if (pt_not (pt_val (pe_own DR hr (pa_cons (pv 0) (pa_cons (pv 2) (pa_cons (pv 3) pa_nil)))))) (pss_one (ps_ret (pe_tup (pa_cons pe_str (pa_cons (pv 2) pa_nil))))) pss_nil)))
    (pss_one (ps_ret (pe_own DE hr1 (pa_cons (pv 1) pa_nil))))), ?_⟩
  obtain ⟨a, xs, rfl, _, ha, hx⟩ := hd.get_tup
  have hl := hx.len
  refine ⟨_, rfl, a, xs, rfl, .inr (SqT.of ha), _, rfl, rfl, _, rfl, ?_⟩
  by_cases c : ts.length = n
  case neg =>
    refine iteY (len_ne.trans (by rw [decide_eq_false (by omega)]; rfl)) ?_
    have e : tableE n ts = .str "rows" := if_neg c
    rw [e] at q
    exact q _ _ (Same.refl _) (.str _)
  have eT : tableE n ts = match badP (rowB n) 0 ts with
    | some k => .tuple [.str "row", .int (k : Nat)]
    | none => evenE ts := if_pos c
  refine iteZ (fun z => by rw [len_ne, decide_eq_true (by omega)] at z; cases z) ?_
  refine ⟨_, rfl, a, xs, rfl, SqT.of ha, for_it (walk_enumT (K := K) (a := a) (xs := xs)) (fun i σ H' => ∃ (v2 v3 : Option V), σ = [some (.int (n : Nat)), some (.ref a), v2, v3] ∧ Same H H' ∧ badP (rowB n) i (ts.drop i) = badP (rowB n) 0 ts) ⟨none, none, rfl, Same.refl _, rfl⟩ ?_ ?_ ?_⟩
  · rintro i σ H' _ ⟨_, _, _, s1, _⟩
    exact SqT.of (s1 _ _ ha)
  · rintro i x σ H1 H2 hi ⟨v2, v3, rfl, s1, hb1⟩ ⟨T, x1, y, rfl, hT, rfl, e1, hy⟩
    cases (Option.some.inj e1)
    obtain ⟨d, hdi, hry⟩ := hx.at hy
    have s2 : Same H (upd H1 T (.tup [.int (i : Nat), y])) := s1.trans (same_new hT _)
    rw [drop_at hdi, badP_cons] at hb1
    refine ⟨T, _, rfl, SqT.of upd_same, rfl, _, _, rfl, _, _, rfl, rfl, ?_⟩
    generalize upd H1 T (.tup [.int (i : Nat), y]) = H3 at s2
    refine ⟨_, rfl, _, rfl, _, rfl, av, y, d, n, i, rfl, hry.mono (Ext.of_same s2), by omega, hn, fun H4 s3 => ⟨_, rfl, ?_⟩⟩
    have s4 := s2.trans s3
    by_cases c2 : rowB n i d = true
    · refine iteZ (by simpa using c2) ?_
      rw [if_pos c2] at hb1
      exact ⟨_, _, rfl, s4, hb1⟩
    · refine iteY (by simpa using c2) ?_
      rw [if_neg c2] at hb1
      rw [eT, ← hb1] at q
      refine ⟨_, rfl, (by show 2 ≤ sizeLine; decide), fun p hp => ?_⟩
      exact Gives.pair q s4 hp
  · rintro σ H' ⟨v2, v3, rfl, s1, hb1⟩
    rw [hl, List.drop_length, badP_nil] at hb1
    rw [eT, ← hb1] at q
    have ok : RowsOk ts := fun i d hi => by
      have z := badP_none hb1.symm i d hi
      rw [Nat.zero_add] at z
      rw [c]
      exact z
    exact ⟨_, rfl, av, _, ts, rfl, hd.mono (Ext.of_same s1), ok, by omega, Gives.ext q s1⟩
end
end Rw
namespace Rw
open PySem L2
theorem intsOf_map : ∀ ns : List Int, intsOf (ns.map PyData.int) = some ns
  | [] => rfl
  | n :: r => by
    show (intsOf (r.map PyData.int)).map (n :: ·) = _
    rw [intsOf_map r]
    rfl
theorem ints_of_all : ∀ {ds : List PyData}, ds.all isIntB = true → ∃ ns : List Int, ds = ns.map PyData.int
  | [], _ => ⟨[], rfl⟩
  | d :: r, h => by
    rw [List.all_cons, Bool.and_eq_true] at h
    obtain ⟨ns, rfl⟩ := ints_of_all h.2
    obtain ⟨i, rfl⟩ := int_of h.1
    exact ⟨i :: ns, rfl⟩
theorem all_of_intsOf : ∀ {ds : List PyData} {ns : List Int}, intsOf ds = some ns → ds = ns.map PyData.int
  | [], ns, h => by
    cases h
    rfl
  | .int i :: r, ns, h => by
    have h' : (intsOf r).map (i :: ·) = some ns := h
    cases e : intsOf r with
    | none =>
      rw [e] at h'
      cases h'
    | some ms =>
      rw [e] at h'
      cases h'
      rw [all_of_intsOf e]
      rfl
  | .none :: _, _, h => nomatch h
  | .bool _ :: _, _, h => nomatch h
  | .str _ :: _, _, h => nomatch h
  | .list _ :: _, _, h => nomatch h
  | .tuple _ :: _, _, h => nomatch h
  | .dict _ :: _, _, h => nomatch h
theorem RpAll.back {av : Addr → Prop} {H : Hp} : ∀ {ns : List Int} {xs : List V}, RpAll av H xs (ns.map PyData.int) → xs = ns.map V.int
  | [], _, h => by
    cases h
    rfl
  | n :: r, _, h => by
    cases h with
    | cons a b =>
      rw [RpAll.back b, a.get_int]
      rfl
theorem others_le (n i : Nat) : (others n i).Pairwise (· ≤ ·) := by
  unfold others
  rw [List.pairwise_map]
  exact (List.Pairwise.filter _ List.pairwise_lt_range).imp fun {a b} h => by omega
theorem others_eq {n i : Nat} {ms ns : List Int} (p : ms.Perm ns) (s : ms.Pairwise (· ≤ ·)) : decide (ms = others n i) = ns.isPerm (others n i) := by
  rw [Bool.eq_iff_iff, decide_eq_true_iff, List.isPerm_iff]
  constructor
  · intro e
    rw [← e]
    exact p.symm
  · intro q
    exact List.Perm.eq_of_pairwise (fun a b _ _ h1 h2 => Int.le_antisymm h1 h2) s (others_le n i) (p.trans q)
theorem others_step (j i : Nat) : others (j + 1) i = others j i ++ (if j ≠ i then [((j : Nat) : Int)] else []) := by
  unfold others
  rw [List.range_succ, List.filter_append, List.map_append]
  congr 1
  by_cases c : j = i
  · rw [if_neg fun z => z c]
    simp [c]
  · rw [if_pos c]
    simp [c]
theorem others_len2 (i : Nat) : ∀ n : Nat, (others n i).length = if i < n then n - 1 else n
  | 0 => rfl
  | n + 1 => by
    rw [others_step, List.length_append, others_len2 i n]
    by_cases c : n = i
    · have h1 : (if n ≠ i then [((n : Nat) : Int)] else []) = [] := if_neg fun z => z c
      rw [h1, if_neg (by omega), if_pos (by omega), List.length_nil]
      omega
    · have h1 : (if n ≠ i then [((n : Nat) : Int)] else []) = [((n : Nat) : Int)] := if_pos c
      rw [h1, List.length_singleton]
      by_cases q : i < n
      · rw [if_pos q, if_pos (by omega)]
        omega
      · rw [if_neg q, if_neg (by omega)]
theorem others_len {n i : Nat} (h : i < n) : (others n i).length = n - 1 := by
  rw [others_len2, if_pos h]
theorem others_mem {n i : Nat} {x : Int} (h : x ∈ others n i) : 0 ≤ x ∧ x < n := by
  obtain ⟨j, hj, rfl⟩ := List.mem_map.mp h
  have := List.mem_range.mp (List.mem_filter.mp hj).1
  omega
end Rw
namespace Rw
open PySem L2
section
variable {P : Program} {w : World} {K : PySem.W.Frag} {mg : Str → Option Value} {base : Heap} {f : Addr} {fd : FuncData}
theorem scOrder : FnScope ["hands", "hand", "value", "other"] ["hands", "hand", "value"] (defScope sOrder) := ⟨rfl, rfl, rfl, by decide +kernel, rfl, by decide +kernel, by decide +kernel⟩
theorem ok_order (F : Fun K "is_order" "is_order" sOrder f fd) (B : Blt mg) (C : Blt2 mg) (DT : Dfn P w K mg base "is_tuple_of" ["value", "many"] 1 spTupleOf) (DI : Dfn P w K mg base "is_integer" ["value"] 1 spInteger) : FnOk P w K mg base CX0 2 f fd ["hands", "hand", "value"] spOrder := by
  refine F.ok scOrder (fun vs H Q E h => ?_) (fun cdv A outer s H vs Q E hr h => ?_)
  · obtain ⟨_, _, _, _, _, rfl, _⟩ := h
    rfl
  obtain ⟨av, v, d, n, i, rfl, hd, hin, hn, wd, q⟩ := h
  have nd := scOrder.nd
  have hu64 : (A.deeper (PyProof.Rows.envOfC "is_order" (defScope sOrder) s.heap.objs.size f cdv)).units + 64 < cLine := by
    have := hr.un
    omega
  refine ⟨_, pss_cons (ps_if (PW.pt (pw_or (pt_not (pt_val (pe_own DT hr (pa_cons (pv 2) (pa_cons (pe_op op_sub (pv 0) pe_int) pa_nil))))) (pw_or1 (pt_not (pt_val (pe_callB (cr_all (by rfl)) (by rfl) C.all (by decide +kernel)
      (pa_cons (pe_lc (own := [("other", 3)]) (g := gName 3) (tt := tYes) rfl nd (pi_tup (pv 2)) (blkOk_by (N := ["hands", "hand", "value", "other"]) (sc := defScope sOrder) (by decide +kernel)) (fun _ _ _ _ _ => pg_name (i := 3) nd rfl (Or.inl rfl)) (fun _ _ _ _ _ => pts_nil)
        (fun _ _ _ _ _ => pe_own DI hr (pa_cons (pv 3) pa_nil))) pa_nil))))))) (pss_one (ps_ret pe_bl)) pss_nil)
    (pss_one (ps_ret (pe_cmpR (op_eqD hu64) (pe_callB call_sortT (by rfl) C.sorted (by decide +kernel) (pa_cons (pv 2) pa_nil))
      (pe_lc (own := [("other", 3)]) (g := gName 3) (tt := _) rfl nd (pi_range1 (by rfl) B.rng (pa_cons (pv 0) pa_nil)) (blkOk_by (N := ["hands", "hand", "value", "other"]) (sc := defScope sOrder) (by decide +kernel)) (fun _ _ _ _ _ => pg_name (i := 3) nd rfl (Or.inl rfl)) (fun _ _ _ _ _ => pts_one (pt_cmpR op_ne (pv 3) (pv 1) (nomark _))) (fun _ _ _ _ _ => pv 3)) (nomark _)))), ?_⟩
  refine ⟨_, rfl, _, rfl, _, _, rfl, rfl, av, v, d, _, rfl, hd, _, rfl, ?_⟩
  have low : ∀ ds ns, d = .tuple ds → intsOf ds = some ns → ns.isPerm (others n i) = true → tupOf ((n : Nat) - 1) d = true ∧ ds.all isIntB = true := fun ds ns e1 e2 e3 => by
    have hp := List.isPerm_iff.mp e3
    have hl := hp.length_eq
    rw [others_len hin] at hl
    have e4 := all_of_intsOf e2
    subst e1
    refine ⟨decide_eq_true ?_, ?_⟩
    · rw [e4, List.length_map]
      omega
    · rw [e4, List.all_map, List.all_eq_true]
      exact fun _ _ => rfl
  have no : ¬ (tupOf ((n : Nat) - 1) d = true ∧ ∀ ds, d = .tuple ds → ds.all isIntB = true) → orderB n i d = false := fun z => by
    cases e : orderB n i d with
    | false => rfl
    | true =>
      cases d with
      | tuple ds =>
        have e' : (match intsOf ds with | some ns => ns.isPerm (others n i) | none => false) = true := e
        cases e2 : intsOf ds with
        | none =>
          rw [e2] at e'
          cases e'
        | some ns =>
          rw [e2] at e'
          obtain ⟨h1, h2⟩ := low ds ns rfl e2 e'
          exact absurd ⟨h1, fun ds' h => by cases h; exact h2⟩ z
      | _ => cases e
  by_cases c : tupOf ((n : Nat) - 1) d = true
  case neg =>
    refine iteY (by simpa using c) ?_
    refine iteT (B := True) ?_
    rw [no fun z => c z.1] at q
    exact q H (Same.refl _)
  obtain ⟨ds, rfl⟩ : ∃ ds, d = .tuple ds := by
    cases d with
    | tuple ds => exact ⟨ds, rfl⟩
    | _ => cases c
  refine iteZ (by simpa using c) ?_
  obtain ⟨t, xs, rfl, _, ht, hx⟩ := hd.get_tup
  have lx := hx.len
  have ld : ds.length ≤ 600000 := by
    have := wA_len ds
    simp only [PyData.weight] at wd
    omega
  refine ⟨_, rfl, t, rfl, ⟨_, SqT.of ht⟩, fun D hD => ?_⟩
  refine lc_tup (K := K) (a := t) (xs := xs) (fun j H' => Same H H' ∧ H' D = some (.lst (((ds.take j).map isIntB).map V.bl))) ?_ ?_ ?_ ?_
  · exact ⟨same_new hD _, upd_same⟩
  · rintro j H' _ ⟨e, _⟩
    exact SqT.of (e _ _ ht)
  · rintro j x H' hj ⟨e, hl⟩
    obtain ⟨dj, hdj, rj⟩ := hx.at hj
    have hj2 : j < ds.length := (List.getElem?_eq_some_iff.mp hdj).1
    refine ⟨rfl, ?_⟩
    refine iteT (B := True) ?_
    refine ⟨_, rfl, av, x, dj, rfl, rj.mono (Ext.of_same e), _, hl, ?_, same_upd e hD _, ?_⟩
    · rw [List.length_map, List.length_map, List.length_take]
      exact szlt (by omega)
    have en : ds.take (j + 1) = ds.take j ++ [dj] := by
      rw [List.take_add_one, hdj]
      rfl
    rw [upd_same, en, List.map_append, List.map_append]
    rfl
  rintro H1 ⟨e1, hl⟩
  rw [List.take_of_length_le (by omega)] at hl
  have ea : (ds.map isIntB).all id = ds.all isIntB := by rw [List.all_map]; rfl
  refine ⟨D, ds.map isIntB, rfl, SqL.of hl, _, rfl, ?_⟩
  by_cases c2 : ds.all isIntB = true
  case neg =>
    refine iteY (by rw [ea]; simpa using c2) ?_
    rw [no fun z => c2 (z.2 ds rfl)] at q
    exact q H1 e1
  refine iteZ (by rw [ea]; simpa using c2) ?_
  obtain ⟨ns, rfl⟩ := ints_of_all c2
  have hxs := hx.back
  subst hxs
  rw [List.length_map] at ld
  refine ⟨_, rfl, t, ns, rfl, SqT.of (e1 _ _ ht), sz ld, fun ms p pm pw hp => ?_⟩
  have s2 : Same H1 (upd H1 p (.lst (ms.map V.int))) := same_new hp _
  have hm : upd H1 p (.lst (ms.map V.int)) p = some (.lst (ms.map V.int)) := upd_same
  generalize upd H1 p (.lst (ms.map V.int)) = H2 at s2 hm
  refine ⟨_, rfl, _, rfl, by omega, by omega, fun D2 hD2 => ?_⟩
  refine lc_range (lo := 0) (n := n) (fun j H' => Same H2 H' ∧ H' D2 = some (.lst ((others j i).map V.int))) ?_ ?_ ?_
  · exact ⟨same_new hD2 _, upd_same⟩
  · rintro j H' hj ⟨e, hl2⟩
    refine ⟨rfl, ?_⟩
    refine ⟨_, rfl, _, rfl, rfl, _, rfl, ?_⟩
    have lo : (others j i).length ≤ j := by
      rw [others_len2]
      split <;> omega
    by_cases c3 : j = i
    · refine iteZ ?_ ?_
      · subst c3
        simp
      · refine ⟨e, ?_⟩
        rw [others_step, if_neg fun z => z c3, List.append_nil]
        exact hl2
    · refine iteY ?_ ?_
      · have z : ¬ V.int (0 + (j : Nat)) = V.int (i : Nat) := fun z => c3 (by have := V.int.inj z; omega)
        rw [decide_eq_false z]
        rfl
      · refine ⟨_, rfl, _, hl2, szlt (by rw [List.length_map]; omega), same_upd e hD2 _, ?_⟩
        rw [upd_same, others_step, if_pos c3, List.map_append]
        show some (HO.lst (_ ++ [V.int (0 + (j : Nat))])) = some (HO.lst (_ ++ [V.int (j : Nat)]))
        rw [Int.zero_add]
  rintro H3 ⟨e3, hl3⟩
  have T := e1.trans (s2.trans e3)
  have D1 : Dp K H3 (.ref p) (.list (ms.map PyData.int)) := .lst (SqL.of (e3 _ _ hm)) (dp_ints _)
  refine ⟨.list (ms.map PyData.int), .list ((others n i).map PyData.int), D1, .lst (SqL.of hl3) (dp_ints _), shaped_ints _, shaped_ints _, ?_⟩
  rw [eqv_ints, others_eq pm pw]
  have eo : orderB n i (.tuple (ns.map PyData.int)) = ns.isPerm (others n i) := by
    show (match intsOf (ns.map PyData.int) with | some ns => ns.isPerm (others n i) | none => false) = _
    rw [intsOf_map]
  rw [eo] at q
  exact q H3 T
end
end Rw
namespace Rw
open PySem L2
theorem isNone_of {d : PyData} (h : isNone d = true) : d = .none := by
  cases d <;> first | rfl | cases h
theorem pairT_of {d : PyData} (h : pairT d = true) : ∃ ts os, d = .tuple [.tuple ts, .tuple os] := by
  cases d with
  | tuple ds =>
    have h' : (decide (ds.length = 2) && ds.all (isT "tuple")) = true := h
    rw [Bool.and_eq_true] at h'
    have l := of_decide_eq_true h'.1
    match ds, l, h'.2 with
    | [a, b], _, h2 =>
      have h3 : (isT "tuple" a && (isT "tuple" b && true)) = true := h2
      rw [Bool.and_true, Bool.and_eq_true] at h3
      obtain ⟨ts, rfl⟩ := isT_tup.mp h3.1
      obtain ⟨os, rfl⟩ := isT_tup.mp h3.2
      exact ⟨ts, os, rfl⟩
  | _ => cases h
theorem doorE_form {n : Nat} {d : PyData} (h : ¬ pairT d = true) : doorE n d = .str "form" := by
  unfold doorE
  split
  · exact absurd rfl h
  · rfl
theorem ordersE_nil (n : Nat) (os : List PyData) (h : os.length = n) : ordersE n os = match badP (orderB n) 0 os with
    | some k => .tuple [.str "order", .int (k : Nat)]
    | none => .none := if_pos h
section
variable {P : Program} {w : World} {K : PySem.W.Frag} {mg : Str → Option Value} {base : Heap} {f : Addr} {fd : FuncData}
theorem scOrders : FnScope ["hands", "orders", "hand", "order"] ["hands", "orders"] (defScope sOrders) := ⟨rfl, rfl, rfl, by decide +kernel, rfl, by decide +kernel, by decide +kernel⟩
theorem ok_orders (F : Fun K "orders_error" "orders_error" sOrders f fd) (B : Blt mg) (DO : Dfn P w K mg base "is_order" ["hands", "hand", "value"] 2 spOrder) : FnOk P w K mg base CX0 3 f fd ["hands", "orders"] spOrders := by
  refine F.ok scOrders (fun vs H Q E h => ?_) (fun cdv A outer s H vs Q E hr h => ?_)
  · obtain ⟨_, _, _, _, rfl, _⟩ := h
    rfl
  obtain ⟨av, v, os, n, rfl, hd, hn, wd, q⟩ := h
  have nd := scOrders.nd
  refine ⟨_, pss_cons (ps_if (pt_cmpR op_ne (pe_callB call_len_seq (by rfl) B.len PySem.boot_len (pa_cons (pv 1) pa_nil)) (pv 0) (nomark _)) (pss_one (ps_ret pe_str)) pss_nil)
    (pss_cons (ps_for PassesOwn.never rfl (pi_enumT (by rfl) B.enu (pa_cons (pv 1) pa_nil)) (pg_tup rfl (pgs_cons (pg_name (i := 2) nd rfl (Or.inl rfl)) (pgs_cons (pg_name (i := 3) nd rfl (Or.inl rfl)) pgs_nil)))
      (pss_one (ps_if (pt_not (pt_val (pe_own DO hr (pa_cons (pv 0) (pa_cons (pv 2) (pa_cons (pv 3) pa_nil)))))) (pss_one (ps_ret (pe_tup (pa_cons pe_str (pa_cons (pv 2) pa_nil))))) pss_nil)))
    (pss_one (ps_ret pe_non))), ?_⟩
  obtain ⟨a, xs, rfl, _, ha, hx⟩ := hd.get_tup
  have hl := hx.len
  refine ⟨_, rfl, a, xs, rfl, .inr (SqT.of ha), _, rfl, rfl, _, rfl, ?_⟩
  by_cases c : os.length = n
  case neg =>
    refine iteY (len_ne.trans (by rw [decide_eq_false (by omega)]; rfl)) ?_
    have e : ordersE n os = .str "orders" := if_neg c
    rw [e] at q
    exact q _ _ (Same.refl _) (.str _)
  have eT := ordersE_nil n os c
  refine iteZ (fun z => by rw [len_ne, decide_eq_true (by omega)] at z; cases z) ?_
  refine ⟨_, rfl, a, xs, rfl, SqT.of ha, for_it (walk_enumT (K := K) (a := a) (xs := xs)) (fun i σ H' => ∃ (v2 v3 : Option V), σ = [some (.int (n : Nat)), some (.ref a), v2, v3] ∧ Same H H' ∧ badP (orderB n) i (os.drop i) = badP (orderB n) 0 os) ⟨none, none, rfl, Same.refl _, rfl⟩ ?_ ?_ ?_⟩
  · rintro i σ H' _ ⟨_, _, _, s1, _⟩
    exact SqT.of (s1 _ _ ha)
  · rintro i x σ H1 H2 hi ⟨v2, v3, rfl, s1, hb1⟩ ⟨T, x1, y, rfl, hT, rfl, e1, hy⟩
    cases (Option.some.inj e1)
    obtain ⟨d, hdi, hry⟩ := hx.at hy
    have s2 : Same H (upd H1 T (.tup [.int (i : Nat), y])) := s1.trans (same_new hT _)
    rw [drop_at hdi, badP_cons] at hb1
    refine ⟨T, _, rfl, SqT.of upd_same, rfl, _, _, rfl, _, _, rfl, rfl, ?_⟩
    generalize upd H1 T (.tup [.int (i : Nat), y]) = H3 at s2
    have wdd : d.weight ≤ 600000 := by
      have := wA_mem (List.mem_of_getElem? hdi)
      omega
    refine ⟨_, rfl, _, rfl, _, rfl, av, y, d, n, i, rfl, hry.mono (Ext.of_same s2), by omega, hn, wdd, fun H4 s3 => ⟨_, rfl, ?_⟩⟩
    have s4 := s2.trans s3
    by_cases c2 : orderB n i d = true
    · refine iteZ (by simpa using c2) ?_
      rw [if_pos c2] at hb1
      exact ⟨_, _, rfl, s4, hb1⟩
    · refine iteY (by simpa using c2) ?_
      rw [if_neg c2] at hb1
      rw [eT, ← hb1] at q
      refine ⟨_, rfl, (by show 2 ≤ sizeLine; decide), fun p hp => ?_⟩
      exact Gives.pair q s4 hp
  · rintro σ H' ⟨v2, v3, rfl, s1, hb1⟩
    rw [hl, List.drop_length, badP_nil] at hb1
    rw [eT, ← hb1] at q
    exact q _ _ s1 .non
theorem scDoorE : FnScope ["hands", "value", "table", "orders", "error"] ["hands", "value"] (defScope sDoorE) := ⟨rfl, rfl, rfl, by decide +kernel, rfl, by decide +kernel, by decide +kernel⟩
theorem ok_doorE (F : Fun K "door_error" "door_error" sDoorE f fd) (DP : Dfn P w K mg base "is_pair_of_tuples" ["value"] 2 spPairT) (DT : Dfn P w K mg base "table_error" ["hands", "table"] 3 spTable) (DO : Dfn P w K mg base "orders_error" ["hands", "orders"] 3 spOrders) : FnOk P w K mg base CX0 4 f fd ["hands", "value"] spDoorE := by
  refine F.ok scDoorE (fun vs H Q E h => ?_) (fun cdv A outer s H vs Q E hr h => ?_)
  · obtain ⟨_, _, _, _, rfl, _⟩ := h
    rfl
  obtain ⟨av, v, d, n, rfl, hd, hn, wd, q⟩ := h
  have nd := scDoorE.nd
  have hr2 : Room 2 (A.deeper (PyProof.Rows.envOfC "door_error" (defScope sDoorE) s.heap.objs.size f cdv)) := hr.mono (by omega)
  refine ⟨_, pss_cons (ps_if (pt_not (pt_val (pe_own DP hr2 (pa_cons (pv 1) pa_nil)))) (pss_one (ps_ret pe_str)) pss_nil)
    (pss_cons (ps_asg (pv 1) (pg_tup rfl (pgs_cons (pg_name (i := 2) nd rfl (Or.inl rfl)) (pgs_cons (pg_name (i := 3) nd rfl (Or.inl rfl)) pgs_nil))))
    (pss_cons (ps_set (i := 4) nd rfl (Or.inl rfl) (pe_own DT hr (pa_cons (pv 0) (pa_cons (pv 2) pa_nil))))
    (pss_cons (ps_if (pt_cmpR op_isN (pv 4) pe_non (nomark _)) (pss_one (ps_set (i := 4) nd rfl (Or.inl rfl) (pe_own DO hr (pa_cons (pv 0) (pa_cons (pv 3) pa_nil))))) pss_nil)
    (pss_one (ps_ret (pv 4)))))), ?_⟩
  refine ⟨_, rfl, av, v, d, rfl, hd, _, rfl, ?_⟩
  by_cases c : pairT d = true
  case neg =>
    refine iteY (by simpa using c) ?_
    rw [doorE_form c] at q
    exact q _ _ (Same.refl _) (.str _)
  refine iteZ (by simpa using c) ?_
  obtain ⟨ts, os, rfl⟩ := pairT_of c
  obtain ⟨t, xs, rfl, _, ht, hx⟩ := hd.get_tup
  cases hx with
  | cons r1 r2 =>
  cases r2 with
  | cons r2 r3 =>
  cases r3
  have eD : doorE n (.tuple [.tuple ts, .tuple os]) = if isNone (tableE n ts) = true then ordersE n os else tableE n ts := rfl
  rw [eD] at q
  refine ⟨_, rfl, t, _, rfl, SqT.of ht, rfl, _, _, rfl, _, _, rfl, rfl, ?_⟩
  refine ⟨_, rfl, _, rfl, av, _, ts, n, rfl, r1, hn, fun err H1 s1 re => ?_⟩
  refine ⟨_, rfl, rfl, _, rfl, ?_⟩
  by_cases c2 : isNone (tableE n ts) = true
  · rw [if_pos c2] at q
    rw [isNone_of c2] at re
    cases re.get_non
    refine iteY (decide_eq_true rfl) ?_
    refine ⟨_, rfl, _, rfl, av, _, os, n, rfl, r2.mono (Ext.of_same s1), hn, ?_, fun err2 H2 s2 re2 => ⟨_, rfl, Gives.ext q s1 _ _ s2 re2⟩⟩
    simp only [PyData.weight, PyData.weightAll] at wd
    omega
  · rw [if_neg c2] at q
    have z : ¬ err = V.non := fun e => by
      subst e
      generalize tableE n ts = d at re c2
      cases re
      exact c2 rfl
    refine iteZ (by rw [decide_eq_false z]; decide) ?_
    exact ⟨_, rfl, q _ _ s1 re⟩
end
end Rw
namespace Rw
open PySem L2
abbrev sLawRow : Stmt := top 40
abbrev sLawOrder : Stmt := top 41
theorem take_next {α : Type} {es : List α} {j : Nat} {d : α} (h : es[j]? = some d) : es.take (j + 1) = es.take j ++ [d] := by
  rw [List.take_add_one, h]
  rfl
theorem all_snoc {es : List PyData} {p : PyData → Bool} {j : Nat} {d : PyData} (h : es[j]? = some d) : (es.take (j + 1)).all p = ((es.take j).all p && p d) := by
  rw [take_next h, List.all_append, List.all_cons, List.all_nil, Bool.and_true]
section
variable {P : Program} {w : World} {K : PySem.W.Frag} {mg : Str → Option Value} {base : Heap} {f : Addr} {fd : FuncData}
theorem scLawRow : FnScope ["hands", "i", "row", "wrong", "word"] ["hands", "i", "row"] (defScope sLawRow) := ⟨rfl, rfl, rfl, by decide +kernel, rfl, by decide +kernel, by decide +kernel⟩
theorem ok_lawRow (F : Fun K "_law_is_row" "_law_is_row" sLawRow f fd) (B : Blt mg) : FnOk P w K mg base CX0 1 f fd ["hands", "i", "row"] spRow := by
  refine F.ok scLawRow (fun vs H Q E h => ?_) (fun cdv A outer s H vs Q E hr h => ?_)
  · obtain ⟨_, _, _, _, _, rfl, _⟩ := h
    rfl
  obtain ⟨av, v, d, n, i, rfl, hd, hin, hn, q⟩ := h
  have nd := scLawRow.nd
  have hu := hu_of hr
  have hu0 : (A.deeper (PyProof.Rows.envOfC "_law_is_row" (defScope sLawRow) s.heap.objs.size f cdv)).units < cLine := by omega
  refine ⟨_, pss_cons (ps_if (PW.pt (pw_or (pt_not (pt_val (pe_isi (n := "tuple") (by simp) (pv 2) B.isi B.tup bt_tuple))) (pw_or1 (pt_cmpR op_ne (pe_callB call_len_seq (by rfl) B.len PySem.boot_len (pa_cons (pv 2) pa_nil)) (pv 0) (nomark _))))) (pss_one (ps_ret pe_bl)) pss_nil)
    (pss_cons (ps_setLc (i := 3) (own := [("word", 4)]) (g := gName 4) (tt := _) (by rfl) nd rfl rfl (sw_true rfl rfl rfl (by decide +kernel)) (pi_tup (pe_op op_catB (pe_slice sl_tupB (pv 2) po_none (po_some (pv 1))) (pe_slice sl_tupB (pv 2) (po_some (pe_op op_add (pv 1) pe_int)) po_none)))
      (blkOk_by (N := ["hands", "i", "row", "wrong", "word"]) (sc := defScope sLawRow) (by decide +kernel)) (fun _ _ _ _ _ => pg_name (i := 4) nd rfl (Or.inl rfl)) (fun _ _ _ _ _ => pts_one (pt_cmpR (r := rInS K true) (op_notInS hu) (pv 4) (pe_tup (pa_cons pe_str (pa_cons pe_str (pa_cons pe_str pa_nil)))) (by rfl))) (fun _ _ _ _ _ => pv 4))
    (pss_one (ps_ret (pe_and (pe_cmpR (r := rNoneL K false) (op_eqNone hu0) (pv 3) (pe_lst pa_nil) (nomark _)) (pe_and (pe_isi (n := "str") (by simp) (pe_ix ix_tup (pv 2) (pv 1) (fun _ _ => rfl)) B.isi B.str bt_str)
      (pe_one (pe_cmpR op_eq (pe_ix ix_tup (pv 2) (pv 1) (fun _ _ => rfl)) pe_str (nomark _)))))))), ?_⟩
  refine ⟨_, rfl, av, v, d, rfl, hd, _, rfl, ?_⟩
  by_cases c0 : isT "tuple" d = true
  case neg =>
    refine iteY (by simpa using c0) ?_
    refine iteT (B := True) ?_
    have e : rowB n i d = false := by
      cases d with
      | tuple ds => exact absurd rfl c0
      | _ => rfl
    rw [e] at q
    exact q H (Same.refl _)
  obtain ⟨ds, rfl⟩ := isT_tup.mp c0
  refine iteZ (by simpa using c0) ?_
  obtain ⟨t, xs, rfl, _, ht, hx⟩ := hd.get_tup
  have lx := hx.len
  refine ⟨_, rfl, t, xs, rfl, .inr (SqT.of ht), _, rfl, rfl, _, rfl, ?_⟩
  by_cases c : ds.length = n
  case neg =>
    refine iteY (len_ne.trans (by rw [decide_eq_false (by omega)]; rfl)) ?_
    have e : rowB n i (.tuple ds) = false := by
      show (decide (ds.length = n) && _ && _) = false
      rw [decide_eq_false c, Bool.false_and, Bool.false_and]
    rw [e] at q
    exact q H (Same.refl _)
  refine iteZ (fun z => by rw [len_ne, decide_eq_true (by omega)] at z; cases z) ?_
  have hi : i < xs.length := by omega
  have gx : xs[i]? = some xs[i] := List.getElem?_eq_getElem hi
  obtain ⟨d1, hd1, r1⟩ := hx.at gx
  have ed : dashAt ds i = eqS d1 "-" := by
    unfold dashAt
    rw [hd1]
  have eR : rowB n i (.tuple ds) = (eqS d1 "-" && (ds.take i ++ ds.drop (i + 1)).all wordB) := by
    show (decide (ds.length = n) && dashAt ds i && _) = _
    rw [decide_eq_true c, Bool.true_and, ed]
  rw [eR] at q
  refine ⟨_, rfl, _, rfl, (i : Int), rfl, t, xs, rfl, ht, fun p1 H1 s1 hc1 _ => ?_⟩
  rw [cut_to] at hc1
  have next_ : ((i : Int) + 1) = ((i + 1 : Nat) : Int) := by omega
  refine ⟨_, rfl, _, rfl, _, _, rfl, rfl, _, rfl, t, xs, rfl, s1 _ _ ht, fun p2 H2 s2 hc2 _ => ?_⟩
  rw [next_, cut_from] at hc2
  refine ⟨p1, p2, _, _, rfl, rfl, s2 _ _ hc1, hc2, sz (by rw [List.length_take, List.length_drop]; omega), fun r H3 s3 hr3 _ => ?_⟩
  have T := s1.trans (s2.trans s3)
  have hes : RpAll av H3 (xs.take i ++ xs.drop (i + 1)) (ds.take i ++ ds.drop (i + 1)) := ((hx.take i).app (hx.drop (i + 1))).mono (Ext.of_same T)
  generalize ds.take i ++ ds.drop (i + 1) = es at hes q
  have les : es.length ≤ 1000 := by
    have z := hes.len
    rw [List.length_append, List.length_take, List.length_drop] at z
    omega
  generalize xs.take i ++ xs.drop (i + 1) = ys at hes hr3
  refine ⟨r, rfl, ⟨_, SqT.of hr3⟩, fun D hD => ?_⟩
  refine lc_tup (K := K) (a := r) (xs := ys) (fun j H' => Same H3 H' ∧ ∃ ws : List V, H' D = some (.lst ws) ∧ ws.length ≤ j ∧ decide (ws = []) = (es.take j).all wordB) ?_ ?_ ?_ ?_
  · exact ⟨same_new hD _, [], upd_same, Nat.le_refl _, rfl⟩
  · rintro j H' _ ⟨e, _⟩
    exact SqT.of (e _ _ hr3)
  · rintro j x H' hj ⟨e, ws, hl, lw, ew⟩
    obtain ⟨dj, hdj, rj⟩ := hes.at hj
    have hj2 : j < es.length := (List.getElem?_eq_some_iff.mp hdj).1
    refine ⟨rfl, ?_⟩
    refine ⟨_, rfl, (by show 3 ≤ sizeLine; decide), fun p hp => ⟨av, dj, p, zsW, (rj.mono (Ext.of_same e)).mono (Ext.of_same (same_new hp _)), rfl, SqT.of upd_same, _, rfl, ?_⟩⟩
    have s5 : Same H' (upd H' p (.tup [.str "stand", .str "bow", .str "even"])) := same_new hp _
    have hl5 := s5 _ _ hl
    have e5 := e.trans s5
    have eb : (true != zsW.any (eqS dj)) = !wordB dj := by
      show (true != wordB dj) = _
      cases wordB dj <;> rfl
    by_cases c3 : wordB dj = true
    · refine iteZ (by rw [eb, c3]; decide) ?_
      refine ⟨e5, ws, hl5, by omega, ?_⟩
      rw [all_snoc hdj, c3, Bool.and_true]
      exact ew
    · have c4 : wordB dj = false := by simpa using c3
      refine iteY (by rw [eb, c4]; rfl) ?_
      refine ⟨_, rfl, ws, hl5, szlt (by omega), same_upd e5 hD _, ws ++ [x], upd_same, by rw [List.length_append, List.length_singleton]; omega, ?_⟩
      rw [all_snoc hdj, c4, Bool.and_false]
      exact decide_eq_false (by simp)
  rintro H4 ⟨e4, ws, hl, lw, ew⟩
  rw [List.take_of_length_le (by have := hes.len; omega)] at ew
  refine ⟨_, rfl, Nat.zero_le _, fun p hp => ⟨D, p, ws, rfl, rfl, SqL.of (same_new hp _ _ _ hl), SqL.of upd_same, _, rfl, ?_⟩⟩
  have s5 := same_new hp (.lst [])
  have T5 := T.trans (e4.trans s5)
  have ht5 := T5 _ _ ht
  have r15 := r1.mono (Ext.of_same T5)
  rw [ew]
  have eb : (false != es.all wordB) = es.all wordB := by cases es.all wordB <;> rfl
  rw [eb]
  generalize upd H4 p (.lst []) = H5 at T5 ht5 r15
  by_cases c3 : es.all wordB = true
  case neg =>
    have c4 : es.all wordB = false := by simpa using c3
    rw [c4, Bool.and_false] at q
    refine iteZ c3 ?_
    exact q _ T5
  refine iteY c3 ?_
  rw [c3, Bool.and_true] at q
  refine ⟨_, rfl, _, rfl, t, xs, _, _, rfl, rfl, SqT.of ht5, atI_nat gx, av, _, d1, rfl, r15, _, rfl, ?_⟩
  by_cases c5 : isT "str" d1 = true
  case neg =>
    have e : eqS d1 "-" = false := by
      cases d1 with
      | str z => exact absurd rfl c5
      | _ => rfl
    have c6 : isT "str" d1 = false := by simpa using c5
    rw [e] at q
    refine iteZ c5 ?_
    exact q _ T5
  refine iteY c5 ?_
  obtain ⟨z, rfl⟩ : ∃ z, d1 = .str z := by
    cases d1 with
    | str z => exact ⟨z, rfl⟩
    | _ => simp [isT, clsOf, isC] at c5
  refine ⟨_, rfl, _, rfl, t, xs, _, _, rfl, rfl, SqT.of ht5, atI_nat (gx.trans (by rw [r1.get_str])), rfl, ?_⟩
  have ez : decide (V.str z = V.str "-") = eqS (.str z) "-" := by
    show _ = (("-" : Str) == z)
    by_cases h : z = "-"
    · subst h
      rw [decide_eq_true rfl]
      exact (beq_self_eq_true _).symm
    · rw [decide_eq_false fun y => h (V.str.inj y), beq_eq_false_iff_ne.mpr fun y => h y.symm]
  show Q (V.bl (decide (V.str z = V.str "-"))) H5
  rw [ez]
  exact q _ T5
end
end Rw
namespace Rw
open PySem L2
theorem whole_int {l m : Int} {d : PyData} (h : wholeB l m d = true) : isIntB d = true := by
  cases d <;> first | rfl | cases h
theorem orderB_whole {n i : Nat} {d : PyData} (h : orderB n i d = true) : ∃ ns : List Int, d = .tuple (ns.map PyData.int) ∧ ns.isPerm (others n i) = true ∧ (ns.map PyData.int).all (wholeB 0 ((n : Int) - 1)) = true := by
  cases d with
  | tuple ds =>
    have e' : (match intsOf ds with | some ns => ns.isPerm (others n i) | none => false) = true := h
    cases e2 : intsOf ds with
    | none =>
      rw [e2] at e'
      cases e'
    | some ns =>
      rw [e2] at e'
      refine ⟨ns, by rw [all_of_intsOf e2], e', ?_⟩
      rw [List.all_map, List.all_eq_true]
      intro x hx
      have hm := (List.isPerm_iff.mp e').mem_iff.mp hx
      have h2 := others_mem hm
      show (decide (0 ≤ x) && decide (x ≤ (n : Int) - 1)) = true
      rw [decide_eq_true h2.1, decide_eq_true (by omega)]
      rfl
  | _ => cases h
section
variable {P : Program} {w : World} {K : PySem.W.Frag} {mg : Str → Option Value} {base : Heap} {f : Addr} {fd : FuncData}
theorem scLawOrder : FnScope ["hands", "i", "row", "own"] ["hands", "i", "row"] (defScope sLawOrder) := ⟨rfl, rfl, rfl, by decide +kernel, rfl, by decide +kernel, by decide +kernel⟩
theorem ok_lawOrder (F : Fun K "_law_is_order" "_law_is_order" sLawOrder f fd) (B : Blt mg) (C : Blt2 mg) (DW : Dfn P w K mg base "_law_whole" ["value", "least", "most"] 1 spWhole) : FnOk P w K mg base CX0 2 f fd ["hands", "i", "row"] spOrder := by
  refine F.ok scLawOrder (fun vs H Q E h => ?_) (fun cdv A outer s H vs Q E hr h => ?_)
  · obtain ⟨_, _, _, _, _, rfl, _⟩ := h
    rfl
  obtain ⟨av, v, d, n, i, rfl, hd, hin, hn, wd, q⟩ := h
  have nd := scLawOrder.nd
  have hu64 : (A.deeper (PyProof.Rows.envOfC "_law_is_order" (defScope sLawOrder) s.heap.objs.size f cdv)).units + 64 < cLine := by
    have := hr.un
    omega
  have hu0 : (A.deeper (PyProof.Rows.envOfC "_law_is_order" (defScope sLawOrder) s.heap.objs.size f cdv)).units < cLine := by omega
  refine ⟨_, pss_cons (ps_if (PW.pt (pw_or (pt_not (pt_val (pe_isi (n := "tuple") (by simp) (pv 2) B.isi B.tup bt_tuple))) (pw_or1 (pt_cmpR (r := rNoneL K true) (op_neNone hu0)
      (pe_lc (own := [("own", 3)]) (g := gName 3) (tt := _) rfl nd (pi_tup (pv 2)) (blkOk_by (N := ["hands", "i", "row", "own"]) (sc := defScope sLawOrder) (by decide +kernel)) (fun _ _ _ _ _ => pg_name (i := 3) nd rfl (Or.inl rfl))
        (fun _ _ _ _ _ => pts_one (pt_not (pt_val (pe_own DW hr (pa_cons (pv 3) (pa_cons pe_int (pa_cons (pe_op op_sub (pv 0) pe_int) pa_nil))))))) (fun _ _ _ _ _ => pv 3)) (pe_lst pa_nil) (nomark _))))) (pss_one (ps_ret pe_bl)) pss_nil)
    (pss_one (ps_ret (pe_cmpR (op_eqD hu64) (pe_callB call_sortT (by rfl) C.sorted (by decide +kernel) (pa_cons (pv 2) pa_nil))
      (pe_lc (own := [("own", 3)]) (g := gName 3) (tt := _) rfl nd (pi_range1 (by rfl) B.rng (pa_cons (pv 0) pa_nil)) (blkOk_by (N := ["hands", "i", "row", "own"]) (sc := defScope sLawOrder) (by decide +kernel)) (fun _ _ _ _ _ => pg_name (i := 3) nd rfl (Or.inl rfl)) (fun _ _ _ _ _ => pts_one (pt_cmpR op_ne (pv 3) (pv 1) (nomark _))) (fun _ _ _ _ _ => pv 3)) (nomark _)))), ?_⟩
  have no : ¬ (∃ ds, d = .tuple ds ∧ ds.all (wholeB 0 ((n : Int) - 1)) = true) → orderB n i d = false := fun z => by
    cases e : orderB n i d with
    | false => rfl
    | true =>
      obtain ⟨ns, rfl, _, h2⟩ := orderB_whole e
      exact absurd ⟨_, rfl, h2⟩ z
  refine ⟨_, rfl, av, v, d, rfl, hd, _, rfl, ?_⟩
  by_cases c0 : isT "tuple" d = true
  case neg =>
    refine iteY (by simpa using c0) ?_
    refine iteT (B := True) ?_
    rw [no fun ⟨ds, e, _⟩ => c0 (isT_tup.mpr ⟨ds, e⟩)] at q
    exact q H (Same.refl _)
  obtain ⟨ds, rfl⟩ := isT_tup.mp c0
  refine iteZ (by simpa using c0) ?_
  obtain ⟨t, xs, rfl, _, ht, hx⟩ := hd.get_tup
  have lx := hx.len
  have ld : ds.length ≤ 600000 := by
    have := wA_len ds
    simp only [PyData.weight] at wd
    omega
  refine ⟨_, rfl, t, rfl, ⟨_, SqT.of ht⟩, fun D hD => ?_⟩
  refine lc_tup (K := K) (a := t) (xs := xs) (fun j H' => Same H H' ∧ ∃ ws : List V, H' D = some (.lst ws) ∧ ws.length ≤ j ∧ decide (ws = []) = (ds.take j).all (wholeB 0 ((n : Int) - 1))) ?_ ?_ ?_ ?_
  · exact ⟨same_new hD _, [], upd_same, Nat.le_refl _, rfl⟩
  · rintro j H' _ ⟨e, _⟩
    exact SqT.of (e _ _ ht)
  · rintro j x H' hj ⟨e, ws, hl, lw, ew⟩
    obtain ⟨dj, hdj, rj⟩ := hx.at hj
    have hj2 : j < ds.length := (List.getElem?_eq_some_iff.mp hdj).1
    refine ⟨rfl, ?_⟩
    refine ⟨_, rfl, _, rfl, _, _, rfl, rfl, av, x, dj, 0, (n : Int) - 1, rfl, rj.mono (Ext.of_same e), _, rfl, ?_⟩
    by_cases c3 : wholeB 0 ((n : Int) - 1) dj = true
    · refine iteZ (by rw [c3]; decide) ?_
      refine ⟨e, ws, hl, by omega, ?_⟩
      rw [all_snoc hdj, c3, Bool.and_true]
      exact ew
    · have c4 : wholeB 0 ((n : Int) - 1) dj = false := by simpa using c3
      refine iteY (by rw [c4]; rfl) ?_
      refine ⟨_, rfl, ws, hl, szlt (by omega), same_upd e hD _, ws ++ [x], upd_same, by rw [List.length_append, List.length_singleton]; omega, ?_⟩
      rw [all_snoc hdj, c4, Bool.and_false]
      exact decide_eq_false (by simp)
  rintro H1 ⟨e1, ws, hl, lw, ew⟩
  rw [List.take_of_length_le (by omega)] at ew
  refine ⟨Nat.zero_le _, fun p0 hp0 => ⟨D, p0, ws, rfl, rfl, SqL.of (same_new hp0 _ _ _ hl), SqL.of upd_same, _, rfl, ?_⟩⟩
  have s0 := same_new hp0 (.lst [])
  generalize upd H1 p0 (.lst []) = H0 at s0
  rw [ew]
  have e10 := e1.trans s0
  by_cases c2 : ds.all (wholeB 0 ((n : Int) - 1)) = true
  case neg =>
    have c4 : ds.all (wholeB 0 ((n : Int) - 1)) = false := by simpa using c2
    refine iteY (by rw [c4]; rfl) ?_
    rw [no fun ⟨ds', e, h⟩ => by cases e; exact c2 h] at q
    exact q _ e10
  refine iteZ (by rw [c2]; decide) ?_
  obtain ⟨ns, rfl⟩ := ints_of_all (ds := ds) (List.all_eq_true.mpr fun x hx => whole_int (List.all_eq_true.mp c2 x hx))
  have hxs := hx.back
  subst hxs
  rw [List.length_map] at ld
  refine ⟨_, rfl, t, ns, rfl, SqT.of (e10 _ _ ht), sz ld, fun ms p pm pw hp => ?_⟩
  have s2 : Same H0 (upd H0 p (.lst (ms.map V.int))) := same_new hp _
  have hm : upd H0 p (.lst (ms.map V.int)) p = some (.lst (ms.map V.int)) := upd_same
  generalize upd H0 p (.lst (ms.map V.int)) = H2 at s2 hm
  refine ⟨_, rfl, _, rfl, by omega, by omega, fun D2 hD2 => ?_⟩
  refine lc_range (lo := 0) (n := n) (fun j H' => Same H2 H' ∧ H' D2 = some (.lst ((others j i).map V.int))) ?_ ?_ ?_
  · exact ⟨same_new hD2 _, upd_same⟩
  · rintro j H' hj ⟨e, hl2⟩
    refine ⟨rfl, ?_⟩
    refine ⟨_, rfl, _, rfl, rfl, _, rfl, ?_⟩
    have lo : (others j i).length ≤ j := by
      rw [others_len2]
      split <;> omega
    by_cases c3 : j = i
    · refine iteZ ?_ ?_
      · subst c3
        simp
      · refine ⟨e, ?_⟩
        rw [others_step, if_neg fun z => z c3, List.append_nil]
        exact hl2
    · refine iteY ?_ ?_
      · have z : ¬ V.int (0 + (j : Nat)) = V.int (i : Nat) := fun z => c3 (by have := V.int.inj z; omega)
        rw [decide_eq_false z]
        rfl
      · refine ⟨_, rfl, _, hl2, szlt (by rw [List.length_map]; omega), same_upd e hD2 _, ?_⟩
        rw [upd_same, others_step, if_pos c3, List.map_append]
        show some (HO.lst (_ ++ [V.int (0 + (j : Nat))])) = some (HO.lst (_ ++ [V.int (j : Nat)]))
        rw [Int.zero_add]
  rintro H3 ⟨e3, hl3⟩
  have T := e10.trans (s2.trans e3)
  have D1 : Dp K H3 (.ref p) (.list (ms.map PyData.int)) := .lst (SqL.of (e3 _ _ hm)) (dp_ints _)
  refine ⟨.list (ms.map PyData.int), .list ((others n i).map PyData.int), D1, .lst (SqL.of hl3) (dp_ints _), shaped_ints _, shaped_ints _, ?_⟩
  rw [eqv_ints, others_eq pm pw]
  have eo : orderB n i (.tuple (ns.map PyData.int)) = ns.isPerm (others n i) := by
    show (match intsOf (ns.map PyData.int) with | some ns => ns.isPerm (others n i) | none => false) = _
    rw [intsOf_map]
  rw [eo] at q
  exact q H3 T
end
end Rw
namespace Rw
open PySem L2
abbrev sFault : Stmt := top 42
theorem evenE_none {ts : List PyData} {n : Nat} (hn : ts.length = n) (h : evOut ts n n 0 = none) : evenE ts = .none := by
  unfold evenE
  rw [hn, h]
  rfl
section
variable {P : Program} {w : World} {K : PySem.W.Frag} {mg : Str → Option Value} {base : Heap} {f : Addr} {fd : FuncData}
theorem scFault : FnScope ["hands", "value", "table", "orders", "i", "row", "j", "own"] ["hands", "value"] (defScope sFault) := ⟨rfl, rfl, rfl, by decide +kernel, rfl, by decide +kernel, by decide +kernel⟩
theorem ok_fault (F : Fun K "_law_door_fault" "_law_door_fault" sFault f fd) (B : Blt mg) (DR : Dfn P w K mg base "_law_is_row" ["hands", "i", "row"] 1 spRow) (DO : Dfn P w K mg base "_law_is_order" ["hands", "i", "row"] 2 spOrder) : FnOk P w K mg base CX0 3 f fd ["hands", "value"] spDoorE := by
  refine F.ok scFault (fun vs H Q E h => ?_) (fun cdv A outer s H vs Q E hr h => ?_)
  · obtain ⟨_, _, _, _, rfl, _⟩ := h
    rfl
  obtain ⟨av, v, d, n, rfl, hd, hn, wd, q⟩ := h
  have nd := scFault.nd
  have hr1 : Room 1 (A.deeper (PyProof.Rows.envOfC "_law_door_fault" (defScope sFault) s.heap.objs.size f cdv)) := hr.mono (by omega)
  have hu0 : (A.deeper (PyProof.Rows.envOfC "_law_door_fault" (defScope sFault) s.heap.objs.size f cdv)).units < cLine := by
    have := hu_of hr
    omega
  refine ⟨_, pss_cons (ps_if (PW.pt (pw_or (pt_not (pt_val (pe_isi (n := "tuple") (by simp) (pv 1) B.isi B.tup bt_tuple))) (pw_or (pt_cmpR op_ne (pe_callB call_len_seq (by rfl) B.len PySem.boot_len (pa_cons (pv 1) pa_nil)) pe_int (nomark _)) (pw_or1 (pt_cmpR (r := rNoneL K true) (op_neNone hu0)
      (pe_lc (own := [("own", 7)]) (g := gName 7) (tt := tNot (tB (tCB (rIsD K "tuple") (tCons (tVar 7) (tCons (tC (.ty "tuple")) tNil))))) rfl nd (pi_tup (pv 1)) (blkOk_by (N := ["hands", "value", "table", "orders", "i", "row", "j", "own"]) (sc := defScope sFault) (by decide +kernel)) (fun _ _ _ _ _ => pg_name (i := 7) nd rfl (Or.inl rfl))
        (fun _ _ _ _ _ => by exact pts_one (pt_not (pt_val (pe_isi (n := "tuple") (by simp) (pv 7) B.isi B.tup bt_tuple)))) (fun _ _ _ _ _ => pv 7)) (pe_lst pa_nil) (nomark _)))))) (pss_one (ps_ret pe_str)) pss_nil)
    (pss_cons (ps_asg (pv 1) (pg_tup rfl (pgs_cons (pg_name (i := 2) nd rfl (Or.inl rfl)) (pgs_cons (pg_name (i := 3) nd rfl (Or.inl rfl)) pgs_nil))))
    (pss_cons (ps_if (pt_cmpR op_ne (pe_callB call_len_seq (by rfl) B.len PySem.boot_len (pa_cons (pv 2) pa_nil)) (pv 0) (nomark _)) (pss_one (ps_ret pe_str)) pss_nil)
    (pss_cons (ps_for PassesOwn.never rfl (pi_enumT (by rfl) B.enu (pa_cons (pv 2) pa_nil)) (pg_tup rfl (pgs_cons (pg_name (i := 4) nd rfl (Or.inl rfl)) (pgs_cons (pg_name (i := 5) nd rfl (Or.inl rfl)) pgs_nil)))
      (pss_one (ps_if (pt_not (pt_val (pe_own DR hr1 (pa_cons (pv 0) (pa_cons (pv 4) (pa_cons (pv 5) pa_nil)))))) (pss_one (ps_ret (pe_tup (pa_cons pe_str (pa_cons (pv 4) pa_nil))))) pss_nil)))
    (pss_cons (ps_for PassesOwn.never rfl (pi_range1 (by rfl) B.rng (pa_cons (pv 0) pa_nil)) (pg_name (i := 4) nd rfl (Or.inl rfl))
      (pss_one (ps_for PassesOwn.never rfl (pi_range2 (by rfl) B.rng (pa_cons (pe_op op_add (pv 4) pe_int) (pa_cons (pv 0) pa_nil))) (pg_name (i := 6) nd rfl (Or.inl rfl))
        (pss_one (ps_if (pt_cmpR op_ne (pe_cmpR op_eq (pe_ix ix_tup (pe_ix ix_tup (pv 2) (pv 4) (fun _ _ => rfl)) (pv 6) (fun _ _ => rfl)) pe_str (nomark _)) (pe_cmpR op_eq (pe_ix ix_tup (pe_ix ix_tup (pv 2) (pv 6) (fun _ _ => rfl)) (pv 4) (fun _ _ => rfl)) pe_str (nomark _)) (nomark _))
          (pss_one (ps_ret (pe_tup (pa_cons pe_str (pa_cons (pv 4) (pa_cons (pv 6) pa_nil)))))) pss_nil)))))
    (pss_cons (ps_if (pt_cmpR op_ne (pe_callB call_len_seq (by rfl) B.len PySem.boot_len (pa_cons (pv 3) pa_nil)) (pv 0) (nomark _)) (pss_one (ps_ret pe_str)) pss_nil)
    (pss_cons (ps_for PassesOwn.never rfl (pi_enumT (by rfl) B.enu (pa_cons (pv 3) pa_nil)) (pg_tup rfl (pgs_cons (pg_name (i := 4) nd rfl (Or.inl rfl)) (pgs_cons (pg_name (i := 5) nd rfl (Or.inl rfl)) pgs_nil)))
      (pss_one (ps_if (pt_not (pt_val (pe_own DO hr (pa_cons (pv 0) (pa_cons (pv 4) (pa_cons (pv 5) pa_nil)))))) (pss_one (ps_ret (pe_tup (pa_cons pe_str (pa_cons (pv 4) pa_nil))))) pss_nil)))
    (pss_one (ps_ret pe_non)))))))), ?_⟩
  have form : ∀ {H' : Hp}, Same H H' → ¬ pairT d = true → Q (.str "form") H' := fun s1 c => by
    rw [doorE_form c] at q
    exact q _ _ s1 (.str _)
  refine ⟨_, rfl, av, v, d, rfl, hd, _, rfl, ?_⟩
  by_cases c0 : isT "tuple" d = true
  case neg =>
    refine iteY (by simpa using c0) ?_
    refine iteT (B := True) ?_
    exact form (Same.refl _) fun z => by
      obtain ⟨ts, os, e⟩ := pairT_of z
      exact c0 (isT_tup.mpr ⟨_, e⟩)
  obtain ⟨ds, rfl⟩ := isT_tup.mp c0
  refine iteZ (by simpa using c0) ?_
  obtain ⟨t, xs, rfl, _, ht, hx⟩ := hd.get_tup
  have lx := hx.len
  refine ⟨_, rfl, t, xs, rfl, .inr (SqT.of ht), rfl, _, rfl, ?_⟩
  by_cases c1 : ds.length = 2
  case neg =>
    refine iteY (by have := hx.len; simp; omega) ?_
    refine iteT (B := True) ?_
    exact form (Same.refl _) fun z => by
      obtain ⟨ts, os, e⟩ := pairT_of z
      cases e
      exact c1 rfl
  refine iteZ (by have := hx.len; simp; omega) ?_
  refine ⟨_, rfl, t, rfl, ⟨_, SqT.of ht⟩, fun D hD => ?_⟩
  refine lc_tup (K := K) (a := t) (xs := xs) (fun j H' => Same H H' ∧ ∃ ws : List V, H' D = some (.lst ws) ∧ ws.length ≤ j ∧ decide (ws = []) = (ds.take j).all (isT "tuple")) ?_ ?_ ?_ ?_
  · exact ⟨same_new hD _, [], upd_same, Nat.le_refl _, rfl⟩
  · rintro j H' _ ⟨e, _⟩
    exact SqT.of (e _ _ ht)
  · rintro j x H' hj ⟨e, ws, hl, lw, ew⟩
    obtain ⟨dj, hdj, rj⟩ := hx.at hj
    have hj2 : j < ds.length := (List.getElem?_eq_some_iff.mp hdj).1
    refine ⟨rfl, ?_⟩
    refine ⟨_, rfl, av, x, dj, rfl, rj.mono (Ext.of_same e), _, rfl, ?_⟩
    by_cases c3 : isT "tuple" dj = true
    · refine iteZ (by rw [c3]; decide) ?_
      refine ⟨e, ws, hl, by omega, ?_⟩
      rw [all_snoc hdj, c3, Bool.and_true]
      exact ew
    · have c4 : isT "tuple" dj = false := by simpa using c3
      refine iteY (by rw [c4]; rfl) ?_
      refine ⟨_, rfl, ws, hl, szlt (by omega), same_upd e hD _, ws ++ [x], upd_same, by rw [List.length_append, List.length_singleton]; omega, ?_⟩
      rw [all_snoc hdj, c4, Bool.and_false]
      exact decide_eq_false (by simp)
  rintro H1 ⟨e1, ws, hl, lw, ew⟩
  rw [List.take_of_length_le (by omega)] at ew
  refine ⟨Nat.zero_le _, fun p0 hp0 => ⟨D, p0, ws, rfl, rfl, SqL.of (same_new hp0 _ _ _ hl), SqL.of upd_same, _, rfl, ?_⟩⟩
  have s0 := same_new hp0 (.lst [])
  generalize upd H1 p0 (.lst []) = H0 at s0
  rw [ew]
  have e10 := e1.trans s0
  by_cases c2 : ds.all (isT "tuple") = true
  case neg =>
    have c4 : ds.all (isT "tuple") = false := by simpa using c2
    refine iteY (by rw [c4]; rfl) ?_
    exact form e10 fun z => by
      obtain ⟨ts, os, e⟩ := pairT_of z
      cases e
      exact c2 rfl
  refine iteZ (by rw [c2]; decide) ?_
  have cp : pairT (.tuple ds) = true := by
    show (decide (ds.length = 2) && ds.all (isT "tuple")) = true
    rw [decide_eq_true c1, c2]
    rfl
  clear form
  obtain ⟨ts, os, ee⟩ := pairT_of cp
  cases ee
  cases hx with
  | cons r1 r2 =>
  cases r2 with
  | cons r2 r3 =>
  cases r3
  have eD : doorE n (.tuple [.tuple ts, .tuple os]) = if isNone (tableE n ts) = true then ordersE n os else tableE n ts := rfl
  rw [eD] at q
  replace q := Gives.ext q e10
  have r1 := r1.mono (Ext.of_same e10)
  have r2 := r2.mono (Ext.of_same e10)
  have ht := e10 _ _ ht
  clear e10 s0 e1 ew hl hD hp0 hd
  have wo : PyData.weightAll os ≤ 600000 := by
    simp only [PyData.weight, PyData.weightAll] at wd
    omega
  refine ⟨_, rfl, t, _, rfl, SqT.of ht, rfl, _, _, rfl, _, _, rfl, rfl, ?_⟩
  obtain ⟨ta, ys, rfl, _, hta, hys⟩ := r1.get_tup
  obtain ⟨oa, zs, rfl, _, hoa, hzs⟩ := r2.get_tup
  have ly := hys.len
  have lz := hzs.len
  refine ⟨_, rfl, ta, ys, rfl, .inr (SqT.of hta), _, rfl, rfl, _, rfl, ?_⟩
  by_cases c : ts.length = n
  case neg =>
    refine iteY (len_ne.trans (by rw [decide_eq_false (by omega)]; rfl)) ?_
    have e : tableE n ts = .str "rows" := if_neg c
    rw [e] at q
    exact q _ _ (Same.refl _) (.str _)
  have eT : tableE n ts = match badP (rowB n) 0 ts with
    | some k => .tuple [.str "row", .int (k : Nat)]
    | none => evenE ts := if_pos c
  refine iteZ (fun z => by rw [len_ne, decide_eq_true (by omega)] at z; cases z) ?_
  refine ⟨_, rfl, ta, ys, rfl, SqT.of hta, for_it (walk_enumT (K := K) (a := ta) (xs := ys)) (fun i σ H' => ∃ (v4 v5 v6 v7 : Option V), σ = [some (.int (n : Nat)), some (.ref t), some (.ref ta), some (.ref oa), v4, v5, v6, v7] ∧ Same H0 H' ∧ badP (rowB n) i (ts.drop i) = badP (rowB n) 0 ts) ⟨_, _, _, _, rfl, Same.refl _, rfl⟩ ?_ ?_ ?_⟩
  · rintro i σ H' _ ⟨_, _, _, _, _, s1, _⟩
    exact SqT.of (s1 _ _ hta)
  · rintro i x σ H1 H2 hi ⟨v4, v5, v6, v7, rfl, s1, hb1⟩ ⟨T, x1, y, rfl, hT, rfl, e1, hy⟩
    cases (Option.some.inj e1)
    obtain ⟨d, hdi, hry⟩ := hys.at hy
    have s2 : Same H0 (upd H1 T (.tup [.int (i : Nat), y])) := s1.trans (same_new hT _)
    rw [drop_at hdi, badP_cons] at hb1
    refine ⟨T, _, rfl, SqT.of upd_same, rfl, _, _, rfl, _, _, rfl, rfl, ?_⟩
    generalize upd H1 T (.tup [.int (i : Nat), y]) = H3 at s2
    refine ⟨_, rfl, _, rfl, _, rfl, av, y, d, n, i, rfl, hry.mono (Ext.of_same s2), by omega, hn, fun H4 s3 => ⟨_, rfl, ?_⟩⟩
    have s4 := s2.trans s3
    by_cases c2 : rowB n i d = true
    · refine iteZ (by simpa using c2) ?_
      rw [if_pos c2] at hb1
      exact ⟨_, _, _, _, rfl, s4, hb1⟩
    · refine iteY (by simpa using c2) ?_
      rw [if_neg c2] at hb1
      rw [eT, ← hb1] at q
      refine ⟨_, rfl, (by show 2 ≤ sizeLine; decide), fun p hp => ?_⟩
      exact Gives.pair q s4 hp
  rintro σ H1 ⟨v4, v5, v6, v7, rfl, s1, hb1⟩
  rw [ly, List.drop_length, badP_nil] at hb1
  rw [eT, ← hb1] at q
  have ok : RowsOk ts := fun i d hi => by
    have z := badP_none hb1.symm i d hi
    rw [Nat.zero_add] at z
    rw [c]
    exact z
  replace q := Gives.ext q s1
  have hta := s1 _ _ hta
  have hoa := s1 _ _ hoa
  have hys := hys.mono (Ext.of_same s1)
  have hzs := hzs.mono (Ext.of_same s1)
  clear eT hb1
  subst c
  refine ⟨_, rfl, _, rfl, by omega, by omega, ?_⟩
  refine for_it (walk_range (lo := 0) (n := ts.length)) (fun i σ H' => H' = H1 ∧ (∃ (v4 v5 v6 v7 : Option V), σ = [some (.int (ts.length : Nat)), some (.ref t), some (.ref ta), some (.ref oa), v4, v5, v6, v7]) ∧ evOut ts ts.length (ts.length - i) i = evOut ts ts.length ts.length 0) ⟨rfl, ⟨_, _, _, _, rfl⟩, rfl⟩ (fun _ _ _ _ _ => trivial) ?_ ?_
  · rintro i x σ H2 H3 hi ⟨rfl, ⟨_, _, _, _, rfl⟩, hev⟩ ⟨rfl, ex⟩
    have ex : x = V.int (i : Nat) := by
      rw [ex]
      show V.int (0 + (i : Nat)) = _
      rw [Int.zero_add]
    subst ex
    have hk : ts.length - i = (ts.length - (i + 1)) + 1 := by omega
    rw [hk] at hev
    refine ⟨_, rfl, _, _, rfl, rfl, ?_⟩
    refine ⟨_, rfl, _, _, rfl, ⟨by omega, by omega, by omega, by omega⟩, ?_⟩
    refine for_it (walk_range (lo := (i : Int) + 1) (n := (((ts.length : Nat) : Int) - ((i : Int) + 1)).toNat)) (fun k σ H' => H' = H3 ∧ (∃ v5 v6 v7 : Option V, σ = [some (.int (ts.length : Nat)), some (.ref t), some (.ref ta), some (.ref oa), some (.int (i : Nat)), v5, v6, v7]) ∧ evIn ts i (ts.length - (i + 1) - k) (i + 1 + k) = evIn ts i (ts.length - (i + 1)) (i + 1)) ⟨rfl, ⟨_, _, _, rfl⟩, rfl⟩ (fun _ _ _ _ _ => trivial) ?_ ?_
    · rintro k y σ H4 H5 hk2 ⟨rfl, ⟨_, _, _, rfl⟩, hin⟩ ⟨rfl, ey⟩
      have ey : y = V.int ((i + 1 + k : Nat) : Int) := by
        rw [ey]
        show V.int ((i : Int) + 1 + (k : Nat)) = _
        congr 1
      subst ey
      have hj : i + 1 + k < ts.length := by omega
      generalize hjj : i + 1 + k = j at hj hin
      obtain ⟨a1, y1, z1, g1, b1, c1, d1⟩ := cell_at hys ok hi hj
      obtain ⟨a2, y2, z2, g2, b2, c2, d2⟩ := cell_at hys ok hj hi
      have hk3 : ts.length - (i + 1) - k = (ts.length - (i + 1) - (k + 1)) + 1 := by omega
      rw [hk3] at hin
      refine ⟨_, rfl, _, rfl, ta, ys, _, _, rfl, rfl, SqT.of hta, atI_nat g1, _, rfl, a1, y1, _, _, rfl, rfl, SqT.of b1, atI_nat c1, rfl, _, rfl, _, rfl, ta, ys, _, _, rfl, rfl, SqT.of hta, atI_nat g2, _, rfl, a2, y2, _, _, rfl, rfl, SqT.of b2, atI_nat c2, rfl, rfl, _, rfl, ?_⟩
      have eb : (!decide (V.bl (decide (V.str z1 = V.str "even")) = V.bl (decide (V.str z2 = V.str "even")))) = (cellE ts i j != cellE ts j i) := by
        rw [d1, d2]
        cases cellE ts i j <;> cases cellE ts j i <;> rfl
      by_cases c3 : (cellE ts i j != cellE ts j i) = true
      · rw [evIn_succ, if_pos c3] at hin
        refine iteY (eb.trans c3) ?_
        refine ⟨_, rfl, _, rfl, (by show 3 ≤ sizeLine; decide), fun p hp => ?_⟩
        have e : evenE ts = .tuple [.str "even", .int (i : Nat), .int (j : Nat)] := by
          unfold evenE
          rw [← hev, evOut_succ, ← hin]
          rfl
        rw [e] at q
        exact Gives.three q (Same.refl _) hp
      · rw [evIn_succ, if_neg c3] at hin
        refine iteZ (fun z => c3 (eb.symm.trans z)) ?_
        refine ⟨rfl, ⟨_, _, _, rfl⟩, ?_⟩
        rw [← hin, ← hjj]
        rfl
    · rintro σ H4 ⟨rfl, ⟨_, _, _, rfl⟩, hin⟩
      have z0 : ts.length - (i + 1) - (((ts.length : Nat) : Int) - ((i : Int) + 1)).toNat = 0 := by omega
      rw [z0] at hin
      refine ⟨rfl, ⟨_, _, _, _, rfl⟩, ?_⟩
      rw [← hev, evOut_succ, ← hin]
      rfl
  rintro σ H2 ⟨rfl, ⟨_, _, _, _, rfl⟩, hev⟩
  rw [Nat.sub_self] at hev
  rw [evenE_none rfl hev.symm] at q
  replace q : Gives (ordersE ts.length os) H2 Q := q
  refine ⟨_, rfl, oa, zs, rfl, .inr (SqT.of hoa), _, rfl, rfl, _, rfl, ?_⟩
  by_cases c3 : os.length = ts.length
  case neg =>
    refine iteY (len_ne.trans (by rw [decide_eq_false (by omega)]; rfl)) ?_
    have e : ordersE ts.length os = .str "orders" := if_neg c3
    rw [e] at q
    exact q _ _ (Same.refl _) (.str _)
  have eT := ordersE_nil ts.length os c3
  refine iteZ (fun z => by rw [len_ne, decide_eq_true (by omega)] at z; cases z) ?_
  refine ⟨_, rfl, oa, zs, rfl, SqT.of hoa, for_it (walk_enumT (K := K) (a := oa) (xs := zs)) (fun i σ H' => ∃ (v4 v5 v6 v7 : Option V), σ = [some (.int (ts.length : Nat)), some (.ref t), some (.ref ta), some (.ref oa), v4, v5, v6, v7] ∧ Same H2 H' ∧ badP (orderB ts.length) i (os.drop i) = badP (orderB ts.length) 0 os) ⟨_, _, _, _, rfl, Same.refl _, rfl⟩ ?_ ?_ ?_⟩
  · rintro i σ H' _ ⟨_, _, _, _, _, s1, _⟩
    exact SqT.of (s1 _ _ hoa)
  · rintro i x σ H3 H4 hi ⟨v4, v5, v6, v7, rfl, s2, hb1⟩ ⟨T, x1, y, rfl, hT, rfl, e1, hy⟩
    cases (Option.some.inj e1)
    obtain ⟨d, hdi, hry⟩ := hzs.at hy
    have s3 : Same H2 (upd H3 T (.tup [.int (i : Nat), y])) := s2.trans (same_new hT _)
    rw [drop_at hdi, badP_cons] at hb1
    refine ⟨T, _, rfl, SqT.of upd_same, rfl, _, _, rfl, _, _, rfl, rfl, ?_⟩
    generalize upd H3 T (.tup [.int (i : Nat), y]) = H5 at s3
    have wdd : d.weight ≤ 600000 := by
      have := wA_mem (List.mem_of_getElem? hdi)
      omega
    refine ⟨_, rfl, _, rfl, _, rfl, av, y, d, ts.length, i, rfl, hry.mono (Ext.of_same s3), by omega, hn, wdd, fun H6 s4 => ⟨_, rfl, ?_⟩⟩
    have s5 := s3.trans s4
    by_cases c2 : orderB ts.length i d = true
    · refine iteZ (by simpa using c2) ?_
      rw [if_pos c2] at hb1
      exact ⟨_, _, _, _, rfl, s5, hb1⟩
    · refine iteY (by simpa using c2) ?_
      rw [if_neg c2] at hb1
      rw [eT, ← hb1] at q
      refine ⟨_, rfl, (by show 2 ≤ sizeLine; decide), fun p hp => ?_⟩
      exact Gives.pair q s5 hp
  · rintro σ H' ⟨v4, v5, v6, v7, rfl, s2, hb1⟩
    rw [lz, List.drop_length, badP_nil] at hb1
    rw [eT, ← hb1] at q
    exact q _ _ s2 .non
end
end Rw
namespace Rw
open PySem L2
abbrev sMixed : Stmt := top 29
theorem free_of {dk gl : Addr} {H H1 : Hp} (e1 : Ext (avD dk gl) H H1) {p : Addr} (n : ¬ avD dk gl p) (h : H1 p = none) : H p = none := by
  cases z : H p with
  | none => rfl
  | some o =>
    rw [e1 _ _ n z] at h
    cases h
theorem map_erase {α β : Type} (g : α → β) : ∀ (l : List α) (i : Nat), (l.map g).eraseIdx i = (l.eraseIdx i).map g
  | [], _ => rfl
  | _ :: _, 0 => rfl
  | a :: l, i + 1 => congrArg (g a :: ·) (map_erase g l i)
/-- a list of the same many ints, each of those that were handed in; new to the heap H -/
def spMixed : Sp := fun vs H Q _ => ∃ (dk gl l : Addr) (ns : List Int), vs = [.ref dk, .ref l] ∧ DeckAt dk gl H ∧ H l = some (.lst (ns.map V.int)) ∧ ns.length ≤ 1000 ∧ ∀ (r : Addr) (ms : List Int) (H' : Hp), Ext (avD dk gl) H H' → DeckAt dk gl H' → H' r = some (.lst (ms.map V.int)) → ms.length = ns.length → (∀ x ∈ ms, x ∈ ns) → Q (.ref r) H'
section
variable {P : Program} {w : World} {K : PySem.W.Frag} {mg : Str → Option Value} {base : Heap} {f : Addr} {fd : FuncData}
theorem scMixed : FnScope ["deck", "items", "left", "found"] ["deck", "items"] (defScope sMixed) := ⟨rfl, rfl, rfl, by decide +kernel, rfl, by decide +kernel, by decide +kernel⟩
theorem ok_mixed (F : Fun K "_law_mixed" "_law_mixed" sMixed f fd) (B : Blt mg) (DD : Dfn P w K mg base "_law_draw" ["deck", "many"] 1 spDraw) : FnOk P w K mg base CX0 2 f fd ["deck", "items"] spMixed := by
  refine F.ok scMixed (fun vs H Q E h => ?_) (fun cdv A outer s H vs Q E hr h => ?_)
  · obtain ⟨_, _, _, _, rfl, _⟩ := h
    rfl
  obtain ⟨dk, gl, l, ns, rfl, hD, hl, hz, q⟩ := h
  have nd := scMixed.nd
  have hu64 : (A.deeper (PyProof.Rows.envOfC "_law_mixed" (defScope sMixed) s.heap.objs.size f cdv)).units + 64 < cLine := by
    have := hr.un
    omega
  refine ⟨_, pss_cons (ps_par (i := 2) (j := 3) (by rfl) nd rfl rfl (by decide) rfl rfl (pa_cons (pe_callTy call_list_of (by rfl) B.list (by decide +kernel) (pa_cons (pv 1) pa_nil)) (pa_cons (pe_lst pa_nil) pa_nil)) (by rfl))
    (pss_cons (ps_while PassesOwn.never (pt_cmpR (op_neD hu64) (pv 2) (pe_lst pa_nil) (nomark _)) (pss_one (ps_expr (pe_bm PySem.F.plainAttrs_list PySem.F.slot_list_append PySem.F.type_list_append mt_append (pv 3)
      (pa_cons (pe_bm PySem.F.plainAttrs_list PySem.F.slot_list_pop PySem.F.type_list_pop mt_popAt (pv 2) (pa_cons (pe_own DD hr (pa_cons (pv 0) (pa_cons (pe_callB call_len_seq (by rfl) B.len PySem.boot_len (pa_cons (pv 2) pa_nil)) pa_nil))) pa_nil)) pa_nil)))))
    (pss_one (ps_ret (pv 3)))), ?_⟩
  refine ⟨_, rfl, l, _, rfl, .inl (SqL.of hl), fun L hL => ⟨Nat.zero_le _, fun M hM => ⟨_, _, rfl, ?_⟩⟩⟩
  have nL : ¬ avD dk gl L := hD.new hL
  have D1 := hD.same (same_new hL (.lst (ns.map V.int)))
  have nM : ¬ avD dk gl M := D1.new hM
  have ne : M ≠ L := (ne_of_none upd_same hM).symm
  have hM0 : H M = none := by
    rw [upd_ne ne] at hM
    exact hM
  refine ⟨fun m σ H' => ∃ (ls fs : List Int), σ = [some (.ref dk), some (.ref l), some (.ref L), some (.ref M)] ∧ m = ls.length ∧ Ext (avD dk gl) H H' ∧ DeckAt dk gl H' ∧ H' L = some (.lst (ls.map V.int)) ∧ H' M = some (.lst (fs.map V.int)) ∧ fs.length + ls.length = ns.length ∧ (∀ x ∈ ls, x ∈ ns) ∧ ∀ x ∈ fs, x ∈ ns,
    ⟨ns.length, ns, [], rfl, rfl, ext_upd (ext_upd Ext.refl hL _) hM0 _, D1.put nM _, by rw [upd_ne ne.symm]; exact upd_same, upd_same, by simp, fun _ h => h, fun x h => absurd h (by simp)⟩, ?_⟩
  rintro m σ H1 ⟨ls, fs, rfl, rfl, e1, D2, h1, h2, hlen, i1, i2⟩
  refine ⟨_, rfl, Nat.zero_le _, fun p hp => ?_⟩
  have s1 := same_new hp (.lst [])
  refine ⟨.list (ls.map PyData.int), .list (([] : List Int).map PyData.int), .lst (SqL.of (s1 _ _ h1)) (dp_ints _), .lst (SqL.of upd_same) .nil, shaped_ints _, shaped_ints [], _, rfl, ?_⟩
  rw [eqv_ints]
  have h1 := s1 _ _ h1
  have h2 := s1 _ _ h2
  have e1 := e1.trans (Ext.of_same s1)
  have D2 := D2.same s1
  generalize upd H1 p (.lst []) = H2 at h1 h2 e1 D2
  by_cases c : ls = []
  · subst c
    refine iteZ (by simp) ?_
    exact ⟨_, rfl, q M fs H2 e1 D2 h2 (by simpa using hlen) i2⟩
  · refine iteY (by simp [c]) ?_
    have lpos : 0 < ls.length := List.length_pos_iff.mpr c
    refine ⟨fun σ2 H3 => ∃ m', m' < ls.length ∧ ∃ (ls fs : List Int), σ2 = [some (.ref dk), some (.ref l), some (.ref L), some (.ref M)] ∧ m' = ls.length ∧ Ext (avD dk gl) H H3 ∧ DeckAt dk gl H3 ∧ H3 L = some (.lst (ls.map V.int)) ∧ H3 M = some (.lst (fs.map V.int)) ∧ fs.length + ls.length = ns.length ∧ (∀ x ∈ ls, x ∈ ns) ∧ ∀ x ∈ fs, x ∈ ns, fun _ _ h => h, ?_⟩
    refine ⟨_, rfl, .inl ⟨rfl, _, SqL.of h2⟩, _, rfl, .inl ⟨rfl, _, SqL.of h1⟩, _, rfl, _, rfl, L, _, rfl, .inl (SqL.of h1), dk, gl, _, rfl, D2, by rw [List.length_map]; omega, fun r H3 e3 D3 r0 r1 => ?_⟩
    rw [List.length_map] at r1
    have rl : r < (ls.length : Int) := by omega
    have g1 := e3 _ _ nL h1
    have g2 := e3 _ _ nM h2
    have rk : r.toNat < ls.length := by omega
    have gx : (ls.map V.int)[r.toNat]? = some (V.int ls[r.toNat]) := by
      rw [List.getElem?_map, List.getElem?_eq_getElem rk]
      rfl
    refine ⟨L, _, r, r.toNat, _, rfl, rfl, g1, by omega, by omega, seqIndex_of r0 (by rw [List.length_map]; exact rl), gx, ?_⟩
    have x3 : (ls.map V.int).eraseIdx r.toNat = (ls.eraseIdx r.toNat).map V.int := map_erase _ _ _
    rw [x3]
    refine ⟨M, _, _, rfl, rfl, by rw [upd_ne ne]; exact g2, szlt (by rw [List.length_map]; omega), ?_⟩
    have x4 : fs.map V.int ++ [V.int ls[r.toNat]] = (fs ++ [ls[r.toNat]]).map V.int := by
      rw [List.map_append]
      rfl
    rw [x4]
    have le : (ls.eraseIdx r.toNat).length = ls.length - 1 := List.length_eraseIdx_of_lt rk
    refine ⟨(ls.eraseIdx r.toNat).length, by omega, _, _, rfl, rfl, ext_upd (ext_upd (e1.trans e3) hL _) hM0 _, (D3.put nL _).put nM _, by rw [upd_ne ne.symm]; exact upd_same, upd_same, ?_, fun x h => i1 x (List.mem_of_mem_eraseIdx h), ?_⟩
    · rw [List.length_append, List.length_singleton, le]
      omega
    · intro x h
      rcases List.mem_append.mp h with y | y
      · exact i2 x y
      · rw [List.mem_singleton.mp y]
        exact i1 _ (List.getElem_mem rk)
end
end Rw
namespace Rw
open PySem L2
abbrev sDoor : Stmt := top 36
def rowD (zs : List Str) : PyData := .tuple (zs.map PyData.str)
def ordD (ns : List Int) : PyData := .tuple (ns.map PyData.int)
def doorD (tab : List (List Str)) (ords : List (List Int)) : PyData := .tuple [.tuple (tab.map rowD), .tuple (ords.map ordD)]
def wordsD : List Str := ["-", "stand", "bow", "even"]
theorem wordsD_ok : ∀ z ∈ wordsD, zOk z = true := by decide +kernel
structure DoorOk (n : Nat) (tab : List (List Str)) (ords : List (List Int)) : Prop where
  tl : tab.length = n
  tr : ∀ zs ∈ tab, zs.length = n ∧ ∀ z ∈ zs, zOk z = true
  ol : ords.length ≤ 5
  oo : ∀ ns ∈ ords, ns.length ≤ 5 ∧ ∀ x ∈ ns, rOk x
  n5 : n ≤ 5
theorem w_all {c : Nat} : ∀ {ds : List PyData}, (∀ d ∈ ds, d.weight ≤ c) → PyData.weightAll ds ≤ ds.length * (c + 1)
  | [], _ => by simp [PyData.weightAll]
  | d :: ds, h => by
    have h1 := h d List.mem_cons_self
    have h2 := w_all (ds := ds) fun e he => h e (List.mem_cons_of_mem _ he)
    simp only [PyData.weightAll, List.length_cons]
    have : (ds.length + 1) * (c + 1) = ds.length * (c + 1) + (c + 1) := Nat.succ_mul _ _
    omega
theorem row_ok {zs : List Str} (h : ∀ z ∈ zs, zOk z = true) (l : zs.length ≤ 5) : Nc 1 (rowD zs) ∧ (rowD zs).weight ≤ 355 := by
  refine ⟨Nc.tup (NcAll.iff.mpr fun d hd => ?_), ?_⟩
  · obtain ⟨z, hz, rfl⟩ := List.mem_map.mp hd
    exact (Nc.ofZ (h z hz)).1
  · have w := w_all (c := 70) (ds := zs.map PyData.str) fun d hd => by
      obtain ⟨z, hz, rfl⟩ := List.mem_map.mp hd
      exact (Nc.ofZ (k := 0) (h z hz)).2
    rw [List.length_map] at w
    have : zs.length * 71 ≤ 5 * 71 := Nat.mul_le_mul_right _ l
    unfold rowD
    simp only [PyData.weight]
    omega
theorem sm_of {x : Int} (h : rOk x) : x.natAbs < 10 ^ 20 := by
  have ten20 : (10 : Nat) ^ 20 = 100000000000000000000 := by decide
  obtain ⟨a, b⟩ := h
  omega
theorem ord_ok {ns : List Int} (h : ∀ x ∈ ns, rOk x) (l : ns.length ≤ 5) : Nc 1 (ordD ns) ∧ (ordD ns).weight ≤ 355 := by
  refine ⟨Nc.tup (NcAll.iff.mpr fun d hd => ?_), ?_⟩
  · obtain ⟨z, hz, rfl⟩ := List.mem_map.mp hd
    exact .int (sm_of (h z hz))
  · have w := w_all (c := 70) (ds := ns.map PyData.int) fun d hd => by
      obtain ⟨z, hz, rfl⟩ := List.mem_map.mp hd
      exact w_int (sm_of (h z hz))
    rw [List.length_map] at w
    have : ns.length * 71 ≤ 5 * 71 := Nat.mul_le_mul_right _ l
    unfold ordD
    simp only [PyData.weight]
    omega
theorem tab_ok {n : Nat} {tab : List (List Str)} {ords : List (List Int)} (h : DoorOk n tab ords) : Nc 2 (.tuple (tab.map rowD)) ∧ (PyData.tuple (tab.map rowD)).weight ≤ 1780 := by
  refine ⟨Nc.tup (NcAll.iff.mpr fun d hd => ?_), ?_⟩
  · obtain ⟨zs, hz, rfl⟩ := List.mem_map.mp hd
    have := h.n5
    exact (row_ok (h.tr zs hz).2 (by have := (h.tr zs hz).1; omega)).1
  · have w := w_all (c := 355) (ds := tab.map rowD) fun d hd => by
      obtain ⟨zs, hz, rfl⟩ := List.mem_map.mp hd
      have := h.n5
      exact (row_ok (h.tr zs hz).2 (by have := (h.tr zs hz).1; omega)).2
    rw [List.length_map] at w
    have : tab.length * 356 ≤ 5 * 356 := Nat.mul_le_mul_right _ (by have := h.tl; have := h.n5; omega)
    simp only [PyData.weight]
    omega
theorem ords_ok {n : Nat} {tab : List (List Str)} {ords : List (List Int)} (h : DoorOk n tab ords) : Nc 2 (.tuple (ords.map ordD)) ∧ (PyData.tuple (ords.map ordD)).weight ≤ 1780 := by
  refine ⟨Nc.tup (NcAll.iff.mpr fun d hd => ?_), ?_⟩
  · obtain ⟨ns, hz, rfl⟩ := List.mem_map.mp hd
    exact (ord_ok (h.oo ns hz).2 (h.oo ns hz).1).1
  · have w := w_all (c := 355) (ds := ords.map ordD) fun d hd => by
      obtain ⟨ns, hz, rfl⟩ := List.mem_map.mp hd
      exact (ord_ok (h.oo ns hz).2 (h.oo ns hz).1).2
    rw [List.length_map] at w
    have : ords.length * 356 ≤ 5 * 356 := Nat.mul_le_mul_right _ h.ol
    simp only [PyData.weight]
    omega
theorem door_ok {n : Nat} {tab : List (List Str)} {ords : List (List Int)} (h : DoorOk n tab ords) : Nc 3 (doorD tab ords) ∧ (doorD tab ords).weight ≤ 3600 := by
  obtain ⟨a, b⟩ := tab_ok h
  obtain ⟨c, d⟩ := ords_ok h
  refine ⟨Nc.tup (.cons a (.cons c .nil)), ?_⟩
  unfold doorD
  rw [PyData.weight]
  rw [PyData.weightAll, PyData.weightAll, PyData.weightAll]
  omega
structure DoorAt (dk gl WL RL OL : Addr) (H H' : Hp) (n : Nat) (ra : List Addr) (ov : List V) (ords : List (List Int)) : Prop where
  ex : Ext (avD dk gl) H H'
  de : DeckAt dk gl H'
  nW : ¬ avD dk gl WL
  nR : ¬ avD dk gl RL
  nO : ¬ avD dk gl OL
  zO : H OL = none
  OR : OL ≠ RL
  OW : OL ≠ WL
  wl : ∃ ws : List Addr, H' WL = some (.lst (ws.map V.ref)) ∧ ws.length = 6 ∧ ∀ w ∈ ws, ¬ avD dk gl w ∧ ∃ y z : Str, H' w = some (.tup [.str y, .str z]) ∧ y ∈ wordsD ∧ z ∈ wordsD
  rl : H' RL = some (.lst (ra.map V.ref))
  rn : ra.length = n
  rows : ∀ a ∈ ra, H a = none ∧ ¬ avD dk gl a ∧ a ≠ RL ∧ a ≠ OL ∧ a ≠ WL ∧ ∃ zs : List Str, H' a = some (.lst (zs.map V.str)) ∧ zs.length = n ∧ ∀ z ∈ zs, z ∈ wordsD
  ol : H' OL = some (.lst ov)
  od : RpAll (fun b => dom H b ∨ b = OL ∨ b ∈ ra) H' ov (ords.map ordD)
  os : ∀ ns ∈ ords, ns.length ≤ 5 ∧ ∀ x ∈ ns, rOk x
section
variable {dk gl WL RL OL : Addr} {H H1 : Hp} {n : Nat} {ra : List Addr} {ov : List V} {ords : List (List Int)}
theorem DoorAt.ext (W : DoorAt dk gl WL RL OL H H1 n ra ov ords) (hD : DeckAt dk gl H) {H2 : Hp} (e : Ext (avD dk gl) H1 H2) (D : DeckAt dk gl H2) : DoorAt dk gl WL RL OL H H2 n ra ov ords where
  ex := W.ex.trans e
  de := D
  nW := W.nW
  nR := W.nR
  nO := W.nO
  zO := W.zO
  OR := W.OR
  OW := W.OW
  wl := by
    obtain ⟨ws, h1, h2, h3⟩ := W.wl
    refine ⟨ws, e _ _ W.nW h1, h2, fun w hw => ?_⟩
    obtain ⟨a, y, z, b, c⟩ := h3 w hw
    exact ⟨a, y, z, e _ _ a b, c⟩
  rl := e _ _ W.nR W.rl
  rn := W.rn
  rows := fun a ha => by
    obtain ⟨h1, h2, h3, h4, h5, zs, h6, h7⟩ := W.rows a ha
    exact ⟨h1, h2, h3, h4, h5, zs, e _ _ h2 h6, h7⟩
  ol := e _ _ W.nO W.ol
  od := W.od.mono fun b o nb h => e b o (fun z => nb (.inl (dom_deck hD z))) h
  os := W.os
theorem DoorAt.setRow (W : DoorAt dk gl WL RL OL H H1 n ra ov ords) {a : Addr} (ha : a ∈ ra) {zs : List Str} (hz : zs.length = n) (hw : ∀ z ∈ zs, z ∈ wordsD) : DoorAt dk gl WL RL OL H (upd H1 a (.lst (zs.map V.str))) n ra ov ords := by
  obtain ⟨h1, h2, h3, h4, h5, zs0, h6, h7, h8⟩ := W.rows a ha
  exact {
    ex := ext_upd W.ex h1 _
    de := W.de.put h2 _
    nW := W.nW
    nR := W.nR
    nO := W.nO
    zO := W.zO
    OR := W.OR
    OW := W.OW
    wl := by
      obtain ⟨ws, k1, k2, k3⟩ := W.wl
      refine ⟨ws, by rw [upd_ne h5.symm]; exact k1, k2, fun w hw => ?_⟩
      obtain ⟨b1, y, z, b2, b3⟩ := k3 w hw
      have nw : w ≠ a := fun q => by
        rw [q, h6] at b2
        cases b2
      exact ⟨b1, y, z, by rw [upd_ne nw]; exact b2, b3⟩
    rl := by rw [upd_ne h3.symm]; exact W.rl
    rn := W.rn
    rows := fun b hb => by
      obtain ⟨k1, k2, k3, k4, k5, zs1, k6, k7⟩ := W.rows b hb
      by_cases q : b = a
      · subst q
        exact ⟨k1, k2, k3, k4, k5, zs, upd_same, hz, hw⟩
      · exact ⟨k1, k2, k3, k4, k5, zs1, by rw [upd_ne q]; exact k6, k7⟩
    ol := by rw [upd_ne h4.symm]; exact W.ol
    od := W.od.mono (Ext.put (.inr (.inr ha)) _)
    os := W.os }
theorem DoorAt.addOrd (W : DoorAt dk gl WL RL OL H H1 n ra ov ords) {v : V} {ns : List Int} (r : Rp (fun b => dom H b ∨ b = OL ∨ b ∈ ra) H1 v (ordD ns)) (l : ns.length ≤ 5) (k : ∀ x ∈ ns, rOk x) : DoorAt dk gl WL RL OL H (upd H1 OL (.lst (ov ++ [v]))) n ra (ov ++ [v]) (ords ++ [ns]) where
  ex := ext_upd W.ex W.zO _
  de := W.de.put W.nO _
  nW := W.nW
  nR := W.nR
  nO := W.nO
  zO := W.zO
  OR := W.OR
  OW := W.OW
  wl := by
    obtain ⟨ws, k1, k2, k3⟩ := W.wl
    refine ⟨ws, by rw [upd_ne W.OW.symm]; exact k1, k2, fun w hw => ?_⟩
    obtain ⟨b1, y, z, b2, b3⟩ := k3 w hw
    have nw : w ≠ OL := fun q => by
      rw [q, W.ol] at b2
      cases b2
    exact ⟨b1, y, z, by rw [upd_ne nw]; exact b2, b3⟩
  rl := by rw [upd_ne W.OR.symm]; exact W.rl
  rn := W.rn
  rows := fun b hb => by
    obtain ⟨k1, k2, k3, k4, k5, zs1, k6, k7⟩ := W.rows b hb
    exact ⟨k1, k2, k3, k4, k5, zs1, by rw [upd_ne k4]; exact k6, k7⟩
  ol := upd_same
  od := by
    rw [List.map_append]
    exact (W.od.snoc r).mono (Ext.put (.inr (.inl rfl)) _)
  os := fun ns' h => by
    rcases List.mem_append.mp h with y | y
    · exact W.os ns' y
    · rw [List.mem_singleton.mp y]
      exact ⟨l, k⟩
theorem DoorAt.new (W : DoorAt dk gl WL RL OL H H1 n ra ov ords) {p : Addr} (hp : H1 p = none) : ¬ (dom H p ∨ p = OL ∨ p ∈ ra) := by
  rintro (z | z | z)
  · exact not_dom hp (dom_ext W.ex W.de z)
  · rw [z, W.ol] at hp
    cases hp
  · obtain ⟨_, _, _, _, _, zs, k6, _⟩ := W.rows p z
    rw [k6] at hp
    cases hp
end
end Rw
namespace Rw
open PySem L2
def GivesDoor (dk gl : Addr) (n : Nat) (H : Hp) (Q : VK) : Prop := ∀ (v : V) (tab : List (List Str)) (ords : List (List Int)) (H' : Hp), Ext (avD dk gl) H H' → DeckAt dk gl H' → Rp (dom H) H' v (doorD tab ords) → DoorOk n tab ords → Q v H'
def spDoor : Sp := fun vs H Q _ => ∃ (dk gl : Addr) (n : Nat), vs = [.ref dk, .int (n : Nat)] ∧ DeckAt dk gl H ∧ 1 ≤ n ∧ n ≤ 5 ∧ GivesDoor dk gl n H Q
def WordT (H : Hp) (w : Addr) : Prop := ∃ y z : Str, H w = some (.tup [.str y, .str z]) ∧ y ∈ wordsD ∧ z ∈ wordsD
theorem WordT.make {H1 : Hp} {p : Addr} (_hp : H1 p = none) {y z : Str} (hy : y ∈ wordsD) (hz : z ∈ wordsD) : WordT (upd H1 p (.tup [.str y, .str z])) p := ⟨y, z, upd_same, hy, hz⟩
theorem WordT.same {H1 H2 : Hp} {p : Addr} (h : WordT H1 p) (s : Same H1 H2) : WordT H2 p := by
  obtain ⟨y, z, a, b⟩ := h
  exact ⟨y, z, s _ _ a, b⟩
theorem WordT.off {dk gl : Addr} {H1 : Hp} {p : Addr} (h : WordT H1 p) (D : DeckAt dk gl H1) : ¬ avD dk gl p := by
  obtain ⟨y, z, a, b⟩ := h
  obtain ⟨g, s, t, h1, h2, _⟩ := D.ex
  rintro (e | e)
  · rw [e, h1] at a
    cases a
  · rw [e, h2] at a
    cases a
theorem RpAll.strs {av : Addr → Prop} {H : Hp} : ∀ zs : List Str, RpAll av H (zs.map V.str) (zs.map PyData.str)
  | [] => .nil
  | z :: r => .cons (.str z) (RpAll.strs r)
theorem ixN_nat {n j : Nat} (h : j < n) : ixN n ((j : Nat) : Int) = some j := by
  unfold ixN
  rw [if_pos (by omega), if_pos (by omega), Int.toNat_natCast]
def rTup (K : PySem.W.Frag) : List V → Hp → VK → Prop := fun xs H Q => ∃ (p : Addr) (ys : List V), xs = [.ref p] ∧ ((SqL K H p ys ∧ ∀ l : Addr, H l = none → Q (.ref l) (upd H l (.tup ys))) ∨ SqT K H p ys ∧ Q (.ref p) H)
section
variable {P : Program} {w : World} {K : PySem.W.Frag} {mg : Str → Option Value} {base : Heap} {f : Addr} {fd : FuncData}
theorem scDoor : FnScope ["deck", "hands", "words", "rows", "orders", "i", "j", "hand", "row"] ["deck", "hands"] (defScope sDoor) := ⟨rfl, rfl, rfl, by decide +kernel, rfl, by decide +kernel, by decide +kernel⟩
theorem ok_door (F : Fun K "_law_door" "_law_door" sDoor f fd) (B : Blt mg) (DP : Dfn P w K mg base "_law_pick" ["deck", "items"] 2 spPick) (DM : Dfn P w K mg base "_law_mixed" ["deck", "items"] 2 spMixed) : FnOk P w K mg base CX0 3 f fd ["deck", "hands"] spDoor := by
  refine F.ok scDoor (fun vs H Q E h => ?_) (fun cdv A outer s H vs Q E hr h => ?_)
  · obtain ⟨_, _, _, rfl, _⟩ := h
    rfl
  obtain ⟨dk, gl, n, rfl, hD, n1, n5, q⟩ := h
  have nd := scDoor.nd
  refine ⟨_, pss_cons (ps_set (i := 2) nd rfl (Or.inl rfl) (pe_lst (pa_cons (pe_tup (pa_cons pe_str (pa_cons pe_str pa_nil))) (pa_cons (pe_tup (pa_cons pe_str (pa_cons pe_str pa_nil))) (pa_cons (pe_tup (pa_cons pe_str (pa_cons pe_str pa_nil))) (pa_cons (pe_tup (pa_cons pe_str (pa_cons pe_str pa_nil)))
      (pa_cons (pe_op op_repT (pe_tup (pa_cons pe_str pa_nil)) pe_int) (pa_cons (pe_op op_repT (pe_tup (pa_cons pe_str pa_nil)) pe_int) pa_nil))))))))
    (pss_cons (ps_par (i := 3) (j := 4) (by rfl) nd rfl rfl (by decide) rfl rfl (pa_cons (pe_lc (own := [("hand", 7)]) (g := gName 7) (tt := tYes) rfl nd (pi_range1 (by rfl) B.rng (pa_cons (pv 1) pa_nil))
        (blkOk_by (N := ["deck", "hands", "words", "rows", "orders", "i", "j", "hand", "row"]) (sc := defScope sDoor) (by decide +kernel)) (fun _ _ _ _ _ => pg_name (i := 7) nd rfl (Or.inl rfl)) (fun _ _ _ _ _ => pts_nil) (fun _ _ _ _ _ => pe_op op_rep (pe_lst (pa_cons pe_str pa_nil)) (pv 1)))
        (pa_cons (pe_lst pa_nil) pa_nil)) (by rfl))
    (pss_cons (ps_for PassesOwn.never rfl (pi_range1 (by rfl) B.rng (pa_cons (pv 1) pa_nil)) (pg_name (i := 5) nd rfl (Or.inr rfl))
      (pss_cons (ps_for PassesOwn.never rfl (pi_range2 (by rfl) B.rng (pa_cons (pe_op op_add (pv 5) pe_int) (pa_cons (pv 1) pa_nil))) (pg_name (i := 6) nd rfl (Or.inl rfl))
        (pss_one (ps_asg (pe_own DP hr (pa_cons (pv 0) (pa_cons (pv 2) pa_nil))) (pg_tup rfl (pgs_cons (pg_sub (pe_ix ix_list (pv 3) (pv 5) (fun _ _ => rfl)) (pv 6) set_list) (pgs_cons (pg_sub (pe_ix ix_list (pv 3) (pv 6) (fun _ _ => rfl)) (pv 5) set_list) pgs_nil))))))
      (pss_one (ps_expr (pe_bm PySem.F.plainAttrs_list PySem.F.slot_list_append PySem.F.type_list_append mt_append (pv 4) (pa_cons (pe_callTy call_tuple_of (by rfl) B.tup (by decide +kernel)
        (pa_cons (pe_own DM hr (pa_cons (pv 0) (pa_cons (pe_lc (own := [("j", 6)]) (g := gName 6) (tt := _) rfl nd (pi_range1 (by rfl) B.rng (pa_cons (pv 1) pa_nil))
          (blkOk_by (N := ["deck", "hands", "words", "rows", "orders", "i", "j", "hand", "row"]) (sc := defScope sDoor) (by decide +kernel)) (fun _ _ _ _ _ => pg_name (i := 6) nd rfl (Or.inl rfl)) (fun _ _ _ _ _ => pts_one (pt_cmpR op_ne (pv 6) (pv 5) (nomark _))) (fun _ _ _ _ _ => pv 6)) pa_nil))) pa_nil)) pa_nil))))))
    (pss_one (ps_ret (pe_tup (pa_cons (pe_callTy call_tuple_of (by rfl) B.tup (by decide +kernel) (pa_cons (pe_lc (own := [("row", 8)]) (g := gName 8) (tt := tYes) (te := tCB (rTup K) (tCons (tVar 8) tNil)) rfl nd (pi_list (pv 3))
        (blkOk_by (N := ["deck", "hands", "words", "rows", "orders", "i", "j", "hand", "row"]) (sc := defScope sDoor) (by decide +kernel)) (fun _ _ _ _ _ => pg_name (i := 8) nd rfl (Or.inl rfl)) (fun _ _ _ _ _ => pts_nil) (fun _ _ _ _ _ => by exact pe_callTy (T := "tuple") (r := rTup K) call_tuple_of (by rfl) B.tup (by decide +kernel) (pa_cons (pv 8) pa_nil))) pa_nil))
      (pa_cons (pe_callTy call_tuple_of (by rfl) B.tup (by decide +kernel) (pa_cons (pv 4) pa_nil)) pa_nil))))))), ?_⟩
  refine ⟨(by show 2 ≤ sizeLine; decide), fun p1 hp1 => ?_⟩
  have g1 := WordT.make hp1 (y := "even") (z := "even") (by decide +kernel) (by decide +kernel)
  have s1 := same_new hp1 (.tup [.str "even", .str "even"])
  generalize upd H p1 (.tup [.str "even", .str "even"]) = H1 at s1 g1
  refine ⟨(by show 2 ≤ sizeLine; decide), fun p2 hp2 => ?_⟩
  have g2 := WordT.make hp2 (y := "even") (z := "even") (by decide +kernel) (by decide +kernel)
  have s2 := same_new hp2 (.tup [.str "even", .str "even"])
  generalize upd H1 p2 (.tup [.str "even", .str "even"]) = H2 at s2 g2
  refine ⟨(by show 2 ≤ sizeLine; decide), fun p3 hp3 => ?_⟩
  have g3 := WordT.make hp3 (y := "stand") (z := "bow") (by decide +kernel) (by decide +kernel)
  have s3 := same_new hp3 (.tup [.str "stand", .str "bow"])
  generalize upd H2 p3 (.tup [.str "stand", .str "bow"]) = H3 at s3 g3
  refine ⟨(by show 2 ≤ sizeLine; decide), fun p4 hp4 => ?_⟩
  have g4 := WordT.make hp4 (y := "bow") (z := "stand") (by decide +kernel) (by decide +kernel)
  have s4 := same_new hp4 (.tup [.str "bow", .str "stand"])
  generalize upd H3 p4 (.tup [.str "bow", .str "stand"]) = H4 at s4 g4
  refine ⟨(by show 1 ≤ sizeLine; decide), fun p5 hp5 => ?_⟩
  refine ⟨p5, 2, [.str "stand"], rfl, rfl, SqT.of upd_same, by simp, by decide, by decide, by decide, fun p6 hp6 => ?_⟩
  have g6 : WordT (upd (upd H4 p5 (.tup [.str "stand"])) p6 (.tup [.str "stand", .str "stand"])) p6 := WordT.make hp6 (y := "stand") (z := "stand") (by decide +kernel) (by decide +kernel)
  have s6 : Same H4 (upd (upd H4 p5 (.tup [.str "stand"])) p6 (.tup [.str "stand", .str "stand"])) := (same_new hp5 _).trans (same_new hp6 _)
  have e6 : (upd (upd H4 p5 (.tup [.str "stand"])) p6 (.tup (List.replicate (2 : Int).toNat [V.str "stand"]).flatten)) = upd (upd H4 p5 (.tup [.str "stand"])) p6 (.tup [.str "stand", .str "stand"]) := rfl
  rw [e6]
  generalize upd (upd H4 p5 (.tup [.str "stand"])) p6 (.tup [.str "stand", .str "stand"]) = H6 at s6 g6
  refine ⟨(by show 1 ≤ sizeLine; decide), fun p7 hp7 => ?_⟩
  refine ⟨p7, 2, [.str "bow"], rfl, rfl, SqT.of upd_same, by simp, by decide, by decide, by decide, fun p8 hp8 => ?_⟩
  have g8 : WordT (upd (upd H6 p7 (.tup [.str "bow"])) p8 (.tup [.str "bow", .str "bow"])) p8 := WordT.make hp8 (y := "bow") (z := "bow") (by decide +kernel) (by decide +kernel)
  have s8 : Same H6 (upd (upd H6 p7 (.tup [.str "bow"])) p8 (.tup [.str "bow", .str "bow"])) := (same_new hp7 _).trans (same_new hp8 _)
  have e8 : (upd (upd H6 p7 (.tup [.str "bow"])) p8 (.tup (List.replicate (2 : Int).toNat [V.str "bow"]).flatten)) = upd (upd H6 p7 (.tup [.str "bow"])) p8 (.tup [.str "bow", .str "bow"]) := rfl
  rw [e8]
  generalize upd (upd H6 p7 (.tup [.str "bow"])) p8 (.tup [.str "bow", .str "bow"]) = H8 at s8 g8
  refine ⟨(by show 6 ≤ sizeLine; decide), fun WL hWL => ?_⟩
  have s9 := same_new hWL (.lst ([p1, p2, p3, p4, p6, p8].map V.ref))
  have S19 := s2.trans (s3.trans (s4.trans (s6.trans (s8.trans s9))))
  have S9 := s1.trans S19
  have D9 := hD.same S9
  have words9 : ∀ w ∈ [p1, p2, p3, p4, p6, p8], WordT (upd H8 WL (.lst ([p1, p2, p3, p4, p6, p8].map V.ref))) w := fun w hw => by
    simp only [List.mem_cons, List.not_mem_nil, or_false] at hw
    rcases hw with e | e | e | e | e | e <;> subst e
    · exact g1.same S19
    · exact g2.same (s3.trans (s4.trans (s6.trans (s8.trans s9))))
    · exact g3.same (s4.trans (s6.trans (s8.trans s9)))
    · exact g4.same (s6.trans (s8.trans s9))
    · exact g6.same (s8.trans s9)
    · exact g8.same s9
  have hwl9 : upd H8 WL (.lst ([p1, p2, p3, p4, p6, p8].map V.ref)) WL = some (.lst ([p1, p2, p3, p4, p6, p8].map V.ref)) := upd_same
  have nW : ¬ avD dk gl WL := fun z => by
    have hz : H WL = none := (s1.trans (s2.trans (s3.trans (s4.trans (s6.trans s8))))).free hWL
    obtain ⟨o, ho⟩ := dom_deck hD z
    rw [hz] at ho
    cases ho
  have eL : upd H8 WL (.lst [V.ref p1, V.ref p2, V.ref p3, V.ref p4, V.ref p6, V.ref p8]) = upd H8 WL (.lst ([p1, p2, p3, p4, p6, p8].map V.ref)) := rfl
  rw [eL]
  have w6 : [p1, p2, p3, p4, p6, p8].length = 6 := rfl
  generalize [p1, p2, p3, p4, p6, p8] = ws at words9 hwl9 S9 D9 s9 S19 w6
  generalize upd H8 WL (.lst (ws.map V.ref)) = H9 at words9 hwl9 S9 D9 s9 S19
  clear g1 g2 g3 g4 g6 g8 s1 s2 s3 s4 s6 s8 s9 S19 hp1 hp2 hp3 hp4 hp5 hp6 hp7 hp8 eL e6 e8
  refine ⟨_, rfl, _, rfl, by omega, by omega, fun RL hRL => ?_⟩
  have nRL : ¬ avD dk gl RL := D9.new hRL
  refine lc_range (lo := 0) (n := n) (fun k H' => Same H9 H' ∧ ∃ ra : List Addr, H' RL = some (.lst (ra.map V.ref)) ∧ ra.length = k ∧ ∀ a ∈ ra, H9 a = none ∧ a ≠ RL ∧ ∃ zs : List Str, H' a = some (.lst (zs.map V.str)) ∧ zs.length = n ∧ ∀ z ∈ zs, z ∈ wordsD) ?_ ?_ ?_
  · exact ⟨same_new hRL _, [], upd_same, rfl, fun a h => absurd h (by simp)⟩
  · rintro k H' hk ⟨e, ra, hl, lr, hra⟩
    refine ⟨rfl, ?_⟩
    refine iteT (B := True) ?_
    refine ⟨(by show 1 ≤ sizeLine; decide), fun q1 hq1 => ?_⟩
    refine ⟨_, rfl, q1, n, [.str "-"], rfl, rfl, upd_same, by omega, by omega, sz (by simp; omega), fun a ha => ?_⟩
    have er : (List.replicate ((n : Nat) : Int).toNat [V.str "-"]).flatten = (List.replicate n ("-" : Str)).map V.str := by
      rw [Int.toNat_natCast, List.map_replicate]
      exact List.flatten_replicate_singleton
    rw [er]
    have t1 := (same_new hq1 (.lst [V.str "-"])).trans (same_new ha (.lst ((List.replicate n ("-" : Str)).map V.str)))
    have e2 := e.trans t1
    have hl2 := t1 _ _ hl
    have naR : a ≠ RL := (ne_of_none ((same_new hq1 (.lst [V.str "-"])) _ _ hl) ha).symm
    have ha9 : H9 a = none := (e.trans (same_new hq1 _)).free ha
    refine ⟨_, hl2, szlt (by rw [List.length_map]; omega), same_upd e2 hRL _, ra ++ [a], ?_, by rw [List.length_append, List.length_singleton, lr], fun b hb => ?_⟩
    · rw [upd_same, List.map_append]
      rfl
    · rcases List.mem_append.mp hb with y | y
      · obtain ⟨k1, k2, zs, k3, k4⟩ := hra b y
        exact ⟨k1, k2, zs, by rw [upd_ne k2]; exact t1 _ _ k3, k4⟩
      · rw [List.mem_singleton.mp y]
        refine ⟨ha9, naR, List.replicate n "-", by rw [upd_ne naR]; exact upd_same, List.length_replicate, fun z hz => ?_⟩
        rw [List.eq_of_mem_replicate hz]
        exact List.mem_cons_self
  rintro H10 ⟨e10, ra, hra0, lra, hra⟩
  refine ⟨Nat.zero_le _, fun OL hOL => ⟨_, _, rfl, ?_⟩⟩
  have D10 := D9.same e10
  have s11 := same_new hOL (.lst [])
  have S11 := S9.trans (e10.trans s11)
  have W0 : DoorAt dk gl WL RL OL H (upd H10 OL (.lst [])) n ra [] [] := {
    ex := Ext.of_same S11
    de := D10.same s11
    nW := nW
    nR := nRL
    nO := D10.new hOL
    zO := (S9.trans e10).free hOL
    OR := (ne_of_none hra0 hOL).symm
    OW := (ne_of_none (e10 _ _ hwl9) hOL).symm
    wl := ⟨ws, s11 _ _ (e10 _ _ hwl9), w6, fun w hw => ⟨(words9 w hw).off D9, by
      obtain ⟨y, z, a, b⟩ := words9 w hw
      exact ⟨y, z, s11 _ _ (e10 _ _ a), b⟩⟩⟩
    rl := s11 _ _ hra0
    rn := lra
    rows := fun a ha => by
      obtain ⟨k1, k2, zs, k3, k4⟩ := hra a ha
      refine ⟨S9.free k1, D9.new k1, k2, ne_of_none k3 hOL, (ne_of_none hwl9 k1).symm, zs, s11 _ _ k3, k4⟩
    ol := upd_same
    od := .nil
    os := fun ns h => absurd h (by simp) }
  generalize upd H10 OL (.lst []) = H11 at W0
  clear S11 s11 hOL D10 hra hra0 e10 words9 hwl9 S9 D9 hRL
  refine ⟨_, rfl, _, rfl, by omega, by omega, ?_⟩
  refine for_it (walk_range (lo := 0) (n := n)) (fun i σ H' => ∃ (v5 v6 v7 v8 : Option V) (ov : List V) (ords : List (List Int)), σ = [some (.ref dk), some (.int (n : Nat)), some (.ref WL), some (.ref RL), some (.ref OL), v5, v6, v7, v8] ∧ DoorAt dk gl WL RL OL H H' n ra ov ords ∧ ords.length = i) ⟨_, _, _, _, [], [], rfl, W0, rfl⟩ (fun _ _ _ _ _ => trivial) ?_ ?_
  · rintro i x σ H12 H13 hi ⟨_, _, _, _, ov, ords, rfl, W1, lo⟩ ⟨rfl, ex⟩
    have ex : x = V.int (i : Nat) := by
      rw [ex]
      show V.int (0 + (i : Nat)) = _
      rw [Int.zero_add]
    subst ex
    refine ⟨_, rfl, _, _, rfl, rfl, ?_⟩
    refine ⟨_, rfl, _, _, rfl, ⟨by omega, by omega, by omega, by omega⟩, ?_⟩
    refine for_it (walk_range (lo := (i : Int) + 1) (n := (((n : Nat) : Int) - ((i : Int) + 1)).toNat)) (fun k σ H' => ∃ (v6 v7 v8 : Option V), σ = [some (.ref dk), some (.int (n : Nat)), some (.ref WL), some (.ref RL), some (.ref OL), some (.int (i : Nat)), v6, v7, v8] ∧ DoorAt dk gl WL RL OL H H' n ra ov ords) ⟨_, _, _, rfl, W1⟩ (fun _ _ _ _ _ => trivial) ?_ ?_
    · rintro k y σ H14 H15 hk2 ⟨_, _, _, rfl, W2⟩ ⟨rfl, ey⟩
      have ey : y = V.int ((i + 1 + k : Nat) : Int) := by
        rw [ey]
        show V.int ((i : Int) + 1 + (k : Nat)) = _
        congr 1
      subst ey
      have hj : i + 1 + k < n := by omega
      generalize i + 1 + k = j at hj
      obtain ⟨wl, k1, k2, k3⟩ := W2.wl
      refine ⟨_, rfl, _, rfl, dk, gl, WL, wl.map V.ref, rfl, W2.de, k1, W2.nW, by rw [List.length_map]; omega, by rw [List.length_map]; omega, fun v H16 hv e16 D16 => ?_⟩
      obtain ⟨w0, hw0, rfl⟩ := List.mem_map.mp hv
      obtain ⟨m1, y0, z0, m2, m3, m4⟩ := k3 w0 hw0
      have W3 := W2.ext hD e16 D16
      have m5 := e16 _ _ m1 m2
      have ia : i < ra.length := by have := W3.rn; omega
      have ja : j < ra.length := by have := W3.rn; omega
      have gi : (ra.map V.ref)[i]? = some (.ref ra[i]) := by rw [List.getElem?_map, List.getElem?_eq_getElem ia]; rfl
      have gj : (ra.map V.ref)[j]? = some (.ref ra[j]) := by rw [List.getElem?_map, List.getElem?_eq_getElem ja]; rfl
      obtain ⟨_, _, _, _, _, zi, h6, h7, h8⟩ := W3.rows ra[i] (List.getElem_mem ia)
      have sl : ∀ {zs : List Str} {z : Str} {j : Nat}, zs.length = n → (∀ z ∈ zs, z ∈ wordsD) → z ∈ wordsD → (zs.set j z).length = n ∧ ∀ x ∈ zs.set j z, x ∈ wordsD := fun {zs z j} a b c => ⟨by rw [List.length_set]; exact a, fun x hx => by
        rcases List.mem_or_eq_of_mem_set hx with p | p
        · exact b x p
        · rw [p]
          exact c⟩
      refine ⟨w0, _, rfl, SqT.of m5, rfl, _, _, rfl, ?_⟩
      refine ⟨_, rfl, _, rfl, RL, _, _, _, rfl, rfl, SqL.of W3.rl, atI_nat gi, _, rfl, ra[i], _, _, j, rfl, rfl, h6, ?_, ?_⟩
      · rw [List.length_map, h7]
        exact ixN_nat hj
      have W4 := W3.setRow (List.getElem_mem ia) (sl (j := j) h7 h8 m3).1 (sl (j := j) h7 h8 m3).2
      rw [← List.map_set]
      generalize upd H16 ra[i] (.lst ((zi.set j y0).map V.str)) = H17 at W4
      obtain ⟨_, _, _, _, _, zj, f6, f7, f8⟩ := W4.rows ra[j] (List.getElem_mem ja)
      refine ⟨_, _, rfl, ?_⟩
      refine ⟨_, rfl, _, rfl, RL, _, _, _, rfl, rfl, SqL.of W4.rl, atI_nat gj, _, rfl, ra[j], _, _, i, rfl, rfl, f6, ?_, ?_⟩
      · rw [List.length_map, f7]
        exact ixN_nat hi
      have W5 := W4.setRow (List.getElem_mem ja) (sl (j := i) f7 f8 m4).1 (sl (j := i) f7 f8 m4).2
      rw [← List.map_set]
      exact ⟨rfl, _, _, _, rfl, W5⟩
    · rintro σ H14 ⟨_, _, _, rfl, W2⟩
      refine ⟨_, rfl, .inl ⟨rfl, _, SqL.of W2.ol⟩, ?_⟩
      refine ⟨_, rfl, _, rfl, _, rfl, by omega, by omega, fun D2 hD2 => ?_⟩
      refine lc_range (lo := 0) (n := n) (fun j H' => Same H14 H' ∧ H' D2 = some (.lst ((others j i).map V.int))) ?_ ?_ ?_
      · exact ⟨same_new hD2 _, upd_same⟩
      · rintro j H' hj ⟨e, hl2⟩
        refine ⟨rfl, ?_⟩
        refine ⟨_, rfl, _, rfl, rfl, _, rfl, ?_⟩
        have lo2 : (others j i).length ≤ j := by
          rw [others_len2]
          split <;> omega
        by_cases c3 : j = i
        · refine iteZ ?_ ?_
          · subst c3
            simp
          · refine ⟨e, ?_⟩
            rw [others_step, if_neg fun z => z c3, List.append_nil]
            exact hl2
        · refine iteY ?_ ?_
          · have z : ¬ V.int (0 + (j : Nat)) = V.int (i : Nat) := fun z => c3 (by have := V.int.inj z; omega)
            rw [decide_eq_false z]
            rfl
          · refine ⟨_, rfl, _, hl2, szlt (by rw [List.length_map]; omega), same_upd e hD2 _, ?_⟩
            rw [upd_same, others_step, if_pos c3, List.map_append]
            show some (HO.lst (_ ++ [V.int (0 + (j : Nat))])) = some (HO.lst (_ ++ [V.int (j : Nat)]))
            rw [Int.zero_add]
      rintro H15 ⟨e15, h15⟩
      have W3 := W2.ext hD (Ext.of_same e15) (W2.de.same e15)
      have lo3 := others_len hi
      refine ⟨dk, gl, D2, others n i, rfl, W3.de, h15, by omega, fun r ms H16 e16 D16 hr16 lms mem => ?_⟩
      have W4 := W3.ext hD e16 D16
      refine ⟨r, _, rfl, .inl ⟨SqL.of hr16, fun p hp => ?_⟩⟩
      have s5 := same_new hp (.tup (ms.map V.int))
      have W5 := W4.ext hD (Ext.of_same s5) (W4.de.same s5)
      have hov : ov.length ≤ 5 := by
        have := W5.od.len
        rw [List.length_map] at this
        omega
      refine ⟨OL, ov, _, rfl, rfl, W5.ol, szlt (by omega), ?_⟩
      refine ⟨_, _, _, _, _, ords ++ [ms], rfl, W5.addOrd (.tup (W4.new hp) upd_same (RpAll.ints ms)) (by omega) (fun x hx => ?_), by rw [List.length_append, List.length_singleton, lo]⟩
      have := others_mem (mem x hx)
      exact ⟨this.1, by omega⟩
  · rintro σ H12 ⟨_, _, _, _, ov, ords, rfl, W, lo⟩
    refine ⟨_, rfl, RL, rfl, ⟨_, SqL.of W.rl⟩, fun D3 hD3 => ?_⟩
    have nD3 : ¬ dom H D3 := fun z => not_dom hD3 (dom_ext W.ex W.de z)
    have lra2 := W.rn
    refine lc_list (K := K) (a := RL) (xs := ra.map V.ref) (fun k H' => Same H12 H' ∧ ∃ (tv : List V) (zss : List (List Str)), H' D3 = some (.lst tv) ∧ RpAll (fun b => dom H b ∨ b = D3) H' tv (zss.map rowD) ∧ zss.length = k ∧ ∀ zs ∈ zss, zs.length = n ∧ ∀ z ∈ zs, z ∈ wordsD) ?_ ?_ ?_ ?_
    · exact ⟨same_new hD3 _, [], [], upd_same, .nil, rfl, fun zs h => absurd h (by simp)⟩
    · rintro k H' _ ⟨e, _⟩
      exact SqL.of (e _ _ W.rl)
    · rintro k x H' hk ⟨e, tv, zss, hl, rp, lz, hz⟩
      rw [List.getElem?_map] at hk
      obtain ⟨a, ha, rfl⟩ : ∃ a, ra[k]? = some a ∧ x = V.ref a := by
        cases z : ra[k]? with
        | none =>
          rw [z] at hk
          cases hk
        | some a =>
          rw [z] at hk
          exact ⟨a, rfl, (Option.some.inj hk).symm⟩
      have hk2 : k < ra.length := (List.getElem?_eq_some_iff.mp ha).1
      obtain ⟨_, _, _, _, _, zs, h6, h7, h8⟩ := W.rows a (List.mem_of_getElem? ha)
      refine ⟨rfl, ?_⟩
      refine iteT (B := True) ?_
      refine ⟨_, rfl, a, _, rfl, .inl ⟨SqL.of (e _ _ h6), fun p hp => ?_⟩⟩
      have s5 := same_new hp (.tup (zs.map V.str))
      have ltv : tv.length ≤ 5 := by
        have := rp.len
        rw [List.length_map] at this
        omega
      have np : ¬ (dom H p ∨ p = D3) := by
        rintro (z | z)
        · exact not_dom (e.free hp) (dom_ext W.ex W.de z)
        · rw [z, hl] at hp
          cases hp
      refine ⟨tv, s5 _ _ hl, szlt (by omega), same_upd (e.trans s5) hD3 _, tv ++ [.ref p], zss ++ [zs], upd_same, ?_, by rw [List.length_append, List.length_singleton, lz], fun zs' h => ?_⟩
      · rw [List.map_append]
        exact ((rp.mono (Ext.of_same s5)).snoc (.tup np upd_same (RpAll.strs zs))).mono (Ext.put (.inr rfl) _)
      · rcases List.mem_append.mp h with y | y
        · exact hz zs' y
        · rw [List.mem_singleton.mp y]
          exact ⟨h7, h8⟩
    rintro H13 ⟨e13, tv, zss, hl, rp, lz, hz⟩
    rw [List.length_map] at lz
    refine ⟨D3, tv, rfl, .inl ⟨SqL.of hl, fun p9 hp9 => ?_⟩⟩
    have s9 := same_new hp9 (.tup tv)
    have T9 := e13.trans s9
    refine ⟨_, rfl, OL, ov, rfl, .inl ⟨SqL.of (T9 _ _ W.ol), fun p10 hp10 => ?_⟩⟩
    have s10 := same_new hp10 (.tup ov)
    refine ⟨(by show 2 ≤ sizeLine; decide), fun p11 hp11 => ?_⟩
    have s11 := same_new hp11 (.tup [.ref p9, .ref p10])
    have T11 := T9.trans (s10.trans s11)
    have fresh : ∀ {H' : Hp} {p : Addr}, Same H12 H' → H' p = none → ¬ dom H p := fun e hp z => not_dom (e.free hp) (dom_ext W.ex W.de z)
    have ok : DoorOk n zss ords := {
      tl := by omega
      tr := fun zs h => ⟨(hz zs h).1, fun z hz2 => wordsD_ok z ((hz zs h).2 z hz2)⟩
      ol := by omega
      oo := W.os
      n5 := n5 }
    have r9 : Rp (dom H) (upd H13 p9 (.tup tv)) (.ref p9) (.tuple (zss.map rowD)) := .tup (fresh e13 hp9) upd_same ((rp.weak2 fun b h => .inl h).mono (Ext.of_same s9))
    have r10 : Rp (dom H) (upd (upd H13 p9 (.tup tv)) p10 (.tup ov)) (.ref p10) (.tuple (ords.map ordD)) := .tup (fresh T9 hp10) upd_same ((W.od.weak2 fun b h => .inl h).mono (Ext.of_same (T9.trans s10)))
    exact q _ zss ords _ (W.ex.trans (Ext.of_same T11)) (W.de.same T11) (.tup (fresh (T9.trans s10) hp11) upd_same (.cons (r9.mono (Ext.of_same (s10.trans s11))) (.cons (r10.mono (Ext.of_same s11)) .nil))) ok
end
end Rw
namespace Rw
open PySem L2
/-! ### what is wrong with the rooms, the ways, the house: the mirror, and the program's own defs -/
def waysE (m : Int) : Nat → List PyData → PyData
  | _, [] => .none
  | i, d :: r => if isNone (wayE m d) = true then waysE m (i + 1) r else .tuple [.str "way", .int (i : Nat), wayE m d]
def roomE (n : Nat) (d : PyData) : PyData := if isNone d = true then .none else doorE n d
def roomsE (n : Nat) : Nat → List PyData → PyData
  | _, [] => .none
  | i, d :: r => if isNone (roomE n d) = true then roomsE n (i + 1) r else .tuple [.str "room", .int (i : Nat), roomE n d]
theorem waysE_nil (m : Int) (i : Nat) : waysE m i [] = .none := rfl
theorem waysE_cons (m : Int) (i : Nat) (d : PyData) (r : List PyData) : waysE m i (d :: r) = if isNone (wayE m d) = true then waysE m (i + 1) r else .tuple [.str "way", .int (i : Nat), wayE m d] := rfl
theorem roomsE_nil (n : Nat) (i : Nat) : roomsE n i [] = .none := rfl
theorem roomsE_cons (n : Nat) (i : Nat) (d : PyData) (r : List PyData) : roomsE n i (d :: r) = if isNone (roomE n d) = true then roomsE n (i + 1) r else .tuple [.str "room", .int (i : Nat), roomE n d] := rfl
def houseE (d : PyData) : PyData := match d with
  | .tuple [.tuple rs, .tuple ws] =>
    if 1 ≤ rs.length ∧ rs.length ≤ 6 then
      if 1 ≤ ws.length ∧ ws.length ≤ 5 then
        if isNone (roomsE ws.length 0 rs) = true then waysE ((rs.length : Nat) : Int) 0 ws else roomsE ws.length 0 rs
      else .str "hands"
    else .str "rooms"
  | _ => .str "form"
theorem houseE_form {d : PyData} (h : ¬ pairT d = true) : houseE d = .str "form" := by
  unfold houseE
  split
  · exact absurd rfl h
  · rfl
theorem houseE_pair (rs ws : List PyData) : houseE (.tuple [.tuple rs, .tuple ws]) = if 1 ≤ rs.length ∧ rs.length ≤ 6 then
      if 1 ≤ ws.length ∧ ws.length ≤ 5 then
        if isNone (roomsE ws.length 0 rs) = true then waysE ((rs.length : Nat) : Int) 0 ws else roomsE ws.length 0 rs
      else .str "hands"
    else .str "rooms" := rfl
theorem Gives.triple {x : Str} {i : Int} {e : PyData} {v : V} {H H3 : Hp} {Q : VK} (g : Gives (.tuple [.str x, .int i, e]) H Q) (s : Same H H3) (re : Rp (fun b => ∃ o, H b = some o) H3 v e) {p : Addr} (hp : H3 p = none) : Q (.ref p) (upd H3 p (.tup [.str x, .int i, v])) := by
  refine g _ _ (s.trans (same_new hp _)) (.tup ?_ upd_same (.cons (.str _) (.cons (.int _) (.cons (re.mono (Ext.of_same (same_new hp _))) .nil))))
  rintro ⟨o, ho⟩
  rw [s _ _ ho] at hp
  cases hp
theorem nn_of {av : Addr → Prop} {H : Hp} {v : V} {d : PyData} (h : Rp av H v d) (n : ¬ isNone d = true) : ¬ v = V.non := fun e => by
  subst e
  cases h
  exact n rfl
def spWaysE : Sp := fun vs H Q _ => ∃ (av : Addr → Prop) (v : V) (ds : List PyData) (m : Int), vs = [.int m, v] ∧ Rp av H v (.tuple ds) ∧ Gives (waysE m 0 ds) H Q
def spRoomsE : Sp := fun vs H Q _ => ∃ (av : Addr → Prop) (v : V) (ds : List PyData) (n : Nat), vs = [v, .int (n : Nat)] ∧ Rp av H v (.tuple ds) ∧ n ≤ 1000 ∧ PyData.weightAll ds ≤ 600000 ∧ Gives (roomsE n 0 ds) H Q
def spHouseE : Sp := fun vs H Q _ => ∃ (av : Addr → Prop) (v : V) (d : PyData), vs = [v] ∧ Rp av H v d ∧ d.weight ≤ 600000 ∧ Gives (houseE d) H Q
abbrev sRoomsE : Stmt := top 21
abbrev sWaysE : Stmt := top 22
abbrev sHouseE : Stmt := top 23
section
variable {P : Program} {w : World} {K : PySem.W.Frag} {mg : Str → Option Value} {base : Heap} {f : Addr} {fd : FuncData}
theorem scWaysE : FnScope ["many", "ways", "hand", "way", "error"] ["many", "ways"] (defScope sWaysE) := ⟨rfl, rfl, rfl, by decide +kernel, rfl, by decide +kernel, by decide +kernel⟩
theorem ok_waysE (F : Fun K "ways_error" "ways_error" sWaysE f fd) (B : Blt mg) (DW : Dfn P w K mg base "way_error" ["many", "value"] 4 spWayError) : FnOk P w K mg base CX0 5 f fd ["many", "ways"] spWaysE := by
  refine F.ok scWaysE (fun vs H Q E h => ?_) (fun cdv A outer s H vs Q E hr h => ?_)
  · obtain ⟨_, _, _, _, rfl, _⟩ := h
    rfl
  obtain ⟨av, v, ds, m, rfl, hd, q⟩ := h
  have nd := scWaysE.nd
  refine ⟨_, pss_cons (ps_for PassesOwn.never rfl (pi_enumT (by rfl) B.enu (pa_cons (pv 1) pa_nil)) (pg_tup rfl (pgs_cons (pg_name (i := 2) nd rfl (Or.inl rfl)) (pgs_cons (pg_name (i := 3) nd rfl (Or.inl rfl)) pgs_nil)))
      (pss_cons (ps_set (i := 4) nd rfl (Or.inl rfl) (pe_own DW hr (pa_cons (pv 0) (pa_cons (pv 3) pa_nil))))
        (pss_one (ps_if (pt_cmpR op_notN (pv 4) pe_non (nomark _)) (pss_one (ps_ret (pe_tup (pa_cons pe_str (pa_cons (pv 2) (pa_cons (pv 4) pa_nil)))))) pss_nil))))
    (pss_one (ps_ret pe_non)), ?_⟩
  obtain ⟨a, xs, rfl, _, ha, hx⟩ := hd.get_tup
  have hl := hx.len
  refine ⟨_, rfl, a, xs, rfl, SqT.of ha, for_it (walk_enumT (K := K) (a := a) (xs := xs)) (fun i σ H' => ∃ (v2 v3 v4 : Option V), σ = [some (.int m), some (.ref a), v2, v3, v4] ∧ Same H H' ∧ waysE m i (ds.drop i) = waysE m 0 ds) ⟨none, none, none, rfl, Same.refl _, rfl⟩ ?_ ?_ ?_⟩
  · rintro i σ H' _ ⟨_, _, _, _, s1, _⟩
    exact SqT.of (s1 _ _ ha)
  · rintro i x σ H1 H2 hi ⟨v2, v3, v4, rfl, s1, hb1⟩ ⟨T, x1, y, rfl, hT, rfl, e1, hy⟩
    cases (Option.some.inj e1)
    obtain ⟨d, hdi, hry⟩ := hx.at hy
    have s2 : Same H (upd H1 T (.tup [.int (i : Nat), y])) := s1.trans (same_new hT _)
    rw [drop_at hdi, waysE_cons] at hb1
    refine ⟨T, _, rfl, SqT.of upd_same, rfl, _, _, rfl, _, _, rfl, rfl, ?_⟩
    generalize upd H1 T (.tup [.int (i : Nat), y]) = H3 at s2
    refine ⟨_, rfl, _, rfl, av, y, d, m, rfl, hry.mono (Ext.of_same s2), fun ev H4 s3 re => ?_⟩
    have s4 := s2.trans s3
    refine ⟨_, rfl, rfl, _, rfl, ?_⟩
    by_cases c2 : isNone (wayE m d) = true
    · rw [if_pos c2] at hb1
      rw [isNone_of c2] at re
      cases re.get_non
      refine iteZ (by decide) ?_
      exact ⟨_, _, _, rfl, s4, hb1⟩
    · rw [if_neg c2] at hb1
      refine iteY (by rw [decide_eq_false (nn_of re c2)]; rfl) ?_
      rw [← hb1] at q
      refine ⟨_, rfl, _, rfl, (by show 3 ≤ sizeLine; decide), fun p hp => ?_⟩
      exact Gives.triple q s4 (re.weak fun b ⟨o, h⟩ => ⟨o, s2 _ _ h⟩) hp
  · rintro σ H' ⟨v2, v3, v4, rfl, s1, hb1⟩
    rw [hl, List.drop_length, waysE_nil] at hb1
    rw [← hb1] at q
    exact q _ _ s1 .non
theorem scRoomsE : FnScope ["rooms", "hands", "room", "made", "error"] ["rooms", "hands"] (defScope sRoomsE) := ⟨rfl, rfl, rfl, by decide +kernel, rfl, by decide +kernel, by decide +kernel⟩
theorem ok_roomsE (F : Fun K "rooms_error" "rooms_error" sRoomsE f fd) (B : Blt mg) (DD : Dfn P w K mg base "door_error" ["hands", "value"] 4 spDoorE) : FnOk P w K mg base CX0 5 f fd ["rooms", "hands"] spRoomsE := by
  refine F.ok scRoomsE (fun vs H Q E h => ?_) (fun cdv A outer s H vs Q E hr h => ?_)
  · obtain ⟨_, _, _, _, rfl, _⟩ := h
    rfl
  obtain ⟨av, v, ds, n, rfl, hd, hn, wd, q⟩ := h
  have nd := scRoomsE.nd
  refine ⟨_, pss_cons (ps_for PassesOwn.never rfl (pi_enumT (by rfl) B.enu (pa_cons (pv 0) pa_nil)) (pg_tup rfl (pgs_cons (pg_name (i := 2) nd rfl (Or.inl rfl)) (pgs_cons (pg_name (i := 3) nd rfl (Or.inl rfl)) pgs_nil)))
      (pss_cons (ps_set (i := 4) nd rfl (Or.inl rfl) pe_non)
      (pss_cons (ps_if (pt_cmpR op_notN (pv 3) pe_non (nomark _)) (pss_one (ps_set (i := 4) nd rfl (Or.inl rfl) (pe_own DD hr (pa_cons (pv 1) (pa_cons (pv 3) pa_nil))))) pss_nil)
        (pss_one (ps_if (pt_cmpR op_notN (pv 4) pe_non (nomark _)) (pss_one (ps_ret (pe_tup (pa_cons pe_str (pa_cons (pv 2) (pa_cons (pv 4) pa_nil)))))) pss_nil)))))
    (pss_one (ps_ret pe_non)), ?_⟩
  obtain ⟨a, xs, rfl, _, ha, hx⟩ := hd.get_tup
  have hl := hx.len
  refine ⟨_, rfl, a, xs, rfl, SqT.of ha, for_it (walk_enumT (K := K) (a := a) (xs := xs)) (fun i σ H' => ∃ (v2 v3 v4 : Option V), σ = [some (.ref a), some (.int (n : Nat)), v2, v3, v4] ∧ Same H H' ∧ roomsE n i (ds.drop i) = roomsE n 0 ds) ⟨none, none, none, rfl, Same.refl _, rfl⟩ ?_ ?_ ?_⟩
  · rintro i σ H' _ ⟨_, _, _, _, s1, _⟩
    exact SqT.of (s1 _ _ ha)
  · rintro i x σ H1 H2 hi ⟨v2, v3, v4, rfl, s1, hb1⟩ ⟨T, x1, y, rfl, hT, rfl, e1, hy⟩
    cases (Option.some.inj e1)
    obtain ⟨d, hdi, hry⟩ := hx.at hy
    have s2 : Same H (upd H1 T (.tup [.int (i : Nat), y])) := s1.trans (same_new hT _)
    rw [drop_at hdi, roomsE_cons] at hb1
    refine ⟨T, _, rfl, SqT.of upd_same, rfl, _, _, rfl, _, _, rfl, rfl, ?_⟩
    generalize upd H1 T (.tup [.int (i : Nat), y]) = H3 at s2
    have ry3 := hry.mono (Ext.of_same s2)
    refine ⟨_, rfl, rfl, _, rfl, ?_⟩
    by_cases c1 : isNone d = true
    · have e1 : roomE n d = .none := if_pos c1
      rw [e1] at hb1
      rw [isNone_of c1] at ry3
      cases ry3.get_non
      refine iteZ (by decide) ?_
      refine ⟨_, rfl, rfl, _, rfl, ?_⟩
      refine iteZ (by decide) ?_
      exact ⟨_, _, _, rfl, s2, hb1⟩
    have e1 : roomE n d = doorE n d := if_neg c1
    rw [e1] at hb1
    refine iteY (by rw [decide_eq_false (nn_of ry3 c1)]; rfl) ?_
    have wdd : d.weight ≤ 600000 := by
      have := wA_mem (List.mem_of_getElem? hdi)
      omega
    refine ⟨_, rfl, _, rfl, av, y, d, n, rfl, ry3, hn, wdd, fun ev H4 s3 re => ?_⟩
    have s4 := s2.trans s3
    refine ⟨_, rfl, rfl, _, rfl, ?_⟩
    by_cases c2 : isNone (doorE n d) = true
    · rw [if_pos c2] at hb1
      rw [isNone_of c2] at re
      cases re.get_non
      refine iteZ (by decide) ?_
      exact ⟨_, _, _, rfl, s4, hb1⟩
    · rw [if_neg c2] at hb1
      refine iteY (by rw [decide_eq_false (nn_of re c2)]; rfl) ?_
      rw [← hb1] at q
      refine ⟨_, rfl, _, rfl, (by show 3 ≤ sizeLine; decide), fun p hp => ?_⟩
      exact Gives.triple q s4 (re.weak fun b ⟨o, h⟩ => ⟨o, s2 _ _ h⟩) hp
  · rintro σ H' ⟨v2, v3, v4, rfl, s1, hb1⟩
    rw [hl, List.drop_length, roomsE_nil] at hb1
    rw [← hb1] at q
    exact q _ _ s1 .non
end
end Rw
namespace Rw
open PySem L2
section
variable {P : Program} {w : World} {K : PySem.W.Frag} {mg : Str → Option Value} {base : Heap} {f : Addr} {fd : FuncData}
theorem scHouseE : FnScope ["value", "rooms", "ways", "error"] ["value"] (defScope sHouseE) := ⟨rfl, rfl, rfl, by decide +kernel, rfl, by decide +kernel, by decide +kernel⟩
theorem ok_houseE (F : Fun K "house_error" "house_error" sHouseE f fd) (B : Blt mg) (h6 : ∃ t, mg "MAX_ROOMS" = some (.int 6 t)) (h5 : ∃ t, mg "MAX_HANDS" = some (.int 5 t))
    (DP : Dfn P w K mg base "is_pair_of_tuples" ["value"] 2 spPairT) (DR : Dfn P w K mg base "rooms_error" ["rooms", "hands"] 5 spRoomsE) (DW : Dfn P w K mg base "ways_error" ["many", "ways"] 5 spWaysE) : FnOk P w K mg base CX0 6 f fd ["value"] spHouseE := by
  refine F.ok scHouseE (fun vs H Q E h => ?_) (fun cdv A outer s H vs Q E hr h => ?_)
  · obtain ⟨_, _, _, rfl, _⟩ := h
    rfl
  obtain ⟨av, v, d, rfl, hd, wd, q⟩ := h
  obtain ⟨t1, h6⟩ := h6
  obtain ⟨t2, h5⟩ := h5
  have nd := scHouseE.nd
  have hr2 : Room 2 (A.deeper (PyProof.Rows.envOfC "house_error" (defScope sHouseE) s.heap.objs.size f cdv)) := hr.mono (by omega)
  refine ⟨_, pss_cons (ps_if (pt_not (pt_val (pe_own DP hr2 (pa_cons (pv 0) pa_nil)))) (pss_one (ps_ret pe_str)) pss_nil)
    (pss_cons (ps_asg (pv 0) (pg_tup rfl (pgs_cons (pg_name (i := 1) nd rfl (Or.inl rfl)) (pgs_cons (pg_name (i := 2) nd rfl (Or.inl rfl)) pgs_nil))))
    (pss_cons (ps_if (pt_not (pt_chain op_le op_le pe_int (pe_callB call_len_seq (by rfl) B.len PySem.boot_len (pa_cons (pv 1) pa_nil)) (pe_glob (v := .int 6) (by rfl) h6 ⟨_, rfl⟩))) (pss_one (ps_ret pe_str)) pss_nil)
    (pss_cons (ps_if (pt_not (pt_chain op_le op_le pe_int (pe_callB call_len_seq (by rfl) B.len PySem.boot_len (pa_cons (pv 2) pa_nil)) (pe_glob (v := .int 5) (by rfl) h5 ⟨_, rfl⟩))) (pss_one (ps_ret pe_str)) pss_nil)
    (pss_cons (ps_set (i := 3) nd rfl (Or.inl rfl) (pe_own DR hr (pa_cons (pv 1) (pa_cons (pe_callB call_len_seq (by rfl) B.len PySem.boot_len (pa_cons (pv 2) pa_nil)) pa_nil))))
    (pss_cons (ps_if (pt_cmpR op_isN (pv 3) pe_non (nomark _)) (pss_one (ps_set (i := 3) nd rfl (Or.inl rfl) (pe_own DW hr (pa_cons (pe_callB call_len_seq (by rfl) B.len PySem.boot_len (pa_cons (pv 1) pa_nil)) (pa_cons (pv 2) pa_nil))))) pss_nil)
    (pss_one (ps_ret (pv 3)))))))), ?_⟩
  refine ⟨_, rfl, av, v, d, rfl, hd, _, rfl, ?_⟩
  by_cases c : pairT d = true
  case neg =>
    refine iteY (by simpa using c) ?_
    rw [houseE_form c] at q
    exact q _ _ (Same.refl _) (.str _)
  refine iteZ (by simpa using c) ?_
  obtain ⟨rs, ws, rfl⟩ := pairT_of c
  obtain ⟨t, xs, rfl, _, ht, hx⟩ := hd.get_tup
  cases hx with
  | cons r1 r2 =>
  cases r2 with
  | cons r2 r3 =>
  cases r3
  rw [houseE_pair] at q
  obtain ⟨a1, x1, rfl, _, ha1, hx1⟩ := r1.get_tup
  obtain ⟨a2, x2, rfl, _, ha2, hx2⟩ := r2.get_tup
  have l1 := hx1.len
  have l2 := hx2.len
  refine ⟨_, rfl, t, _, rfl, SqT.of ht, rfl, _, _, rfl, _, _, rfl, rfl, ?_⟩
  refine ⟨_, rfl, a1, x1, rfl, .inr (SqT.of ha1), _, _, rfl, rfl, _, rfl, ?_⟩
  have rooms : ¬ (1 ≤ rs.length ∧ rs.length ≤ 6) → Q (.str "rooms") H := fun n => by
    rw [if_neg n] at q
    exact q _ _ (Same.refl _) (.str _)
  by_cases b1 : (1 : Int) ≤ ((x1.length : Nat) : Int)
  case neg =>
    refine iteZ (by simpa using b1) ?_
    refine ⟨_, rfl, ?_⟩
    refine iteY (by rfl) ?_
    exact rooms (by omega)
  refine iteY (by simpa using b1) ?_
  refine ⟨_, _, rfl, rfl, _, rfl, ?_⟩
  by_cases b2 : ((x1.length : Nat) : Int) ≤ 6
  case neg =>
    refine iteY (by simpa using b2) ?_
    exact rooms (by omega)
  refine iteZ (by simpa using b2) ?_
  rw [if_pos (show 1 ≤ rs.length ∧ rs.length ≤ 6 by omega)] at q
  refine ⟨_, rfl, a2, x2, rfl, .inr (SqT.of ha2), _, _, rfl, rfl, _, rfl, ?_⟩
  have hands : ¬ (1 ≤ ws.length ∧ ws.length ≤ 5) → Q (.str "hands") H := fun n => by
    rw [if_neg n] at q
    exact q _ _ (Same.refl _) (.str _)
  by_cases b3 : (1 : Int) ≤ ((x2.length : Nat) : Int)
  case neg =>
    refine iteZ (by simpa using b3) ?_
    refine ⟨_, rfl, ?_⟩
    refine iteY (by rfl) ?_
    exact hands (by omega)
  refine iteY (by simpa using b3) ?_
  refine ⟨_, _, rfl, rfl, _, rfl, ?_⟩
  by_cases b4 : ((x2.length : Nat) : Int) ≤ 5
  case neg =>
    refine iteY (by simpa using b4) ?_
    exact hands (by omega)
  refine iteZ (by simpa using b4) ?_
  rw [if_pos (show 1 ≤ ws.length ∧ ws.length ≤ 5 by omega), ← l1, ← l2] at q
  have w1 : PyData.weightAll rs ≤ 600000 := by
    simp only [PyData.weight, PyData.weightAll] at wd
    omega
  refine ⟨_, rfl, _, rfl, a2, x2, rfl, .inr (SqT.of ha2), av, _, rs, x2.length, rfl, r1, by omega, w1, fun err H1 s1 re => ?_⟩
  refine ⟨_, rfl, rfl, _, rfl, ?_⟩
  by_cases c2 : isNone (roomsE x2.length 0 rs) = true
  · rw [if_pos c2] at q
    rw [isNone_of c2] at re
    cases re.get_non
    refine iteY (decide_eq_true rfl) ?_
    refine ⟨_, rfl, a1, x1, rfl, .inr (SqT.of (s1 _ _ ha1)), _, rfl, av, _, ws, _, rfl, r2.mono (Ext.of_same s1), fun err2 H2 s2 re2 => ⟨_, rfl, Gives.ext q s1 _ _ s2 re2⟩⟩
  · rw [if_neg c2] at q
    refine iteZ (by rw [decide_eq_false (nn_of re c2)]; decide) ?_
    exact ⟨_, rfl, q _ _ s1 re⟩
end
end Rw
namespace Rw
open PySem L2
abbrev sHouseF : Stmt := top 43
section
variable {P : Program} {w : World} {K : PySem.W.Frag} {mg : Str → Option Value} {base : Heap} {f : Addr} {fd : FuncData}
theorem scHouseF : FnScope ["value", "rooms", "ways", "room", "door", "error", "hand", "way", "own"] ["value"] (defScope sHouseF) := ⟨rfl, rfl, rfl, by decide +kernel, rfl, by decide +kernel, by decide +kernel⟩
theorem ok_houseF (F : Fun K "_law_house_fault" "_law_house_fault" sHouseF f fd) (B : Blt mg) (DF : Dfn P w K mg base "_law_door_fault" ["hands", "value"] 3 spDoorE) (DW : Dfn P w K mg base "_law_way_fault" ["many", "value"] 2 spWayError) : FnOk P w K mg base CX0 4 f fd ["value"] spHouseE := by
  refine F.ok scHouseF (fun vs H Q E h => ?_) (fun cdv A outer s H vs Q E hr h => ?_)
  · obtain ⟨_, _, _, rfl, _⟩ := h
    rfl
  obtain ⟨av, v, d, rfl, hd, wd, q⟩ := h
  have nd := scHouseF.nd
  have hr2 : Room 2 (A.deeper (PyProof.Rows.envOfC "_law_house_fault" (defScope sHouseF) s.heap.objs.size f cdv)) := hr.mono (by omega)
  have hu0 : (A.deeper (PyProof.Rows.envOfC "_law_house_fault" (defScope sHouseF) s.heap.objs.size f cdv)).units < cLine := by
    have := hu_of hr
    omega
  refine ⟨_, pss_cons (ps_if (PW.pt (pw_or (pt_not (pt_val (pe_isi (n := "tuple") (by simp) (pv 0) B.isi B.tup bt_tuple))) (pw_or (pt_cmpR op_ne (pe_callB call_len_seq (by rfl) B.len PySem.boot_len (pa_cons (pv 0) pa_nil)) pe_int (nomark _)) (pw_or1 (pt_cmpR (r := rNoneL K true) (op_neNone hu0)
      (pe_lc (own := [("own", 8)]) (g := gName 8) (tt := tNot (tB (tCB (rIsD K "tuple") (tCons (tVar 8) (tCons (tC (.ty "tuple")) tNil))))) rfl nd (pi_tup (pv 0)) (blkOk_by (N := ["value", "rooms", "ways", "room", "door", "error", "hand", "way", "own"]) (sc := defScope sHouseF) (by decide +kernel)) (fun _ _ _ _ _ => pg_name (i := 8) nd rfl (Or.inl rfl))
        (fun _ _ _ _ _ => by exact pts_one (pt_not (pt_val (pe_isi (n := "tuple") (by simp) (pv 8) B.isi B.tup bt_tuple)))) (fun _ _ _ _ _ => pv 8)) (pe_lst pa_nil) (nomark _)))))) (pss_one (ps_ret pe_str)) pss_nil)
    (pss_cons (ps_asg (pv 0) (pg_tup rfl (pgs_cons (pg_name (i := 1) nd rfl (Or.inl rfl)) (pgs_cons (pg_name (i := 2) nd rfl (Or.inl rfl)) pgs_nil))))
    (pss_cons (ps_if (pt_not (pt_chain op_le op_le pe_int (pe_callB call_len_seq (by rfl) B.len PySem.boot_len (pa_cons (pv 1) pa_nil)) pe_int)) (pss_one (ps_ret pe_str)) pss_nil)
    (pss_cons (ps_if (pt_not (pt_chain op_le op_le pe_int (pe_callB call_len_seq (by rfl) B.len PySem.boot_len (pa_cons (pv 2) pa_nil)) pe_int)) (pss_one (ps_ret pe_str)) pss_nil)
    (pss_cons (ps_for PassesOwn.never rfl (pi_enumT (by rfl) B.enu (pa_cons (pv 1) pa_nil)) (pg_tup rfl (pgs_cons (pg_name (i := 3) nd rfl (Or.inl rfl)) (pgs_cons (pg_name (i := 4) nd rfl (Or.inl rfl)) pgs_nil)))
      (pss_cons (ps_set (i := 5) nd rfl (Or.inl rfl) (pe_ifExp (pt_cmpR op_isN (pv 4) pe_non (nomark _)) pe_non (pe_own DF hr (pa_cons (pe_callB call_len_seq (by rfl) B.len PySem.boot_len (pa_cons (pv 2) pa_nil)) (pa_cons (pv 4) pa_nil)))))
      (pss_one (ps_if (pt_cmpR op_notN (pv 5) pe_non (nomark _)) (pss_one (ps_ret (pe_tup (pa_cons pe_str (pa_cons (pv 3) (pa_cons (pv 5) pa_nil)))))) pss_nil))))
    (pss_cons (ps_for PassesOwn.never rfl (pi_enumT (by rfl) B.enu (pa_cons (pv 2) pa_nil)) (pg_tup rfl (pgs_cons (pg_name (i := 6) nd rfl (Or.inl rfl)) (pgs_cons (pg_name (i := 7) nd rfl (Or.inl rfl)) pgs_nil)))
      (pss_cons (ps_set (i := 5) nd rfl (Or.inl rfl) (pe_own DW hr2 (pa_cons (pe_callB call_len_seq (by rfl) B.len PySem.boot_len (pa_cons (pv 1) pa_nil)) (pa_cons (pv 7) pa_nil))))
      (pss_one (ps_if (pt_cmpR op_notN (pv 5) pe_non (nomark _)) (pss_one (ps_ret (pe_tup (pa_cons pe_str (pa_cons (pv 6) (pa_cons (pv 5) pa_nil)))))) pss_nil))))
    (pss_one (ps_ret pe_non))))))), ?_⟩
  have form : ∀ {H' : Hp}, Same H H' → ¬ pairT d = true → Q (.str "form") H' := fun s1 c => by
    rw [houseE_form c] at q
    exact q _ _ s1 (.str _)
  refine ⟨_, rfl, av, v, d, rfl, hd, _, rfl, ?_⟩
  by_cases c0 : isT "tuple" d = true
  case neg =>
    refine iteY (by simpa using c0) ?_
    refine iteT (B := True) ?_
    exact form (Same.refl _) fun z => by
      obtain ⟨ts, os, e⟩ := pairT_of z
      exact c0 (isT_tup.mpr ⟨_, e⟩)
  obtain ⟨ds, rfl⟩ := isT_tup.mp c0
  refine iteZ (by simpa using c0) ?_
  obtain ⟨t, xs, rfl, _, ht, hx⟩ := hd.get_tup
  have lx := hx.len
  refine ⟨_, rfl, t, xs, rfl, .inr (SqT.of ht), rfl, _, rfl, ?_⟩
  by_cases c1 : ds.length = 2
  case neg =>
    refine iteY (by have := hx.len; simp; omega) ?_
    refine iteT (B := True) ?_
    exact form (Same.refl _) fun z => by
      obtain ⟨ts, os, e⟩ := pairT_of z
      cases e
      exact c1 rfl
  refine iteZ (by have := hx.len; simp; omega) ?_
  refine ⟨_, rfl, t, rfl, ⟨_, SqT.of ht⟩, fun D hD => ?_⟩
  refine lc_tup (K := K) (a := t) (xs := xs) (fun j H' => Same H H' ∧ ∃ ws : List V, H' D = some (.lst ws) ∧ ws.length ≤ j ∧ decide (ws = []) = (ds.take j).all (isT "tuple")) ?_ ?_ ?_ ?_
  · exact ⟨same_new hD _, [], upd_same, Nat.le_refl _, rfl⟩
  · rintro j H' _ ⟨e, _⟩
    exact SqT.of (e _ _ ht)
  · rintro j x H' hj ⟨e, ws, hl, lw, ew⟩
    obtain ⟨dj, hdj, rj⟩ := hx.at hj
    have hj2 : j < ds.length := (List.getElem?_eq_some_iff.mp hdj).1
    refine ⟨rfl, ?_⟩
    refine ⟨_, rfl, av, x, dj, rfl, rj.mono (Ext.of_same e), _, rfl, ?_⟩
    by_cases c3 : isT "tuple" dj = true
    · refine iteZ (by rw [c3]; decide) ?_
      refine ⟨e, ws, hl, by omega, ?_⟩
      rw [all_snoc hdj, c3, Bool.and_true]
      exact ew
    · have c4 : isT "tuple" dj = false := by simpa using c3
      refine iteY (by rw [c4]; rfl) ?_
      refine ⟨_, rfl, ws, hl, szlt (by omega), same_upd e hD _, ws ++ [x], upd_same, by rw [List.length_append, List.length_singleton]; omega, ?_⟩
      rw [all_snoc hdj, c4, Bool.and_false]
      exact decide_eq_false (by simp)
  rintro H1 ⟨e1, ws, hl, lw, ew⟩
  rw [List.take_of_length_le (by omega)] at ew
  refine ⟨Nat.zero_le _, fun p0 hp0 => ⟨D, p0, ws, rfl, rfl, SqL.of (same_new hp0 _ _ _ hl), SqL.of upd_same, _, rfl, ?_⟩⟩
  have s0 := same_new hp0 (.lst [])
  generalize upd H1 p0 (.lst []) = H0 at s0
  rw [ew]
  have e10 := e1.trans s0
  by_cases c2 : ds.all (isT "tuple") = true
  case neg =>
    have c4 : ds.all (isT "tuple") = false := by simpa using c2
    refine iteY (by rw [c4]; rfl) ?_
    exact form e10 fun z => by
      obtain ⟨ts, os, e⟩ := pairT_of z
      cases e
      exact c2 rfl
  refine iteZ (by rw [c2]; decide) ?_
  have cp : pairT (.tuple ds) = true := by
    show (decide (ds.length = 2) && ds.all (isT "tuple")) = true
    rw [decide_eq_true c1, c2]
    rfl
  clear form
  obtain ⟨rs, zs, ee⟩ := pairT_of cp
  cases ee
  cases hx with
  | cons r1 r2 =>
  cases r2 with
  | cons r2 r3 =>
  cases r3
  rw [houseE_pair] at q
  replace q := Gives.ext q e10
  have r1 := r1.mono (Ext.of_same e10)
  have r2 := r2.mono (Ext.of_same e10)
  have ht := e10 _ _ ht
  clear e10 s0 e1 ew hl hD hp0 hd
  have wo : PyData.weightAll rs ≤ 600000 := by
    simp only [PyData.weight, PyData.weightAll] at wd
    omega
  obtain ⟨a1, x1, rfl, _, ha1, hx1⟩ := r1.get_tup
  obtain ⟨a2, x2, rfl, _, ha2, hx2⟩ := r2.get_tup
  have l1 := hx1.len
  have l2 := hx2.len
  refine ⟨_, rfl, t, _, rfl, SqT.of ht, rfl, _, _, rfl, _, _, rfl, rfl, ?_⟩
  refine ⟨_, rfl, a1, x1, rfl, .inr (SqT.of ha1), _, _, rfl, rfl, _, rfl, ?_⟩
  have rooms : ¬ (1 ≤ rs.length ∧ rs.length ≤ 6) → Q (.str "rooms") H0 := fun n => by
    rw [if_neg n] at q
    exact q _ _ (Same.refl _) (.str _)
  by_cases b1 : (1 : Int) ≤ ((x1.length : Nat) : Int)
  case neg =>
    refine iteZ (by simpa using b1) ?_
    refine ⟨_, rfl, ?_⟩
    refine iteY (by rfl) ?_
    exact rooms (by omega)
  refine iteY (by simpa using b1) ?_
  refine ⟨_, _, rfl, rfl, _, rfl, ?_⟩
  by_cases b2 : ((x1.length : Nat) : Int) ≤ 6
  case neg =>
    refine iteY (by simpa using b2) ?_
    exact rooms (by omega)
  refine iteZ (by simpa using b2) ?_
  rw [if_pos (show 1 ≤ rs.length ∧ rs.length ≤ 6 by omega)] at q
  refine ⟨_, rfl, a2, x2, rfl, .inr (SqT.of ha2), _, _, rfl, rfl, _, rfl, ?_⟩
  have hands : ¬ (1 ≤ zs.length ∧ zs.length ≤ 5) → Q (.str "hands") H0 := fun n => by
    rw [if_neg n] at q
    exact q _ _ (Same.refl _) (.str _)
  by_cases b3 : (1 : Int) ≤ ((x2.length : Nat) : Int)
  case neg =>
    refine iteZ (by simpa using b3) ?_
    refine ⟨_, rfl, ?_⟩
    refine iteY (by rfl) ?_
    exact hands (by omega)
  refine iteY (by simpa using b3) ?_
  refine ⟨_, _, rfl, rfl, _, rfl, ?_⟩
  by_cases b4 : ((x2.length : Nat) : Int) ≤ 5
  case neg =>
    refine iteY (by simpa using b4) ?_
    exact hands (by omega)
  refine iteZ (by simpa using b4) ?_
  rw [if_pos (show 1 ≤ zs.length ∧ zs.length ≤ 5 by omega), ← l1, ← l2] at q
  clear rooms hands
  refine ⟨_, rfl, a1, x1, rfl, SqT.of ha1, for_it (walk_enumT (K := K) (a := a1) (xs := x1)) (fun i σ H' => ∃ (v3 v4 v5 v6 v7 v8 : Option V), σ = [some (.ref t), some (.ref a1), some (.ref a2), v3, v4, v5, v6, v7, v8] ∧ Same H0 H' ∧ roomsE x2.length i (rs.drop i) = roomsE x2.length 0 rs) ⟨_, _, _, _, _, _, rfl, Same.refl _, rfl⟩ ?_ ?_ ?_⟩
  · rintro i σ H' _ ⟨_, _, _, _, _, _, _, s1, _⟩
    exact SqT.of (s1 _ _ ha1)
  · rintro i x σ H1 H2 hi ⟨v3, v4, v5, v6, v7, v8, rfl, s1, hb1⟩ ⟨T, y1, y, rfl, hT, rfl, e1, hy⟩
    cases (Option.some.inj e1)
    obtain ⟨d, hdi, hry⟩ := hx1.at hy
    have s2 : Same H0 (upd H1 T (.tup [.int (i : Nat), y])) := s1.trans (same_new hT _)
    rw [drop_at hdi, roomsE_cons] at hb1
    refine ⟨T, _, rfl, SqT.of upd_same, rfl, _, _, rfl, _, _, rfl, rfl, ?_⟩
    generalize upd H1 T (.tup [.int (i : Nat), y]) = H3 at s2
    have ry3 := hry.mono (Ext.of_same s2)
    refine ⟨_, rfl, rfl, _, rfl, ?_⟩
    by_cases c1 : isNone d = true
    · have e1 : roomE x2.length d = .none := if_pos c1
      rw [e1] at hb1
      rw [isNone_of c1] at ry3
      cases ry3.get_non
      refine iteY (decide_eq_true rfl) ?_
      refine ⟨_, rfl, rfl, _, rfl, ?_⟩
      refine iteZ (by decide) ?_
      exact ⟨_, _, _, _, _, _, rfl, s2, hb1⟩
    have e1 : roomE x2.length d = doorE x2.length d := if_neg c1
    rw [e1] at hb1
    refine iteZ (by rw [decide_eq_false (nn_of ry3 c1)]; decide) ?_
    have wdd : d.weight ≤ 600000 := by
      have := wA_mem (List.mem_of_getElem? hdi)
      omega
    refine ⟨_, rfl, a2, x2, rfl, .inr (SqT.of (s2 _ _ ha2)), _, rfl, av, y, d, x2.length, rfl, ry3, by omega, wdd, fun ev H4 s3 re => ?_⟩
    have s4 := s2.trans s3
    refine ⟨_, rfl, rfl, _, rfl, ?_⟩
    by_cases c2 : isNone (doorE x2.length d) = true
    · rw [if_pos c2] at hb1
      rw [isNone_of c2] at re
      cases re.get_non
      refine iteZ (by decide) ?_
      exact ⟨_, _, _, _, _, _, rfl, s4, hb1⟩
    · rw [if_neg c2] at hb1
      refine iteY (by rw [decide_eq_false (nn_of re c2)]; rfl) ?_
      rw [if_neg (by rw [← hb1]; exact Bool.false_ne_true), ← hb1] at q
      refine ⟨_, rfl, _, rfl, (by show 3 ≤ sizeLine; decide), fun p hp => ?_⟩
      exact Gives.triple q s4 (re.weak fun b ⟨o, h⟩ => ⟨o, s2 _ _ h⟩) hp
  rintro σ H1 ⟨v3, v4, v5, v6, v7, v8, rfl, s1, hb1⟩
  rw [l1, List.drop_length, roomsE_nil] at hb1
  rw [← hb1, if_pos (show isNone PyData.none = true by rfl)] at q
  replace q := Gives.ext q s1
  refine ⟨_, rfl, a2, x2, rfl, SqT.of (s1 _ _ ha2), for_it (walk_enumT (K := K) (a := a2) (xs := x2)) (fun i σ H' => ∃ (v3 v4 v5 v6 v7 v8 : Option V), σ = [some (.ref t), some (.ref a1), some (.ref a2), v3, v4, v5, v6, v7, v8] ∧ Same H1 H' ∧ waysE ((x1.length : Nat) : Int) i (zs.drop i) = waysE ((x1.length : Nat) : Int) 0 zs) ⟨_, _, _, _, _, _, rfl, Same.refl _, rfl⟩ ?_ ?_ ?_⟩
  · rintro i σ H' _ ⟨_, _, _, _, _, _, _, s2, _⟩
    exact SqT.of (s2 _ _ (s1 _ _ ha2))
  · rintro i x σ H2 H3 hi ⟨v3, v4, v5, v6, v7, v8, rfl, s2, hb1⟩ ⟨T, y1, y, rfl, hT, rfl, e1, hy⟩
    cases (Option.some.inj e1)
    obtain ⟨d, hdi, hry⟩ := hx2.at hy
    have s3 : Same H1 (upd H2 T (.tup [.int (i : Nat), y])) := s2.trans (same_new hT _)
    rw [drop_at hdi, waysE_cons] at hb1
    refine ⟨T, _, rfl, SqT.of upd_same, rfl, _, _, rfl, _, _, rfl, rfl, ?_⟩
    generalize upd H2 T (.tup [.int (i : Nat), y]) = H4 at s3
    have ry3 := hry.mono (Ext.of_same (s1.trans s3))
    refine ⟨_, rfl, a1, x1, rfl, .inr (SqT.of (s3 _ _ (s1 _ _ ha1))), _, rfl, av, y, d, _, rfl, ry3, fun ev H5 s4 re => ?_⟩
    have s5 := s3.trans s4
    refine ⟨_, rfl, rfl, _, rfl, ?_⟩
    by_cases c2 : isNone (wayE ((x1.length : Nat) : Int) d) = true
    · rw [if_pos c2] at hb1
      rw [isNone_of c2] at re
      cases re.get_non
      refine iteZ (by decide) ?_
      exact ⟨_, _, _, _, _, _, rfl, s5, hb1⟩
    · rw [if_neg c2] at hb1
      refine iteY (by rw [decide_eq_false (nn_of re c2)]; rfl) ?_
      rw [← hb1] at q
      refine ⟨_, rfl, _, rfl, (by show 3 ≤ sizeLine; decide), fun p hp => ?_⟩
      exact Gives.triple q s5 (re.weak fun b ⟨o, h⟩ => ⟨o, s3 _ _ h⟩) hp
  · rintro σ H' ⟨v3, v4, v5, v6, v7, v8, rfl, s2, hb1⟩
    rw [l2, List.drop_length, waysE_nil] at hb1
    rw [← hb1] at q
    exact q _ _ s2 .non
end
end Rw
namespace Rw
open PySem L2
def GivesSizes (dk gl : Addr) (H : Hp) (Q : VK) : Prop := ∀ (p : Addr) (h r m : Nat) (H' : Hp), Ext (avD dk gl) H H' → DeckAt dk gl H' → H' p = some (.tup [.int (h : Nat), .int (r : Nat), .int (m : Nat)]) → 1 ≤ h → h ≤ 5 → 1 ≤ r → r ≤ 6 → 2 ≤ m → m ≤ 24 → Q (.ref p) H'
def spSizes : Sp := fun vs H Q _ => ∃ (dk gl : Addr), vs = [.ref dk] ∧ DeckAt dk gl H ∧ GivesSizes dk gl H Q
abbrev sSizes : Stmt := top 38
section
variable {P : Program} {w : World} {K : PySem.W.Frag} {mg : Str → Option Value} {base : Heap} {f : Addr} {fd : FuncData}
theorem scSizes : FnScope ["deck", "sort"] ["deck"] (defScope sSizes) := ⟨rfl, rfl, rfl, by decide +kernel, rfl, by decide +kernel, by decide +kernel⟩
theorem ok_sizes (F : Fun K "_law_sizes" "_law_sizes" sSizes f fd) (B : Blt mg) (DD : Dfn P w K mg base "_law_draw" ["deck", "many"] 1 spDraw) (DP : Dfn P w K mg base "_law_pick" ["deck", "items"] 2 spPick) : FnOk P w K mg base CX0 3 f fd ["deck"] spSizes := by
  refine F.ok scSizes (fun vs H Q E h => ?_) (fun cdv A outer s H vs Q E hr h => ?_)
  · obtain ⟨_, _, rfl, _⟩ := h
    rfl
  obtain ⟨dk, gl, rfl, hD, q⟩ := h
  have nd := scSizes.nd
  have hr1 : Room 1 (A.deeper (PyProof.Rows.envOfC "_law_sizes" (defScope sSizes) s.heap.objs.size f cdv)) := hr.mono (by omega)
  refine ⟨_, pss_cons (ps_set (i := 1) nd rfl (Or.inl rfl) (pe_own DD hr1 (pa_cons (pv 0) (pa_cons pe_int pa_nil))))
    (pss_cons (ps_if (pt_cmpR op_eq (pv 1) pe_int (nomark _)) (pss_one (ps_ret (pe_tup (pa_cons pe_int (pa_cons pe_int (pa_cons pe_int pa_nil)))))) pss_nil)
    (pss_cons (ps_if (pt_cmpR op_eq (pv 1) pe_int (nomark _)) (pss_one (ps_ret (pe_tup (pa_cons pe_int (pa_cons (pe_op op_add pe_int (pe_own DD hr1 (pa_cons (pv 0) (pa_cons pe_int pa_nil)))) (pa_cons pe_int pa_nil)))))) pss_nil)
    (pss_one (ps_ret (pe_tup (pa_cons (pe_op op_add pe_int (pe_own DD hr1 (pa_cons (pv 0) (pa_cons pe_int pa_nil)))) (pa_cons (pe_op op_add pe_int (pe_own DD hr1 (pa_cons (pv 0) (pa_cons pe_int pa_nil))))
      (pa_cons (pe_own DP hr (pa_cons (pv 0) (pa_cons (pe_lst (pa_cons pe_int (pa_cons pe_int (pa_cons pe_int (pa_cons pe_int (pa_cons pe_int (pa_cons pe_int pa_nil))))))) pa_nil))) pa_nil)))))))), ?_⟩
  refine ⟨_, rfl, dk, gl, _, rfl, hD, by decide, fun sort H1 e1 D1 s0 s1 => ?_⟩
  refine ⟨_, rfl, rfl, _, rfl, ?_⟩
  refine ite2 (fun _ => ?_) (fun _ => ?_)
  · refine ⟨(by show 3 ≤ sizeLine; decide), fun p hp => ?_⟩
    exact q p 5 6 24 _ (e1.trans (Ext.new hp _)) (D1.same (same_new hp _)) upd_same (by decide) (by decide) (by decide) (by decide) (by decide) (by decide)
  refine ⟨_, rfl, rfl, _, rfl, ?_⟩
  refine ite2 (fun _ => ?_) (fun _ => ?_)
  · refine ⟨_, rfl, dk, gl, _, rfl, D1, by decide, fun a H2 e2 D2 a0 a1 => ?_⟩
    refine ⟨_, _, rfl, rfl, (by show 3 ≤ sizeLine; decide), fun p hp => ?_⟩
    obtain ⟨n, rfl⟩ := Int.eq_ofNat_of_zero_le a0
    have e : (1 : Int) + (n : Int) = ((1 + n : Nat) : Int) := by omega
    show Q (.ref p) (upd H2 p (.tup [.int 1, .int ((1 : Int) + (n : Int)), .int 8]))
    rw [e]
    exact q p 1 (1 + n) 8 _ (e1.trans (e2.trans (Ext.new hp _))) (D2.same (same_new hp _)) upd_same (by decide) (by decide) (by omega) (by omega) (by decide) (by decide)
  refine ⟨_, rfl, dk, gl, _, rfl, D1, by decide, fun a H2 e2 D2 a0 a1 => ?_⟩
  refine ⟨_, _, rfl, rfl, _, rfl, dk, gl, _, rfl, D2, by decide, fun b H3 e3 D3 b0 b1 => ?_⟩
  refine ⟨_, _, rfl, rfl, _, rfl, (by show 6 ≤ sizeLine; decide), fun L hL => ?_⟩
  have D4 := D3.same (same_new hL (.lst [.int 2, .int 4, .int 6, .int 8, .int 12, .int 16]))
  have off := D3.new hL
  refine ⟨dk, gl, L, _, rfl, D4, upd_same, off, by decide, by decide, fun v H4 hv e4 D5 => ?_⟩
  obtain ⟨m, rfl, m2, m24⟩ : ∃ m : Nat, v = .int (m : Nat) ∧ 2 ≤ m ∧ m ≤ 24 := by
    simp only [List.mem_cons, List.not_mem_nil, or_false] at hv
    rcases hv with rfl | rfl | rfl | rfl | rfl | rfl
    · exact ⟨2, rfl, by decide, by decide⟩
    · exact ⟨4, rfl, by decide, by decide⟩
    · exact ⟨6, rfl, by decide, by decide⟩
    · exact ⟨8, rfl, by decide, by decide⟩
    · exact ⟨12, rfl, by decide, by decide⟩
    · exact ⟨16, rfl, by decide, by decide⟩
  refine ⟨(by show 3 ≤ sizeLine; decide), fun p hp => ?_⟩
  obtain ⟨k, rfl⟩ := Int.eq_ofNat_of_zero_le a0
  obtain ⟨n, rfl⟩ := Int.eq_ofNat_of_zero_le b0
  show Q (.ref p) (upd H4 p (.tup [.int ((2 : Int) + (k : Int)), .int ((1 : Int) + (n : Int)), .int (m : Nat)]))
  rw [show (2 : Int) + (k : Int) = ((2 + k : Nat) : Int) by omega, show (1 : Int) + (n : Int) = ((1 + n : Nat) : Int) by omega]
  exact q p (2 + k) (1 + n) m _ (e1.trans (e2.trans (e3.trans ((Ext.new hL _).trans (e4.trans (Ext.new hp _)))))) (D5.same (same_new hp _)) upd_same (by omega) (by omega) (by omega) (by omega) m2 m24
end
end Rw
namespace Rw
open PySem L2
abbrev sHouse : Stmt := top 37
def RoomOk (n : Nat) (d : PyData) : Prop := d = .none ∨ ∃ tab ords, d = doorD tab ords ∧ DoorOk n tab ords
def wayD (st : List (Bool × Int)) : PyData := .tuple (st.map stepD)
def houseD (ds : List PyData) (ws : List (List (Bool × Int))) : PyData := .tuple [.tuple ds, .tuple (ws.map wayD)]
structure HouseOk (n r : Nat) (ds : List PyData) (ws : List (List (Bool × Int))) : Prop where
  dl : ds.length = r
  dd : ∀ d ∈ ds, RoomOk n d
  wl : ws.length = n
  ww : ∀ st ∈ ws, WayOk st
def GivesHouse (dk gl : Addr) (n r : Nat) (H : Hp) (Q : VK) : Prop := ∀ (v : V) (ds : List PyData) (ws : List (List (Bool × Int))) (H' : Hp), Ext (avD dk gl) H H' → DeckAt dk gl H' → Rp (dom H) H' v (houseD ds ws) → HouseOk n r ds ws → Q v H'
def spHouse : Sp := fun vs H Q _ => ∃ (dk gl : Addr) (n r m : Nat), vs = [.ref dk, .int (n : Nat), .int (r : Nat), .int (m : Nat)] ∧ DeckAt dk gl H ∧ 1 ≤ n ∧ n ≤ 5 ∧ 1 ≤ r ∧ r ≤ 6 ∧ 2 ≤ m ∧ m ≤ 24 ∧ GivesHouse dk gl n r H Q
theorem doorB {dk gl : Addr} {sort : Int} {H3 : Hp} {Q : VK} {t7 t8 : Option V} {o1 o2 o3 o5 o6 : Option V} (Dk : DeckAt dk gl H3) (hb : ∀ (b : Bool) (H4 : Hp), Ext (avD dk gl) H3 H4 → DeckAt dk gl H4 → Q (.bl b) H4) :
    (tOrV (tOp rEq (tVar 4) (tC (V.int 1))) (tAndV (tOp (rI0 fun i j => V.bl (decide (j < i))) (tVar 4) (tC (V.int 1))) (tOp rEq (tCall spDraw [] E0 (tCons (tVar 0) (tCons (tC (V.int 2)) tNil))) (tC (V.int 0)))))
      [some (.ref dk), o1, o2, o3, some (.int sort), o5, o6, t7, t8] H3 Q := by
  refine ⟨_, rfl, rfl, _, rfl, ?_⟩
  refine ite2 (fun _ => hb _ _ (Ext.refl) Dk) (fun _ => ?_)
  refine ⟨_, rfl, _, _, rfl, rfl, _, rfl, ?_⟩
  refine ite2 (fun _ => ?_) (fun _ => hb _ _ (Ext.refl) Dk)
  exact ⟨_, rfl, dk, gl, _, rfl, Dk, by decide, fun a H4 e4 D4 _ _ => ⟨rfl, hb _ _ e4 D4⟩⟩
section
variable {P : Program} {w : World} {K : PySem.W.Frag} {mg : Str → Option Value} {base : Heap} {f : Addr} {fd : FuncData}
theorem scHouse : FnScope ["deck", "hands", "rooms", "most", "sort", "found", "room", "is_door", "hand"] ["deck", "hands", "rooms", "most"] (defScope sHouse) := ⟨rfl, rfl, rfl, by decide +kernel, rfl, by decide +kernel, by decide +kernel⟩
theorem ok_house (F : Fun K "_law_house" "_law_house" sHouse f fd) (B : Blt mg) (DD : Dfn P w K mg base "_law_draw" ["deck", "many"] 1 spDraw) (DO : Dfn P w K mg base "_law_door" ["deck", "hands"] 3 spDoor) (DW : Dfn P w K mg base "_law_way" ["deck", "rooms", "most"] 3 spWay) : FnOk P w K mg base CX0 4 f fd ["deck", "hands", "rooms", "most"] spHouse := by
  refine F.ok scHouse (fun vs H Q E h => ?_) (fun cdv A outer s H vs Q E hr h => ?_)
  · obtain ⟨_, _, _, _, _, rfl, _⟩ := h
    rfl
  obtain ⟨dk, gl, n, r, m, rfl, hD, n1, n5, r1, r6, m2, m24, q⟩ := h
  have nd := scHouse.nd
  have hr1 : Room 1 (A.deeper (PyProof.Rows.envOfC "_law_house" (defScope sHouse) s.heap.objs.size f cdv)) := hr.mono (by omega)
  refine ⟨_, pss_cons (ps_par (i := 4) (j := 5) (by rfl) nd rfl rfl (by decide) rfl rfl (pa_cons (pe_own DD hr1 (pa_cons (pv 0) (pa_cons pe_int pa_nil))) (pa_cons (pe_lst pa_nil) pa_nil)) (by rfl))
    (pss_cons (ps_for PassesOwn.never rfl (pi_range1 (by rfl) B.rng (pa_cons (pv 2) pa_nil)) (pg_name (i := 6) nd rfl (Or.inl rfl))
      (pss_cons (ps_set (i := 7) nd rfl (Or.inl rfl) (pe_or (pe_cmpR op_eq (pv 4) pe_int (nomark _)) (pe_one (pe_and (pe_cmpR op_gt (pv 4) pe_int (nomark _)) (pe_one (pe_cmpR op_eq (pe_own DD hr1 (pa_cons (pv 0) (pa_cons pe_int pa_nil))) pe_int (nomark _)))))))
      (pss_one (ps_expr (pe_bm PySem.F.plainAttrs_list PySem.F.slot_list_append PySem.F.type_list_append mt_append (pv 5) (pa_cons (pe_ifExp (pt_val (pv 7)) (pe_own DO hr (pa_cons (pv 0) (pa_cons (pv 1) pa_nil))) pe_non) pa_nil))))))
    (pss_one (ps_ret (pe_tup (pa_cons (pe_callTy call_tuple_of (by rfl) B.tup (by decide +kernel) (pa_cons (pv 5) pa_nil))
      (pa_cons (pe_callTy call_tuple_of (by rfl) B.tup (by decide +kernel) (pa_cons (pe_lc (own := [("hand", 8)]) (g := gName 8) (tt := tYes) rfl nd (pi_range1 (by rfl) B.rng (pa_cons (pv 1) pa_nil))
        (blkOk_by (N := ["deck", "hands", "rooms", "most", "sort", "found", "room", "is_door", "hand"]) (sc := defScope sHouse) (by decide +kernel)) (fun _ _ _ _ _ => pg_name (i := 8) nd rfl (Or.inl rfl)) (fun _ _ _ _ _ => pts_nil) (fun _ _ _ _ _ => pe_own DW hr (pa_cons (pv 0) (pa_cons (pv 2) (pa_cons (pv 3) pa_nil))))) pa_nil)) pa_nil)))))), ?_⟩
  refine ⟨_, rfl, dk, gl, _, rfl, hD, by decide, fun sort H1 e1 D1 s0 s1 => ?_⟩
  refine ⟨Nat.zero_le _, fun FL hFL => ?_⟩
  have nF : ¬ dom H FL := fun z => not_dom hFL (dom_ext e1 D1 z)
  have hF0 : H FL = none := by
    cases z : H FL with
    | none => rfl
    | some o => exact absurd ⟨o, z⟩ nF
  refine ⟨_, _, rfl, _, rfl, _, rfl, by omega, by omega, ?_⟩
  refine for_it (walk_range (lo := 0) (n := r)) (fun i σ H' => ∃ (v6 v7 v8 : Option V) (fv : List V) (ds : List PyData), σ = [some (.ref dk), some (.int (n : Nat)), some (.int (r : Nat)), some (.int (m : Nat)), some (.int sort), some (.ref FL), v6, v7, v8] ∧ Ext (avD dk gl) H H' ∧ DeckAt dk gl H' ∧ H' FL = some (.lst fv) ∧ RpAll (fun b => dom H b ∨ b = FL) H' fv ds ∧ ds.length = i ∧ ∀ d ∈ ds, RoomOk n d)
    ⟨_, _, _, [], [], rfl, e1.trans (Ext.new hFL _), D1.same (same_new hFL _), upd_same, .nil, rfl, fun d h => absurd h (by simp)⟩ (fun _ _ _ _ _ => trivial) ?_ ?_
  · rintro i x σ H2 H3 hi ⟨v6, v7, v8, fv, ds, rfl, eH, Dk, hl, rp, ld, ok⟩ ⟨rfl, ex⟩
    refine doorB (dk := dk) (gl := gl) (sort := sort) Dk (fun b H4 e4 D4 => ?_)
    have nFa : ¬ avD dk gl FL := fun z => nF (dom_deck hD z)
    have hl4 := e4 _ _ nFa hl
    have lfv := rp.len
    have up : ∀ {Ha Hb : Hp}, Ext (avD dk gl) Ha Hb → Ext (fun b => dom H b ∨ b = FL) Ha Hb := fun e b o n h => e b o (fun z => n (.inl (dom_deck hD z))) h
    refine ⟨_, rfl, .inl ⟨rfl, _, SqL.of hl4⟩, _, rfl, _, rfl, ?_⟩
    refine ite2 (fun _ => ?_) (fun _ => ?_)
    · refine ⟨_, rfl, _, rfl, dk, gl, n, rfl, D4, n1, n5, fun v tab ords H5 e5 D5 rv okd => ?_⟩
      refine ⟨FL, _, _, rfl, rfl, e5 _ _ nFa hl4, szlt (by omega), ?_⟩
      refine ⟨_, _, _, fv ++ [v], ds ++ [doorD tab ords], rfl, ext_upd (eH.trans (e4.trans e5)) hF0 _, D5.put nFa _, upd_same, ?_, by rw [List.length_append, List.length_singleton, ld], fun d h => ?_⟩
      · refine ((rp.mono (up (e4.trans e5))).snoc (rv.weak fun b h => ?_)).mono (Ext.put (.inr rfl) _)
        rcases h with z | z
        · exact dom_ext (eH.trans e4) D4 z
        · exact ⟨_, by rw [z]; exact hl4⟩
      · rcases List.mem_append.mp h with y | y
        · exact ok d y
        · exact .inr ⟨tab, ords, List.mem_singleton.mp y, okd⟩
    · refine ⟨FL, _, _, rfl, rfl, hl4, szlt (by omega), ?_⟩
      refine ⟨_, _, _, fv ++ [.non], ds ++ [.none], rfl, ext_upd (eH.trans e4) hF0 _, D4.put nFa _, upd_same, ((rp.mono (up e4)).snoc .non).mono (Ext.put (.inr rfl) _), by rw [List.length_append, List.length_singleton, ld], fun d h => ?_⟩
      rcases List.mem_append.mp h with y | y
      · exact ok d y
      · exact .inl (List.mem_singleton.mp y)
  · rintro σ H2 ⟨v6, v7, v8, fv, ds, rfl, eH, Dk, hl, rp, ld, ok⟩
    refine ⟨_, rfl, FL, fv, rfl, .inl ⟨SqL.of hl, fun p1 hp1 => ?_⟩⟩
    have nd1 : ¬ dom H p1 := fun z => not_dom hp1 (dom_ext eH Dk z)
    have t1 := same_new hp1 (.tup fv)
    have rx : Rp (dom H) (upd H2 p1 (.tup fv)) (.ref p1) (.tuple ds) := .tup nd1 upd_same ((rp.weak2 fun b h => .inl h).mono (Ext.of_same t1))
    have E1 := eH.trans (Ext.of_same t1)
    have D2 := Dk.same t1
    generalize upd H2 p1 (.tup fv) = H3 at rx E1 D2
    refine ⟨_, rfl, _, rfl, by omega, by omega, fun D hDn => ?_⟩
    have nD : ¬ avD dk gl D := D2.new hDn
    have nDd : ¬ dom H D := fun z => not_dom hDn (dom_ext E1 D2 z)
    have hD0 : H3 D = none := hDn
    refine lc_range (lo := 0) (n := n) (fun k H' => Ext (avD dk gl) H3 H' ∧ DeckAt dk gl H' ∧ ∃ (tv : List V) (ws : List (List (Bool × Int))), H' D = some (.lst tv) ∧ RpAll (fun b => dom H b ∨ b = D) H' tv (ws.map wayD) ∧ ws.length = k ∧ ∀ st ∈ ws, WayOk st) ?_ ?_ ?_
    · exact ⟨Ext.new hDn _, D2.same (same_new hDn _), [], [], upd_same, .nil, rfl, fun st h => absurd h (by simp)⟩
    · rintro k H' hk ⟨e, Dk2, tv, ws, hl2, rp2, lw, okw⟩
      refine ⟨rfl, ?_⟩
      refine iteT (B := True) ?_
      refine ⟨_, rfl, _, rfl, _, rfl, dk, gl, _, _, rfl, Dk2, by omega, by omega, by omega, by omega, fun v st H5 e5 D5 rv okst => ?_⟩
      have ltv := rp2.len
      rw [List.length_map] at ltv
      have up : ∀ {Ha Hb : Hp}, Ext (avD dk gl) Ha Hb → Ext (fun b => dom H b ∨ b = D) Ha Hb := fun e b o n h => e b o (fun z => n (.inl (dom_deck hD z))) h
      refine ⟨tv, e5 _ _ nD hl2, szlt (by omega), ext_upd (e.trans e5) hD0 _, D5.put nD _, tv ++ [v], ws ++ [st], upd_same, ?_, by rw [List.length_append, List.length_singleton, lw], fun st' h => ?_⟩
      · rw [List.map_append]
        refine ((rp2.mono (up e5)).snoc (d := wayD st) (rv.weak fun b h => ?_)).mono (Ext.put (.inr rfl) _)
        rcases h with z | z
        · exact dom_ext (E1.trans e) Dk2 z
        · exact ⟨_, by rw [z]; exact hl2⟩
      · rcases List.mem_append.mp h with y | y
        · exact okw st' y
        · rw [List.mem_singleton.mp y]
          exact okst
    rintro H4 ⟨e, Dk2, tv, ws, hl2, rp2, lw, okw⟩
    refine ⟨D, tv, rfl, .inl ⟨SqL.of hl2, fun p2 hp2 => ?_⟩⟩
    have t2 := same_new hp2 (.tup tv)
    have E2 := E1.trans e
    have nd2 : ¬ dom H p2 := fun z => not_dom hp2 (dom_ext E2 Dk2 z)
    have ry : Rp (dom H) (upd H4 p2 (.tup tv)) (.ref p2) (.tuple (ws.map wayD)) := .tup nd2 upd_same ((rp2.weak2 fun b h => .inl h).mono (Ext.of_same t2))
    have E3 := E2.trans (Ext.of_same t2)
    have D3 := Dk2.same t2
    refine ⟨(by show 2 ≤ sizeLine; decide), fun p3 hp3 => ?_⟩
    have t3 := same_new hp3 (.tup [.ref p1, .ref p2])
    have nd3 : ¬ dom H p3 := fun z => not_dom hp3 (dom_ext E3 D3 z)
    have upD : ∀ {Ha Hb : Hp}, Ext (avD dk gl) Ha Hb → Ext (dom H) Ha Hb := fun e b o n h => e b o (fun z => n (dom_deck hD z)) h
    exact q _ ds ws _ (E3.trans (Ext.of_same t3)) (D3.same t3) (.tup nd3 upd_same (.cons ((rx.mono (upD (e.trans (Ext.of_same t2)))).mono (Ext.of_same t3)) (.cons (ry.mono (Ext.of_same t3)) .nil))) { dl := ld, dd := ok, wl := lw, ww := okw }
end
end Rw
namespace Rw
open PySem L2
theorem way_ok2 {st : List (Bool × Int)} (h : WayOk st) : Nc 2 (wayD st) ∧ (wayD st).weight ≤ 4050 := by
  have a : ∀ d ∈ st.map stepD, Nc 1 d ∧ d.weight ≤ 142 := fun d hd => by
    obtain ⟨p, hp, rfl⟩ := List.mem_map.mp hd
    refine pair_ok ?_ (h.rooms p hp)
    cases p.1
    · exact z_out
    · exact z_in
  refine ⟨Nc.tup (NcAll.iff.mpr fun d hd => (a d hd).1), ?_⟩
  have w := w_all fun d hd => (a d hd).2
  have l := h.len
  rw [List.length_map] at w
  show (PyData.tuple (st.map stepD)).weight ≤ 4050
  rw [PyData.weight]
  omega
theorem room_ok2 {n : Nat} {d : PyData} (h : RoomOk n d) : Nc 3 d ∧ d.weight ≤ 3600 := by
  rcases h with rfl | ⟨tab, ords, rfl, h⟩
  · exact ⟨Nc.non, by decide⟩
  · exact door_ok h
theorem house_ok2 {n r : Nat} {ds : List PyData} {ws : List (List (Bool × Int))} (h : HouseOk n r ds ws) (n5 : n ≤ 5) (r6 : r ≤ 6) : Nc 5 (houseD ds ws) ∧ (houseD ds ws).weight ≤ 42000 := by
  have a : ∀ d ∈ ds, Nc 3 d ∧ d.weight ≤ 3600 := fun d hd => room_ok2 (h.dd d hd)
  have b : ∀ d ∈ ws.map wayD, Nc 2 d ∧ d.weight ≤ 4050 := fun d hd => by
    obtain ⟨st, hs, rfl⟩ := List.mem_map.mp hd
    exact way_ok2 (h.ww st hs)
  have wa := w_all fun d hd => (a d hd).2
  have wb := w_all fun d hd => (b d hd).2
  have la := h.dl
  have lb := h.wl
  rw [List.length_map] at wb
  refine ⟨Nc.tup (.cons (Nc.tup (NcAll.iff.mpr fun d hd => (a d hd).1)) (.cons ((Nc.tup (NcAll.iff.mpr fun d hd => (b d hd).1)).up (show 3 ≤ 4 by decide)) .nil)), ?_⟩
  unfold houseD
  rw [PyData.weight]
  rw [PyData.weightAll, PyData.weightAll, PyData.weightAll]
  rw [PyData.weight, PyData.weight]
  omega
end Rw
/-! the end of a law: any number of defs with generator expressions, and a place for sys.modules (so that data with dicts can be shown), behind k_head -/
namespace Rw
open PySem L2 PySem.Spec PyProof.Rows GxR
section
variable {X : Cx}
/-- as call_repr, sys.modules standing in the base -/
theorem call_reprB (hg : X.A.guards = some []) (hu : X.A.units + 102 < cLine) (hk : ∃ o, X.base.get? sysModules = some o) : CallR X (.builtin "repr") (rRepr X.K) := by
  intro pins s σ H xs us Q I r h
  obtain ⟨av, v, d, rfl, rp, hs, hz, hd, q⟩ := h
  obtain ⟨u, rfl, r1⟩ := vals1 r
  obtain ⟨o, hk⟩ := hk
  have off : ∀ {a : Addr} {w : HO}, H a = some w → a ≠ sysModules := fun {a w} e z => by
    have n := (I.bs sysModules o hk).2
    rw [← z, e] at n
    cases n
  obtain ⟨as, rd, ht⟩ := rp.reads I d v u r1
  cases rd with
  | none => exact PySem.P.repr_of_none ⟨.str _, H, I.tok _, ⟨_, rfl⟩, q⟩
  | bool b => exact PySem.P.repr_of_bool ⟨.str _, H, I.tok _, ⟨_, rfl⟩, q⟩
  | int i t => exact PySem.P.repr_of_int (of_decide_eq_true hs) ⟨.str _, H, I.tok _, ⟨_, rfl⟩, q⟩
  | str x t => exact PySem.P.repr_of_str ⟨.str _, H, I.tok _, ⟨_, rfl⟩, q⟩ hz
  | list h1 h2 h3 h4 =>
    refine repr_of_reads' (.list h1 h2 h3 h4) hs (fun _ hm => ?_) hg (by omega) (fun _ _ e => e) (fun h' u tk hk2 => ⟨.str _, H, I.kept hk2, ⟨_, rfl⟩, q⟩) hz
    obtain ⟨w, hw⟩ := ht _ hm
    exact off hw rfl
  | tuple h1 h2 h3 h4 =>
    refine repr_of_reads' (.tuple h1 h2 h3 h4) hs (fun _ hm => ?_) hg (by omega) (fun _ _ e => e) (fun h' u tk hk2 => ⟨.str _, H, I.kept hk2, ⟨_, rfl⟩, q⟩) hz
    obtain ⟨w, hw⟩ := ht _ hm
    exact off hw rfl
  | dict h1 h2 h3 h4 h5 =>
    refine repr_of_reads' (.dict h1 h2 h3 h4 h5) hs (fun _ hm => ?_) hg (by omega) (fun _ _ e => e) (fun h' u tk hk2 => ⟨.str _, H, I.kept hk2, ⟨_, rfl⟩, q⟩) hz
    obtain ⟨w, hw⟩ := ht _ hm
    exact off hw rfl
end
/-- the law's own call; cs: code objects and their tables, empty at the start -/
def RunsG (P : Program) (w : World) (K : PySem.W.Frag) (mg : Str → Option Value) (fa : Addr) (cs : List (Addr × Addr)) (a : Addr) (ns : List Int) : Prop :=
  ∀ (base : Heap) (H : Hp) (s0 : Shared), Env0 P w K mg base callerA [] s0 H → SqL K H a (ns.map V.int) → (∀ p ∈ cs, H p.2 = some (.tbl #[])) → (∀ p ∈ cs, TabB base mg p.1 p.2) → (∃ o, base.get? sysModules = some o) →
    codeAny (model P w) callerA (.call (.ref fa) ⟨[.ref a], []⟩) (CR CX0 [] P w H s0 (fun v _ => v = V.bl true) E0) s0
/-- what the head knows of the tables -/
structure Tabs (K : PySem.W.Frag) (h : Heap) (mg : Str → Option Value) (cs : List (Addr × Addr)) : Prop where
  at_ : ∀ p ∈ cs, h.get? p.2 = some { cls := .none, data := .fields #[] }
  noK : ∀ p ∈ cs, K.lookup p.2 = none
  hd : ∀ p ∈ cs, PySem.W.CodeHd h p.1 p.2
  bm : ∃ (m : Addr) (ob : Obj), mg "__builtins__" = some (.ref m) ∧ m ≠ builtinsNs ∧ h.get? m = some ob ∧ ob.cls = .type "module" ∧ ob.dict = some builtinsNs ∧ ob.data = .plain
  sys : ∃ (o : Obj) (es : Array DictEntry) (n : Nat), h.get? sysModules = some o ∧ o.data = .dict es n
section
variable {P : Program} {w : World} {K : PySem.W.Frag} {mg mb : Str → Option Value} {fa a : Addr} {cs : List (Addr × Addr)} {s1 : Shared} {us : List Value} {ns : List Int}
theorem from_heapG (KX : K.In s1.heap) (gN : s1.heap.Ns mainGlobals mg) (bN : s1.heap.Ns builtinsNs mb) (bB : ∀ y : Str, y ≠ "__name__" → mb y = bootBuiltins y) (nl : s1.heap.NoLimit) (ng : s1.gens = #[]) (tabs : Tabs K s1.heap mg cs)
    (scr : s1.heap.get? a = some { cls := .type "list", data := .seq us.toArray }) (F : RunsG P w K mg fa cs a ns) {H : Hp} (atT : ∀ p ∈ cs, H p.2 = some (.tbl #[])) (only : ∀ b, H b = none ∨ (b = a ∧ K.lookup a = none ∧ ∃ o xs, H b = some (.frz o (.lst xs))) ∨ ∃ p ∈ cs, b = p.2) (hS : SqL K H a (ns.map V.int)) (ok : HOk P w H s1.heap) :
    codeAny (model P w) callerA (.call (.ref fa) ⟨[.ref a], []⟩) (fun r s2 => r = .ok (.ret (.bool true)) ∧ OldK s1.heap s2.heap ∧ s2.os = s1.os ∧ AllBare s2.gens) s1 := by
  have other : ∀ {b : Addr} {o : Obj}, s1.heap.get? b = some o → (∀ vs n, o.data ≠ .seq vs n) → o.data ≠ .fields #[] → H b = none := fun {b o} e n1 n2 => by
    rcases only b with z | z | ⟨p, hp, z⟩
    · exact z
    · rw [z.1, scr] at e
      rw [← Option.some.inj e] at n1
      exact absurd rfl (n1 _ _)
    · rw [z, tabs.at_ p hp] at e
      rw [← Option.some.inj e] at n2
      exact absurd rfl n2
  have ns_hid : ∀ {b : Addr} {m : Str → Option Value}, s1.heap.Ns b m → (hidT s1.heap H).Ns b m := fun {b m} h => by
    obtain ⟨o, es, n, e, d, r⟩ := h
    exact ⟨o, es, n, hidT_get e (other e (fun vs k z => by rw [d] at z; cases z) fun z => by rw [d] at z; cases z), d, r⟩
  have k_hid : K.In (hidT s1.heap H) := fun b o e => hidT_get (KX b o e) (by
    rcases only b with z | z | ⟨p, hp, z⟩
    · exact z
    · rw [z.1, z.2.1] at e
      cases e
    · rw [z, tabs.noK p hp] at e
      cases e)
  obtain ⟨mc, n1, n2⟩ := nl
  have M : Mod K mg (hidT s1.heap H) := ⟨k_hid, ns_hid gN, ⟨mb, ns_hid bN, bB⟩, ⟨mc, ns_hid n1, n2⟩⟩
  have en : Env0 P w K mg (hidT s1.heap H) callerA [] s1 H := { frames := rfl, mod := M, bs := fun b o e => of_hidT e, bsz := Nat.le_of_eq (hidT_size _ _), funs := trivial, frf := fun b hb => absurd (show b ∈ ([] : List Addr) from hb) List.not_mem_nil, hok := ok, bare := .of_eq ng }
  have TB : ∀ p ∈ cs, TabB (hidT s1.heap H) mg p.1 p.2 := fun p hp => by
    have tab := tabs.at_ p hp
    have mainT : mainGlobals ≠ p.2 := fun z => by
      obtain ⟨o, es, n, e, d, _⟩ := gN
      rw [z, tab] at e
      rw [← Option.some.inj e] at d
      cases d
    refine ⟨?_, ?_, mainT⟩
    · obtain ⟨o, us2, x1, x2, x3, x4, x5, x6, x7, e1, r1, r2, rest⟩ := tabs.hd p hp
      refine ⟨o, us2, x1, x2, x3, x4, x5, x6, x7, hidT_get e1 (other e1 (fun vs n z => ?_) fun z => ?_), r1, r2, rest⟩
      · rw [r2] at z
        cases z
      · rw [r2] at z
        cases z
        obtain ⟨z2, _⟩ := rest
        simp at z2
    · obtain ⟨m, ob, b1, b2, b3, b4, b5, b6⟩ := tabs.bm
      refine ⟨m, ob, b1, b2, fun z => ?_, fun z => ?_, hidT_get b3 (other b3 (fun vs n z => ?_) fun z => ?_), b4, b5, b6⟩
      · obtain ⟨o, es, n, e, d, _⟩ := gN
        rw [← z, b3] at e
        cases e
        rw [b6] at d
        cases d
      · rw [z, tab] at b3
        cases b3
        cases b6
      · rw [b6] at z
        cases z
      · rw [b6] at z
        cases z
  have sys : ∃ o, (hidT s1.heap H).get? sysModules = some o := by
    obtain ⟨o, es, n, e, d⟩ := tabs.sys
    exact ⟨o, hidT_get e (other e (fun vs k z => by rw [d] at z; cases z) fun z => by rw [d] at z; cases z)⟩
  refine codeAny_mono (F _ H s1 en hS atT TB sys) fun r s2 h => ?_
  cases r with
  | error e => exact (show False from h).elim
  | ok fl =>
    cases fl with
    | next => exact (show False from h).elim
    | brk => exact (show False from h).elim
    | cont => exact (show False from h).elim
    | ret u =>
      obtain ⟨v, H2, os, bare, un, ok2, rv, q⟩ := h
      rw [show v = V.bl true from q] at rv
      have eu : u = Value.bool true := rv
      have keep : ∀ b o, (¬ ∃ p ∈ cs, b = p.2) → s1.heap.get? b = some o → s2.heap.get? b = some o := fun b o nb e => by
        rcases only b with z | ⟨_, _, ob, xs, z⟩ | z
        · exact un.keep b o e z (fun y => absurd (show b ∈ ([] : List Addr) from y) List.not_mem_nil) List.not_mem_nil
        · have y1 := (ok b _ z).1
          have y2 := (ok2 b _ (un.frzs b ob _ z)).1
          rw [e] at y1
          rw [← Option.some.inj y1] at y2
          exact y2
        · exact absurd z nb
      refine ⟨by rw [eu], ⟨fun b o e => ?_, fun b o e => ?_⟩, os, bare⟩
      · by_cases nb : ∃ p ∈ cs, b = p.2
        · obtain ⟨p, hp, rfl⟩ := nb
          obtain ⟨more, zt⟩ := un.tbls p.2 #[] (atT p hp)
          have now := ok2 p.2 _ zt
          rw [tabs.at_ p hp] at e
          cases e
          exact .inr (.inl ⟨((tabs.hd p hp).tab (tabs.at_ p hp)).isCodeTable, rfl, #[], #[] ++ more, rfl, by rw [Array.empty_append]; exact now⟩)
        · exact .inl (keep b o nb e)
      · by_cases nb : ∃ p ∈ cs, b = p.2
        · obtain ⟨p, hp, rfl⟩ := nb
          obtain ⟨more, zt⟩ := un.tbls p.2 #[] (atT p hp)
          exact ⟨_, ok2 p.2 _ zt⟩
        · exact ⟨o, keep b o nb e⟩
theorem law_runsG (KX : K.In s1.heap) (gN : s1.heap.Ns mainGlobals mg) (bN : s1.heap.Ns builtinsNs mb) (bB : ∀ y : Str, y ≠ "__name__" → mb y = bootBuiltins y) (nl : s1.heap.NoLimit) (ng : s1.gens = #[]) (tabs : Tabs K s1.heap mg cs)
    (scr : s1.heap.get? a = some { cls := .type "list", data := .seq us.toArray }) (isInts : IntsAre us ns) (hl : ns.length ≤ sizeLine) (F : RunsG P w K mg fa cs a ns) :
    codeAny (model P w) callerA (.call (.ref fa) ⟨[.ref a], []⟩) (fun r s2 => r = .ok (.ret (.bool true)) ∧ OldK s1.heap s2.heap ∧ s2.os = s1.os ∧ AllBare s2.gens) s1 := by
  have rel := vals_ints isInts
  have len := isInts.length
  have aT : ¬ ∃ p ∈ cs, a = p.2 := fun ⟨p, hp, z⟩ => by
    rw [z, tabs.at_ p hp] at scr
    cases scr
  classical
  cases e : K.lookup a with
  | some o =>
    have e2 := KX a o e
    rw [scr] at e2
    have e3 := Option.some.inj e2
    refine from_heapG KX gN bN bB nl ng tabs scr F (H := fun b => if ∃ p ∈ cs, b = p.2 then some (.tbl #[]) else none) (fun p hp => if_pos ⟨p, hp, rfl⟩) (fun b => ?_) (.inr ⟨o, us.toArray, 0, e, ?_, ?_, ?_, ?_, by simpa using rel⟩) fun b u z => ?_
    · by_cases q : ∃ p ∈ cs, b = p.2
      · exact .inr (.inr q)
      · exact .inl (if_neg q)
    · rw [← e3]
    · rw [← e3]
    · rw [← e3]
    · rw [List.size_toArray, len]
      exact hl
    · by_cases q : ∃ p ∈ cs, b = p.2
      · have z := (if_pos q).symm.trans z
        cases z
        obtain ⟨p, hp, rfl⟩ := q
        exact tabs.at_ p hp
      · have z := (if_neg q).symm.trans z
        cases z
  | none =>
    refine from_heapG KX gN bN bB nl ng tabs scr F (H := fun b => if b = a then some (.frz { cls := .type "list", data := .seq us.toArray } (.lst (ns.map V.int))) else if ∃ p ∈ cs, b = p.2 then some (.tbl #[]) else none)
      (fun p hp => (if_neg fun z => aT ⟨p, hp, z.symm⟩).trans (if_pos ⟨p, hp, rfl⟩)) (fun b => ?_) (.inl (.inr ⟨_, if_pos rfl⟩)) fun b u z => ?_
    · by_cases q : b = a
      · exact .inr (.inl ⟨q, e, _, _, if_pos q⟩)
      · by_cases q2 : ∃ p ∈ cs, b = p.2
        · exact .inr (.inr q2)
        · exact .inl ((if_neg q).trans (if_neg q2))
    · by_cases q : b = a
      · have z := (if_pos q).symm.trans z
        cases z
        rw [q]
        exact ⟨scr, by rw [List.length_map]; exact hl, us, _, rel, scr⟩
      · have z := (if_neg q).symm.trans z
        by_cases q2 : ∃ p ∈ cs, b = p.2
        · have z := (if_pos q2).symm.trans z
          cases z
          obtain ⟨p, hp, rfl⟩ := q2
          exact tabs.at_ p hp
        · have z := (if_neg q2).symm.trans z
          cases z
end
/-- a def with its code object and table, as the fragment shows them -/
structure TabOf (K : PySem.W.Frag) (mg : Str → Option Value) (x : Str) (p : Addr × Addr) : Prop where
  ex : ∃ (f : Addr) (o : Obj) (fd : FuncData) (e : Value) (dd : Option Addr) (vs : Array Value) (sl : Array (Option Value)), mg x = some (.ref f) ∧ K.lookup f = some o ∧ o.data = .func fd ∧ fd.code = .ref p.1 ∧ K.lookup p.1 = some ⟨e, dd, .fields vs, sl⟩ ∧ vs[11]? = some (.ref p.2) ∧ K.lookup p.2 = none
/-- what k_head leaves; xs: the defs with generator expressions -/
theorem walksG {l : PySem.W.OpenLaw} {n : Nat} {q : Program} {loose : List Str} {XP : (Str → Option Value) → Heap → Prop} {YP : World → Heap → Prop} {d : DefRec} {K : Params → PySem.W.Frag} {xs : List Str}
    (hn : l.most = some n) (small : n ≤ sizeLine) (hdf : d.params.defaults = []) (named : (xs.all fun x => (recsOf q).any fun e => e.name == x) = true) (quiet : importsNone q = true) (hY : ∀ (w : World) (h : Heap), YP w h → (K w.params).In h)
    (F : ∀ (w : World) (mg : Str → Option Value) (fa : Addr) (h : Heap), (K w.params).In h → h.Ns mainGlobals mg → mg d.name = some (.ref fa) → ∃ cs : List (Addr × Addr), (∀ p ∈ cs, ∃ x ∈ xs, TabOf (K w.params) mg x p) ∧
      ∀ (a : Addr) (ns : List Int), ns.length ≤ n → RunsG l.prog w (K w.params) mg fa cs a ns) :
    PySem.W.WalkO q loose XP YP l.row.toRowW d [] (fun g vs => PySem.call g vs) := by
  refine Att.attach_call hn hdf fun w s₀ s1 mg mb fa o pm cd doc a us ns G Y look dat code glob scr isInts len gens => ?_
  have kin := hY w _ Y
  obtain ⟨cs, of, run⟩ := F w mg fa _ kin G.T.g glob
  have each : ∀ p ∈ cs, s1.heap.get? p.2 = some { cls := .none, data := .fields #[] } ∧ (K w.params).lookup p.2 = none ∧ PySem.W.CodeHd s1.heap p.1 p.2 := fun p hp => by
    obtain ⟨x, hx, ⟨f, o, fd, e, dd, vs, sl, k0, k1, k2, k3, k4, k5, k6⟩⟩ := of p hp
    obtain ⟨dx, mem, nameB⟩ := List.any_eq_true.mp (List.all_eq_true.mp named x hx)
    have nameE : dx.name = x := beq_iff_eq.mp nameB
    obtain ⟨f2, o2, fd2, c2, T2, h1, h2, h3, h4, h5, h6⟩ := G.T.tab dx mem
    rw [nameE, k0] at h1
    cases h1
    rw [kin _ _ k1] at h2
    cases h2
    rw [k2] at h3
    cases h3
    rw [k3] at h4
    cases h4
    have hdT := PySem.W.CodeHd.of h5 h6
    obtain ⟨⟨oc, vc, e1, _, e3, e4⟩, tabT⟩ := h6
    rw [kin _ _ k4] at e1
    cases e1
    cases e3
    rw [k5] at e4
    cases e4
    exact ⟨tabT, k6, hdT⟩
  have seer := G.T.seer quiet
  exact law_runsG kin G.T.g G.T.b G.T.builtins G.T.nolimit gens ⟨fun p hp => (each p hp).1, fun p hp => (each p hp).2.1, fun p hp => (each p hp).2.2, G.T.bmain, (by obtain ⟨mm, ⟨o, es, n, e, d, _⟩, _⟩ := seer.mods; exact ⟨o, es, n, e, d⟩)⟩ scr isInts (Nat.le_trans len small) (run a ns len)
end Rw
/-! values without addresses: what an expression, a statement, a def makes of them, as a function -/
namespace Dn
open PySem PySem.Spec PyProof.Rows L2 PySem.SeqAt

/-- a value: tuples by their items, a list of the outside by its items, an object that may change by its number -/
inductive PV where
  | non | bl (b : Bool) | int (i : Int) | str (x : Str) | tup (xs : List PV) | kt (xs : List PV) | fz (xs : List PV) | ref (n : Nat)
/-- an object that may change -/
inductive MO where
  | lst (xs : List PV) | dK (kvs : List (Key × PV)) | dT (kvs : List (List Key × PV))
abbrev Sl := List (Option PV)
abbrev PH := List MO
/-- an exception: its class, its field -/
structure PErr where
  cls : Str
  fld : Option (Str × PV)
inductive Out (α : Type) where
  | ok (a : α) (h : PH) | err (e : PErr) (h : PH) | no
inductive OutS where
  | nx (s : Sl) (h : PH) | rt (v : PV) (h : PH) | bk (s : Sl) (h : PH) | ct (s : Sl) (h : PH) | err (e : PErr) (s : Sl) (h : PH) | no
abbrev DE := Sl → PH → Out PV
abbrev DT := Sl → PH → Out Bool
abbrev DA := Sl → PH → Out (List PV)
abbrev DS := Sl → PH → OutS
def Out.bind {α β : Type} (o : Out α) (k : α → PH → Out β) : Out β := match o with
  | .ok a h => k a h
  | .err e h => .err e h
  | .no => .no
@[simp] theorem Out.bind_ok {α β : Type} (a : α) (h : PH) (k : α → PH → Out β) : (Out.ok a h).bind k = k a h := rfl
@[simp] theorem Out.bind_err {α β : Type} (e : PErr) (h : PH) (k : α → PH → Out β) : (Out.err e h : Out α).bind k = .err e h := rfl
@[simp] theorem Out.bind_no {α β : Type} (k : α → PH → Out β) : (Out.no : Out α).bind k = .no := rfl

/-! ### how a value without addresses lies in the heap -/
section
variable (K : PySem.W.Frag) (H : Hp) (μ : List Addr)
/-- a list that nobody changes -/
def SqF (a : Addr) (xs : List V) : Prop := (∃ o, H a = some (.frz o (.lst xs))) ∨
  ∃ (o : Obj) (its : Array Value) (n : Nat), K.lookup a = some o ∧ o.cls = .type "list" ∧ o.dict = none ∧ o.data = .seq its n ∧ its.size ≤ sizeLine ∧ Vals xs its.toList
/-- a tuple of the module -/
def SqK (a : Addr) (xs : List V) : Prop := ∃ (o : Obj) (its : Array Value) (n : Nat), K.lookup a = some o ∧ o.cls = .type "tuple" ∧ o.data = .seq its n ∧ its.size ≤ sizeLine ∧ Vals xs its.toList
mutual
inductive Rl : PV → V → Prop
  | non : Rl .non .non
  | bl (b : Bool) : Rl (.bl b) (.bl b)
  | int (i : Int) : Rl (.int i) (.int i)
  | str (x : Str) : Rl (.str x) (.str x)
  | tup {a : Addr} {vs : List V} {xs : List PV} : H a = some (.tup vs) → Rls xs vs → Rl (.tup xs) (.ref a)
  | kt {a : Addr} {vs : List V} {xs : List PV} : SqK K a vs → Rls xs vs → Rl (.kt xs) (.ref a)
  | fz {a : Addr} {vs : List V} {xs : List PV} : SqF K H a vs → Rls xs vs → Rl (.fz xs) (.ref a)
  | ref {n : Nat} {a : Addr} : μ[n]? = some a → Rl (.ref n) (.ref a)
inductive Rls : List PV → List V → Prop
  | nil : Rls [] []
  | cons {x : PV} {v : V} {xs : List PV} {vs : List V} : Rl x v → Rls xs vs → Rls (x :: xs) (v :: vs)
end
end
/-- what stays: tuples, lists of the outside; the numbers of objects -/
structure Ex (μ : List Addr) (H : Hp) (μ' : List Addr) (H' : Hp) : Prop where
  pre : ∀ (n : Nat) a, μ[n]? = some a → μ'[n]? = some a
  tup : ∀ a xs, H a = some (.tup xs) → H' a = some (.tup xs)
  frz : ∀ a o u, H a = some (.frz o u) → H' a = some (.frz o u)
section
variable {K : PySem.W.Frag} {H H' H2 : Hp} {μ μ' μ2 : List Addr}
theorem Ex.refl : Ex μ H μ H := ⟨fun _ _ h => h, fun _ _ h => h, fun _ _ _ h => h⟩
theorem Ex.trans (a : Ex μ H μ' H') (b : Ex μ' H' μ2 H2) : Ex μ H μ2 H2 := ⟨fun n x h => b.pre n x (a.pre n x h), fun n x h => b.tup n x (a.tup n x h), fun n o x h => b.frz n o x (a.frz n o x h)⟩
theorem Ex.rd (e : Ex μ H μ' H') {a : Addr} {xs : List V} (h : SqT K H a xs) : SqT K H' a xs := by
  rcases h with (h | ⟨o, h⟩) | h
  · exact .inl (.inl (e.tup _ _ h))
  · exact .inl (.inr ⟨o, e.frz _ _ _ h⟩)
  · exact .inr h
theorem Ex.sqf (e : Ex μ H μ' H') {a : Addr} {xs : List V} (h : SqF K H a xs) : SqF K H' a xs := by
  rcases h with ⟨o, h⟩ | h
  · exact .inl ⟨o, e.frz _ _ _ h⟩
  · exact .inr h
mutual
theorem Rl.mono (e : Ex μ H μ' H') : ∀ {x : PV} {v : V}, Rl K H μ x v → Rl K H' μ' x v
  | _, _, .non => .non
  | _, _, .bl b => .bl b
  | _, _, .int i => .int i
  | _, _, .str x => .str x
  | _, _, .tup h r => .tup (e.tup _ _ h) (Rls.mono e r)
  | _, _, .kt h r => .kt h (Rls.mono e r)
  | _, _, .fz h r => .fz (e.sqf h) (Rls.mono e r)
  | _, _, .ref h => .ref (e.pre _ _ h)
theorem Rls.mono (e : Ex μ H μ' H') : ∀ {x : List PV} {v : List V}, Rls K H μ x v → Rls K H' μ' x v
  | _, _, .nil => .nil
  | _, _, .cons a b => .cons (Rl.mono e a) (Rls.mono e b)
end
theorem Rls.len : ∀ {xs : List PV} {vs : List V}, Rls K H μ xs vs → xs.length = vs.length
  | _, _, .nil => rfl
  | _, _, .cons _ b => by rw [List.length_cons, List.length_cons, Rls.len b]
theorem Rls.at : ∀ {xs : List PV} {vs : List V} {i : Nat} {x : PV}, Rls K H μ xs vs → xs[i]? = some x → ∃ v, vs[i]? = some v ∧ Rl K H μ x v
  | _, _, _, _, .nil, h => by simp at h
  | _, _, 0, _, .cons a _, h => ⟨_, rfl, by have e := Option.some.inj h; subst e; exact a⟩
  | _, _, i + 1, _, .cons _ b, h => by
    obtain ⟨v, h1, h2⟩ := Rls.at (i := i) b (by simpa using h)
    exact ⟨v, by simpa using h1, h2⟩
theorem Rls.app : ∀ {xs ys : List PV} {vs ws : List V}, Rls K H μ xs vs → Rls K H μ ys ws → Rls K H μ (xs ++ ys) (vs ++ ws)
  | _, _, _, _, .nil, q => q
  | _, _, _, _, .cons a b, q => .cons a (Rls.app b q)
theorem Rls.take : ∀ {xs : List PV} {vs : List V} (n : Nat), Rls K H μ xs vs → Rls K H μ (xs.take n) (vs.take n)
  | _, _, 0, _ => .nil
  | _, _, _ + 1, .nil => .nil
  | _, _, n + 1, .cons a b => .cons a (Rls.take n b)
theorem Rls.drop : ∀ {xs : List PV} {vs : List V} (n : Nat), Rls K H μ xs vs → Rls K H μ (xs.drop n) (vs.drop n)
  | _, _, 0, q => q
  | _, _, _ + 1, .nil => .nil
  | _, _, n + 1, .cons _ b => Rls.drop n b
theorem Rls.set {x : PV} {v : V} (r : Rl K H μ x v) : ∀ {xs : List PV} {vs : List V} (n : Nat), Rls K H μ xs vs → Rls K H μ (xs.set n x) (vs.set n v)
  | _, _, _, .nil => .nil
  | _, _, 0, .cons _ b => .cons r b
  | _, _, n + 1, .cons a b => .cons a (Rls.set r n b)
theorem Rls.rev : ∀ {xs : List PV} {vs : List V}, Rls K H μ xs vs → Rls K H μ xs.reverse vs.reverse
  | _, _, .nil => .nil
  | _, _, .cons a b => by
    rw [List.reverse_cons, List.reverse_cons]
    exact (Rls.rev b).app (.cons a .nil)
theorem Rls.ints : ∀ ns : List Int, Rls K H μ (ns.map PV.int) (ns.map V.int)
  | [] => .nil
  | n :: r => .cons (.int n) (Rls.ints r)
theorem Rls.snoc {xs : List PV} {vs : List V} {x : PV} {v : V} (a : Rls K H μ xs vs) (b : Rl K H μ x v) : Rls K H μ (xs ++ [x]) (vs ++ [v]) := a.app (.cons b .nil)
end

/-! ### the whole state -/
/-- the pairs of a dict -/
inductive KRl (K : PySem.W.Frag) (H : Hp) (μ : List Addr) {κ : Type} : List (κ × PV) → List (κ × V) → Prop
  | nil : KRl K H μ [] []
  | cons {k : κ} {x : PV} {v : V} {r : List (κ × PV)} {s : List (κ × V)} : Rl K H μ x v → KRl K H μ r s → KRl K H μ ((k, x) :: r) ((k, v) :: s)
theorem KRl.mono {K : PySem.W.Frag} {H H' : Hp} {μ μ' : List Addr} {κ : Type} (e : Ex μ H μ' H') : ∀ {r : List (κ × PV)} {s : List (κ × V)}, KRl K H μ r s → KRl K H' μ' r s
  | _, _, .nil => .nil
  | _, _, .cons a b => .cons (a.mono e) (KRl.mono e b)
/-- an object that may change, at its place -/
def OR (K : PySem.W.Frag) (H : Hp) (μ : List Addr) (a : Addr) : MO → Prop
  | .lst xs => ∃ vs, H a = some (.lst vs) ∧ Rls K H μ xs vs
  | .dK kvs => ∃ r, H a = some (.dK r) ∧ KRl K H μ kvs r
  | .dT kvs => ∃ r, H a = some (.dT r) ∧ KRl K H μ kvs r
/-- the objects that may change, and the tables of code objects -/
structure Wd (K : PySem.W.Frag) (tbs : List Addr) (μ : List Addr) (ph : PH) (H : Hp) : Prop where
  len : μ.length = ph.length
  nd : ∀ (i j : Nat) a, μ[i]? = some a → μ[j]? = some a → i = j
  ob : ∀ (n : Nat) a o, μ[n]? = some a → ph[n]? = some o → OR K H μ a o
  tb : ∀ P ∈ tbs, GxR.TabG H P
structure Sr (K : PySem.W.Frag) (H : Hp) (μ : List Addr) (ps : Sl) (σ : L2.St) : Prop where
  len : ps.length = σ.length
  at_ : ∀ (i : Nat) x, ps[i]? = some (some x) → ∃ v, σ[i]? = some (some v) ∧ Rl K H μ x v
theorem Sr.mono {K : PySem.W.Frag} {H H' : Hp} {μ μ' : List Addr} {ps : Sl} {σ : L2.St} (e : Ex μ H μ' H') (h : Sr K H μ ps σ) : Sr K H' μ' ps σ := ⟨h.len, fun i x q => by
  obtain ⟨v, h1, h2⟩ := h.at_ i x q
  exact ⟨v, h1, h2.mono e⟩⟩
theorem Sr.set {K : PySem.W.Frag} {H : Hp} {μ : List Addr} {ps : Sl} {σ : L2.St} {x : PV} {v : V} (h : Sr K H μ ps σ) (i : Nat) (r : Rl K H μ x v) : Sr K H μ (ps.set i (some x)) (σ.set i (some v)) := by
  refine ⟨by rw [List.length_set, List.length_set]; exact h.len, fun j y q => ?_⟩
  by_cases e : i = j
  · subst e
    have lt : i < ps.length := by
      have := (List.getElem?_eq_some_iff.mp q).1
      simpa using this
    rw [List.getElem?_set_self lt] at q
    have lt2 : i < σ.length := by rw [← h.len]; exact lt
    rw [List.getElem?_set_self lt2]
    cases q
    exact ⟨v, rfl, r⟩
  · rw [List.getElem?_set_ne e] at q
    rw [List.getElem?_set_ne e]
    exact h.at_ j y q
/-- the exception's class and its own dict -/
def ER (K : PySem.W.Frag) (mg : Str → Option Value) (H : Hp) (μ : List Addr) (e : PErr) (cls : Value) (d : Option Addr) : Prop :=
  mg e.cls = some cls ∧ (match e.fld with
    | none => d = none
    | some (f, x) => ∃ da v, d = some da ∧ H da = some (.xd [(f, v)]) ∧ Rl K H μ x v)
theorem ER.mono_xd {K : PySem.W.Frag} {mg : Str → Option Value} {H H' : Hp} {μ μ' : List Addr} {e : PErr} {cls : Value} {d : Option Addr} (x : Ex μ H μ' H') (hx : ∀ a fs, H a = some (.xd fs) → H' a = some (.xd fs)) (h : ER K mg H μ e cls d) : ER K mg H' μ' e cls d := by
  obtain ⟨h1, h2⟩ := h
  refine ⟨h1, ?_⟩
  cases he : e.fld with
  | none => rw [he] at h2; exact h2
  | some p =>
    rw [he] at h2
    obtain ⟨da, v, e1, e2, e3⟩ := h2
    exact ⟨da, v, e1, hx _ _ e2, e3.mono x⟩

/-! ### judgements -/
/-- what stays the same for a law: the tables -/
structure Bs where
  K : PySem.W.Frag
  mg : Str → Option Value
  tbs : List Addr
section
variable (B : Bs) (W : WX)
/-- what is wanted of an outcome that came from μ, H at the slots σ -/
def OutOk {α β : Type} (rel : Hp → List Addr → α → β → Prop) (μ : List Addr) (H : Hp) (σ : L2.St) (o : Out α) (Q : β → Hp → Prop) : Prop := match o with
  | .ok x h => ∀ μ' H' v, Ex μ H μ' H' → Wd B.K B.tbs μ' h H' → rel H' μ' x v → Q v H'
  | .err e h => ∀ μ' H' cls d, Ex μ H μ' H' → Wd B.K B.tbs μ' h H' → ER B.K B.mg H' μ' e cls d → W cls d σ H'
  | .no => False
def OutSOk (μ : List Addr) (H : Hp) (o : OutS) (D : Ends) : Prop := match o with
  | .nx s h => ∀ μ' H' σ', Ex μ H μ' H' → Wd B.K B.tbs μ' h H' → Sr B.K H' μ' s σ' → D.nx σ' H'
  | .rt x h => ∀ μ' H' v, Ex μ H μ' H' → Wd B.K B.tbs μ' h H' → Rl B.K H' μ' x v → D.rt v H'
  | .bk s h => ∀ μ' H' σ', Ex μ H μ' H' → Wd B.K B.tbs μ' h H' → Sr B.K H' μ' s σ' → D.bk σ' H'
  | .ct s h => ∀ μ' H' σ', Ex μ H μ' H' → Wd B.K B.tbs μ' h H' → Sr B.K H' μ' s σ' → D.ct σ' H'
  | .err e s h => ∀ μ' H' σ' cls d, Ex μ H μ' H' → Wd B.K B.tbs μ' h H' → Sr B.K H' μ' s σ' → ER B.K B.mg H' μ' e cls d → W cls d σ' H'
  | .no => False
def tD (f : DE) : TE := fun σ H Q => ∃ μ ps ph, Sr B.K H μ ps σ ∧ Wd B.K B.tbs μ ph H ∧ OutOk B W (fun H' μ' => Rl B.K H' μ') μ H σ (f ps ph) Q
def tDT (f : DT) : TT := fun σ H Q => ∃ μ ps ph, Sr B.K H μ ps σ ∧ Wd B.K B.tbs μ ph H ∧ OutOk B W (fun _ _ (b c : Bool) => b = c) μ H σ (f ps ph) Q
def tDA (f : DA) : TA := fun σ H Q => ∃ μ ps ph, Sr B.K H μ ps σ ∧ Wd B.K B.tbs μ ph H ∧ OutOk B W (fun H' μ' => Rls B.K H' μ') μ H σ (f ps ph) Q
def tDS (f : DS) : TS := fun D σ H => ∃ μ ps ph, Sr B.K H μ ps σ ∧ Wd B.K B.tbs μ ph H ∧ OutSOk B W μ H (f ps ph) D
variable (X : Cx)
def JE (e : Expr) (f : DE) : Prop := PE X e (tD B W f)
def JT (e : Expr) (f : DT) : Prop := PT X e (tDT B W f)
def JW (e : Expr) (f : DT) : Prop := PW X e (tDT B W f)
def JA (es : List Expr) (f : DA) : Prop := PA X es (tDA B W f)
def JS (st : Stmt) (f : DS) : Prop := PS X st (tDS B W f)
def JSs (st : List Stmt) (f : DS) : Prop := PSs X st (tDS B W f)
end
section
variable {B : Bs} {W : WX} {α β : Type} {rel : Hp → List Addr → α → β → Prop} {μ μ' : List Addr} {H H' : Hp} {σ : L2.St}
theorem OutOk.ext {o : Out α} {Q : β → Hp → Prop} (h : OutOk B W rel μ H σ o Q) (e : Ex μ H μ' H') : OutOk B W rel μ' H' σ o Q := by
  cases o with
  | ok x ph => exact fun μ2 H2 v e2 => h μ2 H2 v (e.trans e2)
  | err x ph => exact fun μ2 H2 c d e2 => h μ2 H2 c d (e.trans e2)
  | no => exact h
theorem OutSOk.ext {o : OutS} {D : Ends} (h : OutSOk B W μ H o D) (e : Ex μ H μ' H') : OutSOk B W μ' H' o D := by
  cases o with
  | nx s ph => exact fun μ2 H2 v e2 => h μ2 H2 v (e.trans e2)
  | rt s ph => exact fun μ2 H2 v e2 => h μ2 H2 v (e.trans e2)
  | bk s ph => exact fun μ2 H2 v e2 => h μ2 H2 v (e.trans e2)
  | ct s ph => exact fun μ2 H2 v e2 => h μ2 H2 v (e.trans e2)
  | err x s ph => exact fun μ2 H2 v c d e2 => h μ2 H2 v c d (e.trans e2)
  | no => exact h
theorem OutOk.mono {o : Out α} {Q Q' : β → Hp → Prop} (h : OutOk B W rel μ H σ o Q) (k : ∀ v H, Q v H → Q' v H) : OutOk B W rel μ H σ o Q' := by
  cases o with
  | ok x ph => exact fun μ2 H2 v e2 w r => k _ _ (h μ2 H2 v e2 w r)
  | err x ph => exact h
  | no => exact h
end
/-- one after another: the second begins where the first ended -/
theorem OutOk.bind {B : Bs} {W : WX} {α β α' β' : Type} {rel : Hp → List Addr → α → β → Prop} {rel' : Hp → List Addr → α' → β' → Prop} {μ : List Addr} {H : Hp} {σ : L2.St} {o : Out α} {k : α → PH → Out α'} {Q' : β' → Hp → Prop} {Q : β → Hp → Prop}
    (h : OutOk B W rel' μ H σ (o.bind k) Q') (q : ∀ x ph μ' H' v, Ex μ H μ' H' → Wd B.K B.tbs μ' ph H' → rel H' μ' x v → OutOk B W rel' μ' H' σ (k x ph) Q' → Q v H') : OutOk B W rel μ H σ o Q := by
  cases o with
  | ok x ph => exact fun μ' H' v e w r => q x ph μ' H' v e w r (OutOk.ext h e)
  | err x ph => exact h
  | no => exact h
theorem PE_imp {X : Cx} {e : Expr} {t t' : TE} (h : PE X e t) (k : ∀ σ H Q, t' σ H Q → t σ H Q) : PE X e t' := ⟨fun pins s σ H Q I q => h.run pins s σ H Q I (k σ H Q q)⟩
theorem PT_imp {X : Cx} {e : Expr} {t t' : TT} (h : PT X e t) (k : ∀ σ H Q, t' σ H Q → t σ H Q) : PT X e t' := ⟨fun pins s σ H Q I q => h.run pins s σ H Q I (k σ H Q q)⟩
theorem PW_imp {X : Cx} {e : Expr} {t t' : TT} (h : PW X e t) (k : ∀ σ H Q, t' σ H Q → t σ H Q) : PW X e t' := ⟨fun wh pins s σ H Q I q => h.run wh pins s σ H Q I (k σ H Q q)⟩
theorem PA_imp {X : Cx} {e : List Expr} {t t' : TA} (h : PA X e t) (k : ∀ σ H Q, t' σ H Q → t σ H Q) : PA X e t' := ⟨fun p pins s σ H Q I q => h.run p pins s σ H Q I (k σ H Q q)⟩
theorem PS_imp {X : Cx} {e : Stmt} {t t' : TS} (h : PS X e t) (k : ∀ D σ H, t' D σ H → t D σ H) : PS X e t' := ⟨fun pins s σ H D I q => h.run pins s σ H D I (k D σ H q)⟩
theorem PSs_imp {X : Cx} {e : List Stmt} {t t' : TS} (h : PSs X e t) (k : ∀ D σ H, t' D σ H → t D σ H) : PSs X e t' := ⟨fun pins s σ H D I q => h.run pins s σ H D I (k D σ H q)⟩
end Dn
namespace Dn
open PySem PySem.Spec PyProof.Rows L2 PySem.SeqAt
abbrev bs (X : Cx) (tbs : List Addr) : Bs := ⟨X.K, X.mg, tbs⟩
abbrev F2 := PV → PV → PH → Option (PV × PH)
abbrev F1 := PV → PH → Option (PV × PH)
abbrev FN := List PV → PH → Option (PV × PH)
def Out.of {α : Type} : Option (α × PH) → Out α
  | some (x, h) => .ok x h
  | none => .no
@[simp] theorem Out.of_some {α : Type} (x : α) (h : PH) : Out.of (some (x, h)) = .ok x h := rfl
@[simp] theorem Out.of_none {α : Type} : Out.of (none : Option (α × PH)) = .no := rfl
/-- what is wanted of a value that an operator makes -/
def OutN (B : Bs) (μ : List Addr) (H : Hp) (o : Option (PV × PH)) (Q : VK) : Prop := match o with
  | some (x, h) => ∀ μ' H' v, Ex μ H μ' H' → Wd B.K B.tbs μ' h H' → Rl B.K H' μ' x v → Q v H'
  | none => False
theorem OutOk.op {B : Bs} {W : WX} {μ : List Addr} {H : Hp} {σ : L2.St} {o : Option (PV × PH)} {Q : VK} (h : OutOk B W (fun H' μ' => Rl B.K H' μ') μ H σ (Out.of o) Q) : OutN B μ H o Q := by
  cases o with
  | some p => exact h
  | none => exact h
/-- the value itself, the heap as it was -/
theorem OutN.val {B : Bs} {μ : List Addr} {ph : PH} {H : Hp} {x : PV} {v : V} {Q : VK} (q : OutN B μ H (some (x, ph)) Q) (wd : Wd B.K B.tbs μ ph H) (r : Rl B.K H μ x v) : Q v H := q μ H v Ex.refl wd r
section
variable {K : PySem.W.Frag} {tbs : List Addr} {μ : List Addr} {ph : PH} {H : Hp}
theorem Ex.new {p : Addr} (hp : H p = none) (o : HO) : Ex μ H μ (upd H p o) := ⟨fun _ _ h => h, fun a xs h => by rw [upd_ne (ne_of_none h hp)]; exact h, fun a ob u h => by rw [upd_ne (ne_of_none h hp)]; exact h⟩
theorem Ex.grow {p : Addr} (hp : H p = none) (o : HO) : Ex μ H (μ ++ [p]) (upd H p o) := ⟨fun n a h => by
    have lt := (List.getElem?_eq_some_iff.mp h).1
    rw [List.getElem?_append_left lt]
    exact h, (Ex.new (μ := μ) hp o).tup, (Ex.new (μ := μ) hp o).frz⟩
theorem Ex.put {p : Addr} {o u : HO} (hp : H p = some o) (ht : ∀ xs, o ≠ .tup xs) (hf : ∀ b w, o ≠ .frz b w) : Ex μ H μ (upd H p u) := ⟨fun _ _ h => h, fun a xs h => by
    rw [upd_ne fun e => ht xs (by rw [e, hp] at h; exact Option.some.inj h)]
    exact h, fun a ob w h => by
    rw [upd_ne fun e => hf ob w (by rw [e, hp] at h; exact Option.some.inj h)]
    exact h⟩
theorem OR.frame {H' : Hp} {μ' : List Addr} {a : Addr} {o : MO} (e : Ex μ H μ' H') (ha : H' a = H a) (h : OR K H μ a o) : OR K H' μ' a o := by
  cases o with
  | lst xs =>
    obtain ⟨vs, h1, h2⟩ := h
    exact ⟨vs, ha.trans h1, h2.mono e⟩
  | dK kvs =>
    obtain ⟨r, h1, h2⟩ := h
    exact ⟨r, ha.trans h1, h2.mono e⟩
  | dT kvs =>
    obtain ⟨r, h1, h2⟩ := h
    exact ⟨r, ha.trans h1, h2.mono e⟩
theorem OR.there {a : Addr} {o : MO} (h : OR K H μ a o) : ∃ u, H a = some u ∧ (∀ xs, u ≠ .tup xs) ∧ (∀ b w, u ≠ .frz b w) ∧ ∀ ps, u ≠ .tbl ps := by
  cases o with
  | lst xs =>
    obtain ⟨vs, h1, _⟩ := h
    exact ⟨_, h1, (by intro _ z; cases z), (by intro _ _ z; cases z), (by intro _ z; cases z)⟩
  | dK kvs =>
    obtain ⟨r, h1, _⟩ := h
    exact ⟨_, h1, (by intro _ z; cases z), (by intro _ _ z; cases z), (by intro _ z; cases z)⟩
  | dT kvs =>
    obtain ⟨r, h1, _⟩ := h
    exact ⟨_, h1, (by intro _ z; cases z), (by intro _ _ z; cases z), (by intro _ z; cases z)⟩
theorem Wd.obj (w : Wd K tbs μ ph H) {n : Nat} {o : MO} (h : ph[n]? = some o) : ∃ a, μ[n]? = some a ∧ OR K H μ a o := by
  have lt : n < μ.length := by
    rw [w.len]
    exact (List.getElem?_eq_some_iff.mp h).1
  exact ⟨μ[n], List.getElem?_eq_getElem lt, w.ob n _ o (List.getElem?_eq_getElem lt) h⟩
theorem Wd.there (w : Wd K tbs μ ph H) {n : Nat} {a : Addr} (h : μ[n]? = some a) : ∃ o, ph[n]? = some o ∧ OR K H μ a o := by
  have lt : n < ph.length := by
    rw [← w.len]
    exact (List.getElem?_eq_some_iff.mp h).1
  exact ⟨ph[n], List.getElem?_eq_getElem lt, w.ob n a _ h (List.getElem?_eq_getElem lt)⟩
theorem Wd.apart (w : Wd K tbs μ ph H) {n : Nat} {a p : Addr} (h : μ[n]? = some a) (hp : H p = none) : a ≠ p := by
  obtain ⟨o, _, r⟩ := w.there h
  obtain ⟨u, hu, _⟩ := r.there
  exact ne_of_none hu hp
/-- a new object that cannot change -/
theorem Wd.new (w : Wd K tbs μ ph H) {p : Addr} (hp : H p = none) (o : HO) : Wd K tbs μ ph (upd H p o) where
  len := w.len
  nd := w.nd
  ob := fun n a u h1 h2 => (w.ob n a u h1 h2).frame (Ex.new hp o) (upd_ne (w.apart h1 hp))
  tb := fun P hP => by
    obtain ⟨ps, h1, h2⟩ := w.tb P hP
    exact ⟨ps, by rw [upd_ne (ne_of_none h1 hp)]; exact h1, h2⟩
/-- a new object that may change -/
theorem Wd.grow (w : Wd K tbs μ ph H) {p : Addr} (hp : H p = none) {o : HO} {m : MO} (r : OR K (upd H p o) (μ ++ [p]) p m) : Wd K tbs (μ ++ [p]) (ph ++ [m]) (upd H p o) where
  len := by rw [List.length_append, List.length_append, w.len]; rfl
  nd := fun i j a h1 h2 => by
    have key : ∀ (k : Nat) b, (μ ++ [p])[k]? = some b → (k < μ.length ∧ μ[k]? = some b) ∨ (k = μ.length ∧ b = p) := fun k b h => by
      by_cases lt : k < μ.length
      · rw [List.getElem?_append_left lt] at h
        exact .inl ⟨lt, h⟩
      · rw [List.getElem?_append_right (by omega)] at h
        have z := (List.getElem?_eq_some_iff.mp h).1
        have e : k = μ.length := by simp at z; omega
        subst e
        simp at h
        exact .inr ⟨rfl, h.symm⟩
    rcases key i a h1 with ⟨l1, q1⟩ | ⟨e1, z1⟩ <;> rcases key j a h2 with ⟨l2, q2⟩ | ⟨e2, z2⟩
    · exact w.nd i j a q1 q2
    · exact absurd z2 (w.apart q1 hp)
    · exact absurd z1 (w.apart q2 hp)
    · omega
  ob := fun n a u h1 h2 => by
    by_cases lt : n < μ.length
    · rw [List.getElem?_append_left lt] at h1
      rw [List.getElem?_append_left (by rw [← w.len]; exact lt)] at h2
      exact (w.ob n a u h1 h2).frame (Ex.grow hp o) (upd_ne (w.apart h1 hp))
    · rw [List.getElem?_append_right (by omega)] at h1
      rw [List.getElem?_append_right (by rw [← w.len]; omega)] at h2
      have z := (List.getElem?_eq_some_iff.mp h1).1
      have e : n - μ.length = 0 := by simp at z; omega
      have e2 : n - ph.length = 0 := by rw [← w.len]; exact e
      rw [e] at h1
      rw [e2] at h2
      cases h1
      cases h2
      exact r
  tb := (w.new hp o).tb
/-- an object changes -/
theorem Wd.put (w : Wd K tbs μ ph H) {n : Nat} {a : Addr} (h : μ[n]? = some a) {o : HO} {m : MO} (r : OR K (upd H a o) μ a m) : Wd K tbs μ (ph.set n m) (upd H a o) ∧ Ex μ H μ (upd H a o) := by
  obtain ⟨m0, h0, r0⟩ := w.there h
  obtain ⟨u, hu, nt, nf, nb⟩ := r0.there
  have e : Ex μ H μ (upd H a o) := Ex.put hu nt nf
  refine ⟨⟨by rw [List.length_set]; exact w.len, w.nd, fun k b v h1 h2 => ?_, fun P hP => ?_⟩, e⟩
  · by_cases z : n = k
    · subst z
      rw [h] at h1
      cases h1
      rw [List.getElem?_set_self (List.getElem?_eq_some_iff.mp h0).1] at h2
      cases h2
      exact r
    · rw [List.getElem?_set_ne z] at h2
      refine (w.ob k b v h1 h2).frame e (upd_ne fun q => z ?_)
      subst q
      exact w.nd n k b h h1
  · obtain ⟨ps, h1, h2⟩ := w.tb P hP
    refine ⟨ps, ?_, h2⟩
    rw [upd_ne fun q => nb ps (by rw [q, hu] at h1; exact Option.some.inj h1)]
    exact h1
end

/-! ### names and constants -/
def eC (x : PV) : DE := fun _ h => .ok x h
def eVar (i : Nat) : DE := fun s h => match s[i]? with
  | some (some v) => .ok v h
  | _ => .no
section
variable {tbs : List Addr} {W : WX} {X : Cx} {pos : Pos}
theorem j_c {e : Expr} {x : PV} {v : V} (h : PE X e (tC v)) (r : ∀ H μ, Rl X.K H μ x v) : JE (bs X tbs) W X e (eC x) := PE_imp h fun σ H Q ⟨μ, ps, ph, sr, wd, ok⟩ => ok μ H v Ex.refl wd (r _ _)
theorem j_int {i : Int} {j} : JE (bs X tbs) W X (.Constant (.int i) j pos) (eC (.int i)) := j_c pe_int fun _ _ => .int i
theorem j_bl {i : Bool} {j} : JE (bs X tbs) W X (.Constant (.bool i) j pos) (eC (.bl i)) := j_c pe_bl fun _ _ => .bl i
theorem j_non {j} : JE (bs X tbs) W X (.Constant .none j pos) (eC .non) := j_c pe_non fun _ _ => .non
theorem j_str {x : Str} {j} : JE (bs X tbs) W X (.Constant (.str x) j pos) (eC (.str x)) := j_c pe_str fun _ _ => .str x
theorem j_var (i : Nat) {x : Str} (hN : X.N[i]? = some x := by rfl) (hv : Vis X.env.scope x := by first | exact Or.inl rfl | exact Or.inr (Or.inl rfl) | exact Or.inr (Or.inr rfl)) (hd : (x == ("__debug__" : Str)) = false := by decide)
    (hcd : (x == ("__classdict__" : Str)) = false := by decide) : JE (bs X tbs) W X (.Name x pos) (eVar i) := PE_imp (pv i hN hv hd hcd) fun σ H Q ⟨μ, ps, ph, sr, wd, ok⟩ => by
  unfold eVar at ok
  split at ok
  · rename_i v e
    obtain ⟨u, h1, h2⟩ := sr.at_ i v e
    exact ⟨u, h1, ok μ H u Ex.refl wd h2⟩
  · exact ok.elim
/-- a constant of the module -/
theorem j_glob {x : Str} {px : PV} {v : V} {u : Value} (hg : Gl X x) (hm : X.mg x = some u) (rv : RelV v u) (r : ∀ H μ, Rl X.K H μ px v) (hd : (x == ("__debug__" : Str)) = false := by decide) : JE (bs X tbs) W X (.Name x pos) (eC px) := j_c (pe_glob hg hm rv hd) r

/-! ### operators -/
def rP (B : Bs) (f : F2) : R2 := fun x y H Q => ∃ μ ph px py, Wd B.K B.tbs μ ph H ∧ Rl B.K H μ px x ∧ Rl B.K H μ py y ∧ OutN B μ H (f px py ph) Q
def rP1 (B : Bs) (f : F1) : V → Hp → VK → Prop := fun x H Q => ∃ μ ph px, Wd B.K B.tbs μ ph H ∧ Rl B.K H μ px x ∧ OutN B μ H (f px ph) Q
def rPN (B : Bs) (f : FN) : List V → Hp → VK → Prop := fun xs H Q => ∃ μ ph ps, Wd B.K B.tbs μ ph H ∧ Rls B.K H μ ps xs ∧ OutN B μ H (f ps ph) Q
def eOp (f : F2) (a b : DE) : DE := fun s h => (a s h).bind fun x h => (b s h).bind fun y h => Out.of (f x y h)
def eUn (f : F1) (a : DE) : DE := fun s h => (a s h).bind fun x h => Out.of (f x h)
def eCall (f : FN) (a : DA) : DE := fun s h => (a s h).bind fun xs h => Out.of (f xs h)
theorem j_op2 {fa fb : DE} {f : F2} {r : R2} {σ : L2.St} {H : Hp} {Q : VK} (hr : ∀ x y H Q, rP (bs X tbs) f x y H Q → r x y H Q) (h : tD (bs X tbs) W (eOp f fa fb) σ H Q) :
    tOp r (tD (bs X tbs) W fa) (tD (bs X tbs) W fb) σ H Q := by
  obtain ⟨μ, ps, ph, sr, wd, ok⟩ := h
  refine ⟨μ, ps, ph, sr, wd, OutOk.bind ok fun x ph1 μ1 H1 v e1 w1 r1 ok1 => ⟨μ1, ps, ph1, sr.mono e1, w1, OutOk.bind ok1 fun y ph2 μ2 H2 u e2 w2 r2 ok2 => hr _ _ _ _ ⟨μ2, ph2, x, y, w2, r1.mono e2, r2, ok2.op⟩⟩⟩
theorem j_op {op : Operator} {a b : Expr} {fa fb : DE} {f : F2} (ho : OpR X (binaryOp op) (rP (bs X tbs) f)) (ha : JE (bs X tbs) W X a fa) (hb : JE (bs X tbs) W X b fb) : JE (bs X tbs) W X (.BinOp a op b pos) (eOp f fa fb) :=
  PE_imp (pe_op ho ha hb) fun σ H Q h => j_op2 (fun _ _ _ _ q => q) h
theorem j_cmp {op : CmpOp} {a b : Expr} {fa fb : DE} {f : F2} (ho : OpR X (compareOp op) (rP (bs X tbs) f)) (ha : JE (bs X tbs) W X a fa) (hb : JE (bs X tbs) W X b fb) (hm : behindInMarks op b = false := by first | exact nomark _ | rfl) : JE (bs X tbs) W X (.Compare a [op] [b] pos) (eOp f fa fb) :=
  PE_imp (pe_cmpR ho ha hb hm) fun σ H Q h => j_op2 (fun _ _ _ _ q => q) h
theorem j_un {op : UnaryOp} {a : Expr} {fa : DE} {f : F1} (ho : UnR X (unaryOp op) (rP1 (bs X tbs) f)) (ha : JE (bs X tbs) W X a fa) : JE (bs X tbs) W X (.UnaryOp op a pos) (eUn f fa) :=
  PE_imp (pe_un ho ha) fun σ H Q ⟨μ, ps, ph, sr, wd, ok⟩ => ⟨μ, ps, ph, sr, wd, OutOk.bind ok fun x ph1 μ1 H1 v e1 w1 r1 ok1 => ⟨μ1, ph1, x, w1, r1, ok1.op⟩⟩
theorem j_ix {a b : Expr} {fa fb : DE} {f : F2} (ho : IxR X (rP (bs X tbs) f)) (ha : JE (bs X tbs) W X a fa) (hb : JE (bs X tbs) W X b fb) (hs : PlainIx b := by exact fun _ _ => rfl) : JE (bs X tbs) W X (.Subscript a b pos) (eOp f fa fb) :=
  PE_imp (pe_ix ho ha hb hs) fun σ H Q h => j_op2 (fun _ _ _ _ q => q) h

/-! ### argument lists, displays -/
def eNil : DA := fun _ h => .ok [] h
def eCons (a : DE) (r : DA) : DA := fun s h => (a s h).bind fun x h => (r s h).bind fun xs h => .ok (x :: xs) h
theorem j_nil : JA (bs X tbs) W X [] eNil := PA_imp pa_nil fun σ H Q ⟨μ, ps, ph, sr, wd, ok⟩ => ok μ H [] Ex.refl wd .nil
theorem j_cons {e : Expr} {es : List Expr} {f : DE} {g : DA} (he : JE (bs X tbs) W X e f) (hr : JA (bs X tbs) W X es g) (hs : starEach (e :: es) X.env = (false, eval e X.env) :: starEach es X.env := by rfl) : JA (bs X tbs) W X (e :: es) (eCons f g) :=
  PA_imp (pa_cons he hr hs) fun σ H Q ⟨μ, ps, ph, sr, wd, ok⟩ => ⟨μ, ps, ph, sr, wd, OutOk.bind ok fun x ph1 μ1 H1 v e1 w1 r1 ok1 => ⟨μ1, ps, ph1, sr.mono e1, w1,
    OutOk.bind ok1 fun xs ph2 μ2 H2 vs e2 w2 r2 ok2 => ok2 μ2 H2 _ Ex.refl w2 (.cons (r1.mono e2) r2)⟩⟩
def eTup (a : DA) : DE := fun s h => (a s h).bind fun xs h => if xs.length ≤ sizeLine then .ok (.tup xs) h else .no
def eLst (a : DA) : DE := fun s h => (a s h).bind fun xs h => if xs.length ≤ sizeLine then .ok (.ref h.length) (h ++ [.lst xs]) else .no
theorem Wd.newTup {K : PySem.W.Frag} {μ : List Addr} {ph : PH} {H : Hp} {p : Addr} {xs : List PV} {vs : List V} (w : Wd K tbs μ ph H) (r : Rls K H μ xs vs) (hp : H p = none) :
    Ex μ H μ (upd H p (.tup vs)) ∧ Wd K tbs μ ph (upd H p (.tup vs)) ∧ Rl K (upd H p (.tup vs)) μ (.tup xs) (.ref p) :=
  ⟨Ex.new hp _, w.new hp _, .tup upd_same (r.mono (Ex.new hp _))⟩
theorem Wd.newLst {K : PySem.W.Frag} {μ : List Addr} {ph : PH} {H : Hp} {p : Addr} {xs : List PV} {vs : List V} (w : Wd K tbs μ ph H) (r : Rls K H μ xs vs) (hp : H p = none) :
    Ex μ H (μ ++ [p]) (upd H p (.lst vs)) ∧ Wd K tbs (μ ++ [p]) (ph ++ [.lst xs]) (upd H p (.lst vs)) ∧ Rl K (upd H p (.lst vs)) (μ ++ [p]) (.ref ph.length) (.ref p) :=
  ⟨Ex.grow hp _, w.grow hp ⟨vs, upd_same, r.mono (Ex.grow hp _)⟩, .ref (by rw [← w.len]; simp)⟩
theorem j_tup {es : List Expr} {f : DA} {k} (h : JA (bs X tbs) W X es f) : JE (bs X tbs) W X (.Tuple es k pos) (eTup f) := PE_imp (pe_tup h) fun σ H Q ⟨μ, ps, ph, sr, wd, ok⟩ => ⟨μ, ps, ph, sr, wd, OutOk.bind ok fun xs ph1 μ1 H1 vs e1 w1 r1 ok1 => by
  have l := r1.len
  split at ok1
  · rename_i hz
    refine ⟨by rw [← l]; exact hz, fun p hp => ?_⟩
    obtain ⟨a, b, c⟩ := w1.newTup r1 hp
    exact ok1 _ _ _ a b c
  · exact ok1.elim⟩
theorem j_lst {es : List Expr} {f : DA} (h : JA (bs X tbs) W X es f) : JE (bs X tbs) W X (.List es pos) (eLst f) := PE_imp (pe_lst h) fun σ H Q ⟨μ, ps, ph, sr, wd, ok⟩ => ⟨μ, ps, ph, sr, wd, OutOk.bind ok fun xs ph1 μ1 H1 vs e1 w1 r1 ok1 => by
  have l := r1.len
  split at ok1
  · rename_i hz
    refine ⟨by rw [← l]; exact hz, fun p hp => ?_⟩
    obtain ⟨a, b, c⟩ := w1.newLst r1 hp
    exact ok1 _ _ _ a b c
  · exact ok1.elim⟩

/-! ### tests -/
def tV (a : DE) : DT := fun s h => (a s h).bind fun x h => match x with
  | .bl b => .ok b h
  | _ => .no
def tAndD (a b : DT) : DT := fun s h => (a s h).bind fun c h => if c = true then b s h else .ok false h
def tOrD (a b : DT) : DT := fun s h => (a s h).bind fun c h => if c = true then .ok true h else b s h
def tNotD (a : DT) : DT := fun s h => (a s h).bind fun c h => .ok (!c) h
def eIf (c : DT) (a b : DE) : DE := fun s h => (c s h).bind fun c h => if c = true then a s h else b s h
/-- a test as a value -/
def eB (c : DT) : DE := fun s h => (c s h).bind fun c h => .ok (.bl c) h
theorem j_tv {e : Expr} {f : DE} (h : JE (bs X tbs) W X e f) (he : ∀ whole, isTrue e X.env whole = (do let v ← whole; standAt e.pos; holding [v] (truthy v)) := by intro _; rfl) : JT (bs X tbs) W X e (tV f) :=
  PT_imp (pt_val h he) fun σ H Q ⟨μ, ps, ph, sr, wd, ok⟩ => ⟨μ, ps, ph, sr, wd, OutOk.bind ok fun x ph1 μ1 H1 v e1 w1 r1 ok1 => by
    cases r1 with
    | bl b => exact ⟨b, rfl, ok1 μ1 H1 b Ex.refl w1 rfl⟩
    | _ => exact ok1.elim⟩
/-- the same, a comparison -/
theorem j_tcmp {op : CmpOp} {a b : Expr} {fa fb : DE} {f : F2} (ho : OpR X (compareOp op) (rP (bs X tbs) f)) (ha : JE (bs X tbs) W X a fa) (hb : JE (bs X tbs) W X b fb) (hm : behindInMarks op b = false := by first | exact nomark _ | rfl) : JT (bs X tbs) W X (.Compare a [op] [b] pos) (tV (eOp f fa fb)) :=
  PT_imp (pt_cmpR (r := rP (bs X tbs) f) ho ha hb hm) fun σ H Q ⟨μ, ps, ph, sr, wd, ok⟩ => by
    show tOp _ _ _ _ _ _
    refine j_op2 (fun _ _ _ _ q => q) ⟨μ, ps, ph, sr, wd, ?_⟩
    refine OutOk.bind (k := fun x h => match x with | .bl b => .ok b h | _ => .no) ok fun x ph1 μ1 H1 v e1 w1 r1 ok1 => ?_
    cases r1 with
    | bl b => exact ⟨b, rfl, ok1 μ1 H1 b Ex.refl w1 rfl⟩
    | _ => exact ok1.elim
theorem j_wt {e : Expr} {f : DT} (h : JW (bs X tbs) W X e f) : JT (bs X tbs) W X e f := PW.pt h
theorem j_and1 {e : Expr} {f : DT} (h : JT (bs X tbs) W X e f) : JW (bs X tbs) W X (.BoolOp .And [e] pos) f := pw_and1 h
theorem j_or1 {e : Expr} {f : DT} (h : JT (bs X tbs) W X e f) : JW (bs X tbs) W X (.BoolOp .Or [e] pos) f := pw_or1 h
theorem j_and {a b : Expr} {rest : List Expr} {f g : DT} (ha : JT (bs X tbs) W X a f) (hb : JW (bs X tbs) W X (.BoolOp .And (b :: rest) pos) g) : JW (bs X tbs) W X (.BoolOp .And (a :: b :: rest) pos) (tAndD f g) :=
  PW_imp (pw_and ha hb) fun σ H Q ⟨μ, ps, ph, sr, wd, ok⟩ => ⟨μ, ps, ph, sr, wd, OutOk.bind ok fun x ph1 μ1 H1 v e1 w1 r1 ok1 => by
    subst r1
    cases x with
    | true => exact ⟨μ1, ps, ph1, sr.mono e1, w1, ok1⟩
    | false => exact ok1 μ1 H1 false Ex.refl w1 rfl⟩
theorem j_or {a b : Expr} {rest : List Expr} {f g : DT} (ha : JT (bs X tbs) W X a f) (hb : JW (bs X tbs) W X (.BoolOp .Or (b :: rest) pos) g) : JW (bs X tbs) W X (.BoolOp .Or (a :: b :: rest) pos) (tOrD f g) :=
  PW_imp (pw_or ha hb) fun σ H Q ⟨μ, ps, ph, sr, wd, ok⟩ => ⟨μ, ps, ph, sr, wd, OutOk.bind ok fun x ph1 μ1 H1 v e1 w1 r1 ok1 => by
    subst r1
    cases x with
    | true => exact ok1 μ1 H1 true Ex.refl w1 rfl
    | false => exact ⟨μ1, ps, ph1, sr.mono e1, w1, ok1⟩⟩
theorem j_not {a : Expr} {f : DT} (ha : JT (bs X tbs) W X a f) : JT (bs X tbs) W X (.UnaryOp .Not a pos) (tNotD f) :=
  PT_imp (pt_not ha) fun σ H Q ⟨μ, ps, ph, sr, wd, ok⟩ => ⟨μ, ps, ph, sr, wd, OutOk.bind ok fun x ph1 μ1 H1 v e1 w1 r1 ok1 => by
    subst r1
    exact ok1 μ1 H1 _ Ex.refl w1 rfl⟩
theorem j_if {c a b : Expr} {f : DT} {g h : DE} (hc : JT (bs X tbs) W X c f) (ha : JE (bs X tbs) W X a g) (hb : JE (bs X tbs) W X b h) : JE (bs X tbs) W X (.IfExp c a b pos) (eIf f g h) :=
  PE_imp (pe_ifExp hc ha hb) fun σ H Q ⟨μ, ps, ph, sr, wd, ok⟩ => ⟨μ, ps, ph, sr, wd, OutOk.bind ok fun x ph1 μ1 H1 v e1 w1 r1 ok1 => by
    subst r1
    cases x with
    | true => exact ⟨μ1, ps, ph1, sr.mono e1, w1, ok1⟩
    | false => exact ⟨μ1, ps, ph1, sr.mono e1, w1, ok1⟩⟩
/-- a and b, a or b, not a as values, all of them True or False -/
def eAnd (a b : DE) : DE := fun s h => (a s h).bind fun x h => match x with
  | .bl true => b s h
  | .bl false => .ok (.bl false) h
  | _ => .no
def eOr (a b : DE) : DE := fun s h => (a s h).bind fun x h => match x with
  | .bl true => .ok (.bl true) h
  | .bl false => b s h
  | _ => .no
def eNot (a : DE) : DE := fun s h => (a s h).bind fun x h => match x with
  | .bl c => .ok (.bl (!c)) h
  | _ => .no
theorem j_one {op} {a : Expr} {f : DE} (h : JE (bs X tbs) W X a f) : JE (bs X tbs) W X (.BoolOp op [a] pos) f := pe_one h
theorem j_andV {a b : Expr} {rest : List Expr} {f g : DE} (ha : JE (bs X tbs) W X a f) (hb : JE (bs X tbs) W X (.BoolOp .And (b :: rest) pos) g) : JE (bs X tbs) W X (.BoolOp .And (a :: b :: rest) pos) (eAnd f g) :=
  PE_imp (pe_and ha hb) fun σ H Q ⟨μ, ps, ph, sr, wd, ok⟩ => ⟨μ, ps, ph, sr, wd, OutOk.bind ok fun x ph1 μ1 H1 v e1 w1 r1 ok1 => by
    cases r1 with
    | bl b =>
      cases b with
      | true => exact ⟨true, rfl, iteT ⟨μ1, ps, ph1, sr.mono e1, w1, ok1⟩⟩
      | false => exact ⟨false, rfl, iteF (ok1 μ1 H1 _ Ex.refl w1 (.bl false))⟩
    | _ => exact ok1.elim⟩
theorem j_orV {a b : Expr} {rest : List Expr} {f g : DE} (ha : JE (bs X tbs) W X a f) (hb : JE (bs X tbs) W X (.BoolOp .Or (b :: rest) pos) g) : JE (bs X tbs) W X (.BoolOp .Or (a :: b :: rest) pos) (eOr f g) :=
  PE_imp (pe_or ha hb) fun σ H Q ⟨μ, ps, ph, sr, wd, ok⟩ => ⟨μ, ps, ph, sr, wd, OutOk.bind ok fun x ph1 μ1 H1 v e1 w1 r1 ok1 => by
    cases r1 with
    | bl b =>
      cases b with
      | true => exact ⟨true, rfl, iteT (ok1 μ1 H1 _ Ex.refl w1 (.bl true))⟩
      | false => exact ⟨false, rfl, iteF ⟨μ1, ps, ph1, sr.mono e1, w1, ok1⟩⟩
    | _ => exact ok1.elim⟩
theorem j_notV {a : Expr} {f : DE} (ha : JE (bs X tbs) W X a f) : JE (bs X tbs) W X (.UnaryOp .Not a pos) (eNot f) :=
  PE_imp (pe_not ha) fun σ H Q ⟨μ, ps, ph, sr, wd, ok⟩ => ⟨μ, ps, ph, sr, wd, OutOk.bind ok fun x ph1 μ1 H1 v e1 w1 r1 ok1 => by
    cases r1 with
    | bl b => exact ⟨b, rfl, ok1 μ1 H1 _ Ex.refl w1 (.bl _)⟩
    | _ => exact ok1.elim⟩

/-! ### calls of built-ins by name -/
theorem j_callB {f : FN} {id : String} {x : Str} {e : Expr} {es : List Expr} {g : DA} {p : Pos} (hc : CallR X (.builtin id) (rPN (bs X tbs) f)) (hg : Gl X x) (hm : X.mg x = none) (hv : bootBuiltins x = some (.builtin id)) (ha : JA (bs X tbs) W X (e :: es) g)
    (hn : x ≠ "__name__" := by decide) (hdb : (x == ("__debug__" : Str)) = false := by decide)
    (he : starEach (e :: es) X.env = (false, eval e X.env) :: starEach es X.env := by rfl) (hpl : (backTo pos (starEach es X.env)).any (·.1) = false := by rfl) : JE (bs X tbs) W X (.Call (.Name x p) (e :: es) [] pos) (eCall f g) :=
  PE_imp (pe_callB hc hg hm hv ha hn hdb he hpl) fun σ H Q ⟨μ, ps, ph, sr, wd, ok⟩ => ⟨μ, ps, ph, sr, wd, OutOk.bind ok fun x ph1 μ1 H1 v e1 w1 r1 ok1 => ⟨μ1, ph1, x, w1, r1, ok1.op⟩⟩
theorem j_callTy {f : FN} {T : String} {x : Str} {e : Expr} {es : List Expr} {g : DA} {p : Pos} (hc : CallR X (.type T) (rPN (bs X tbs) f)) (hg : Gl X x) (hm : X.mg x = none) (hv : bootBuiltins x = some (.type T)) (ha : JA (bs X tbs) W X (e :: es) g)
    (hn : x ≠ "__name__" := by decide) (hdb : (x == ("__debug__" : Str)) = false := by decide)
    (he : starEach (e :: es) X.env = (false, eval e X.env) :: starEach es X.env := by rfl) (hpl : (backTo pos (starEach es X.env)).any (·.1) = false := by rfl) : JE (bs X tbs) W X (.Call (.Name x p) (e :: es) [] pos) (eCall f g) :=
  PE_imp (pe_callTy hc hg hm hv ha hn hdb he hpl) fun σ H Q ⟨μ, ps, ph, sr, wd, ok⟩ => ⟨μ, ps, ph, sr, wd, OutOk.bind ok fun x ph1 μ1 H1 v e1 w1 r1 ok1 => ⟨μ1, ph1, x, w1, r1, ok1.op⟩⟩
end
end Dn
namespace Dn
open PySem PySem.Spec PyProof.Rows L2 PySem.SeqAt

/-! ### a value as data -/
def allD (f : PV → Option PyData) : List PV → Option (List PyData)
  | [] => some []
  | x :: r => match f x, allD f r with
    | some d, some ds => some (d :: ds)
    | _, _ => none
def toD (ph : PH) : Nat → PV → Option PyData
  | 0, _ => none
  | n + 1, x => match x with
    | .non => some .none
    | .bl b => some (.bool b)
    | .int i => some (.int i)
    | .str z => some (.str z)
    | .tup xs => (allD (toD ph n) xs).map .tuple
    | .kt xs => (allD (toD ph n) xs).map .tuple
    | .fz _ => none
    | .ref k => match ph[k]? with
      | some (.lst xs) => (allD (toD ph n) xs).map .list
      | some (.dK [(.inr z, y)]) => (toD ph n y).map fun d => .dict [(.str z, d)]
      | _ => none
theorem allD_cons {f : PV → Option PyData} {x : PV} {r : List PV} {ds : List PyData} (h : allD f (x :: r) = some ds) : ∃ d es, ds = d :: es ∧ f x = some d ∧ allD f r = some es := by
  unfold allD at h
  split at h
  · rename_i d es h1 h2
    exact ⟨d, es, (Option.some.inj h).symm, h1, h2⟩
  · cases h
section
variable {X : Cx} {pins : List (Addr × Obj)} {σ : L2.St} {H : Hp} {s : Shared} {tbs : List Addr} {μ : List Addr} {ph : PH}
def ReadsOf (s : Shared) (H : Hp) (u : Value) (d : PyData) : Prop := ∃ as, Reads s.heap u d as ∧ ∀ b ∈ as, ∃ o, H b = some o
def ReadsOfs (s : Shared) (H : Hp) (us : List Value) (ds : List PyData) : Prop := ∃ as, ReadsAll s.heap us ds as ∧ ∀ b ∈ as, ∃ o, H b = some o
theorem Rls.reads {K : PySem.W.Frag} {f : PV → Option PyData} (hf : ∀ x d v u, f x = some d → Rl K H μ x v → RelV v u → ReadsOf s H u d) : ∀ {xs : List PV} {vs : List V} {us : List Value} {ds : List PyData}, allD f xs = some ds → Rls K H μ xs vs → Vals vs us → ReadsOfs s H us ds
  | [], _, _, _, h, r, rv => by
    cases r
    cases rv
    cases h
    exact ⟨_, ReadsAll.nil, fun b hb => absurd hb (by simp)⟩
  | x :: xs, _, _, _, h, r, rv => by
    obtain ⟨d, es, rfl, h1, h2⟩ := allD_cons h
    cases r with
    | cons r1 r2 =>
      cases rv with
      | cons v1 v2 =>
        obtain ⟨as, q1, k1⟩ := hf x d _ _ h1 r1 v1
        obtain ⟨bs, q2, k2⟩ := Rls.reads hf h2 r2 v2
        refine ⟨_, ReadsAll.cons q1 q2, fun b hb => ?_⟩
        rcases List.mem_append.mp hb with e | e
        · exact k1 b e
        · exact k2 b e
theorem Rl.reads (I : Inv X pins σ H s) (wd : Wd X.K tbs μ ph H) : ∀ (n : Nat) (x : PV) (d : PyData) (v : V) (u : Value), toD ph n x = some d → Rl X.K H μ x v → RelV v u → ReadsOf s H u d := by
  intro n
  induction n with
  | zero =>
    intro x d v u h
    cases h
  | succ n ih =>
    intro x d v u h r rv
    unfold toD at h
    cases r with
    | non =>
      cases h
      cases rv
      exact ⟨_, Reads.none, fun b hb => absurd hb (by simp)⟩
    | bl b =>
      cases h
      cases rv
      exact ⟨_, Reads.bool b, fun b hb => absurd hb (by simp)⟩
    | int i =>
      cases h
      obtain ⟨t, rfl⟩ := rv
      exact ⟨_, Reads.int i t, fun b hb => absurd hb (by simp)⟩
    | str z =>
      cases h
      obtain ⟨t, rfl⟩ := rv
      exact ⟨_, Reads.str z t, fun b hb => absurd hb (by simp)⟩
    | fz _ _ => cases h
    | @tup a vs xs ht ra =>
      cases e : allD (toD ph n) xs with
      | none =>
        simp only [e] at h
        cases h
      | some ds =>
        simp only [e] at h
        cases h
        cases rv
        obtain ⟨its, rv2, ⟨o, ho, hc, k, hd⟩, _⟩ := I.tuple (SqT.of ht)
        obtain ⟨as, q, kk⟩ := Rls.reads ih e ra rv2
        exact ⟨_, Reads.tuple ho hc hd q, kk⟩
    | @kt a vs xs ht ra =>
      cases e : allD (toD ph n) xs with
      | none =>
        simp only [e] at h
        cases h
      | some ds =>
        simp only [e] at h
        cases h
        cases rv
        obtain ⟨its, rv2, ⟨o, ho, hc, k, hd⟩, _⟩ := I.tuple (.inr ht)
        obtain ⟨as, q, kk⟩ := Rls.reads ih e ra rv2
        exact ⟨_, Reads.tuple ho hc hd q, kk⟩
    | @ref k a hk =>
      cases rv
      obtain ⟨o, ho, hor⟩ := wd.there hk
      simp only [ho] at h
      cases o with
      | lst xs =>
        obtain ⟨vs, hs, ra⟩ := hor
        cases e : allD (toD ph n) xs with
        | none =>
          simp only [e] at h
          cases h
        | some ds =>
          simp only [e] at h
          cases h
          obtain ⟨its, rv2, ⟨ob, m, ho2, hc, _, hd⟩, _⟩ := I.list (SqL.of hs)
          obtain ⟨as, q, kk⟩ := Rls.reads ih e ra rv2
          refine ⟨_, Reads.list ho2 hc hd q, fun b hb => ?_⟩
          rcases List.mem_cons.mp hb with z | z
          · rw [z]
            exact ⟨_, hs⟩
          · exact kk b z
      | dT kvs => cases h
      | dK kvs =>
        split at h
        · rename_i xs e
          cases e
        · rename_i z y e
          cases e
          cases e2 : toD ph n y with
          | none =>
            rw [e2] at h
            cases h
          | some d2 =>
            rw [e2] at h
            cases h
            obtain ⟨r, hs, hr⟩ := hor
            cases hr with
            | @cons _ x1 v1 r1 s1 hv hrest =>
              cases hrest
              obtain ⟨_, _, vs, kv, o, es, ep, ho2, hx, hd, hks, hp, _⟩ := (show ObjOk X.prog X.w H s.heap a (.dK [(.inr z, v1)]) from I.hok a _ hs)
              cases vs with
              | nil => cases kv
              | cons q0 qt =>
                cases kv with
                | cons r1 rt =>
                  cases rt
                  obtain ⟨k2, u2⟩ := q0
                  obtain ⟨e1, r2⟩ := r1
                  simp only at e1 r2
                  subst e1
                  obtain ⟨as, hr, hk⟩ := ih y d2 v1 u2 e2 hv r2
                  generalize hl : es.toList = el at hp
                  cases el with
                  | nil => cases hp
                  | cons e0 et =>
                    cases hp with
                    | cons i1 i2 i3 =>
                      cases i3
                      obtain ⟨t, ek⟩ := Value.isStrOf_shape (x := z) (v := e0.key) i1
                      refine ⟨a :: ([] ++ []) ++ (as ++ []), Reads.dict ho2 hx.1 hd ?_ ?_, fun b hb => ?_⟩
                      · rw [hl]
                        show ReadsAll s.heap [e0.key] [.str z] ([] ++ [])
                        rw [ek]
                        exact .cons (.str z t) .nil
                      · rw [hl]
                        show ReadsAll s.heap [e0.val] [d2] (as ++ [])
                        rw [show e0.val = u2 from i2]
                        exact .cons hr .nil
                      · simp only [List.append_nil, List.cons_append, List.nil_append, List.mem_cons] at hb
                        rcases hb with e | e
                        · rw [e]
                          exact ⟨_, hs⟩
                        · exact hk b e
        · cases h
end
end Dn
namespace Dn
open PySem PySem.Spec PyProof.Rows L2 PySem.SeqAt

/-! ### the operators, on values without addresses -/
def sizeOk (n : Nat) : Bool := decide (n ≤ 16777216)
theorem sizeOk_le {n : Nat} (h : sizeOk n = true) : n ≤ sizeLine := by
  rw [sizeLine_eq]
  exact of_decide_eq_true h
def opAdd : F2 := fun x y h => match x, y with
  | .int i, .int j => some (.int (i + j), h)
  | .str a, .str b => if sizeOk (a.length + b.length) then some (.str (a ++ b), h) else none
  | .tup xs, .tup ys => if sizeOk (xs.length + ys.length) then some (.tup (xs ++ ys), h) else none
  | .ref m, .ref n => match h[m]?, h[n]? with
    | some (.lst xs), some (.lst ys) => if sizeOk (xs.length + ys.length) then some (.ref h.length, h ++ [.lst (xs ++ ys)]) else none
    | _, _ => none
  | _, _ => none
def opSub : F2 := fun x y h => match x, y with
  | .int i, .int j => some (.int (i - j), h)
  | _, _ => none
def smallB (i : Int) : Bool := decide (-18446744073709551616 < i ∧ i < 18446744073709551616)
def opMul : F2 := fun x y h => match x, y with
  | .int i, .int j => if smallB i || smallB j then some (.int (i * j), h) else none
  | .tup xs, .int k => if !xs.isEmpty && decide (2 ≤ k ∧ k ≤ 1000) && decide (xs.length ≤ 1000) then some (.tup (List.replicate k.toNat xs).flatten, h) else none
  | _, _ => none
def opFdiv : F2 := fun x y h => match x, y with
  | .int i, .int j => if decide (j ≠ 0 ∧ j.natAbs < 1073741824) then some (.int (i.fdiv j), h) else none
  | _, _ => none
def opMod : F2 := fun x y h => match x, y with
  | .int i, .int j => if decide (j ≠ 0) then some (.int (i.fmod j), h) else none
  | _, _ => none
def powOk (i j : Int) : Bool := decide (0 ≤ j ∧ j ≤ 1000000 ∧ i.natAbs < 18446744073709551616)
def opPow : F2 := fun x y h => match x, y with
  | .int i, .int j => if powOk i j then some (.int (i ^ j.toNat), h) else none
  | _, _ => none
def opShl : F2 := fun x y h => match x, y with
  | .int i, .int j => if powOk i j then some (.int (i * 2 ^ j.toNat), h) else none
  | _, _ => none
def opShr : F2 := fun x y h => match x, y with
  | .int i, .int j => if decide (0 ≤ j) then some (.int (i / 2 ^ j.toNat), h) else none
  | _, _ => none
def opAnd : F2 := fun x y h => match x, y with
  | .int i, .int j => some (.int (Builtin.bitAnd i j), h)
  | _, _ => none
def opOr : F2 := fun x y h => match x, y with
  | .int i, .int j => some (.int (Builtin.bitOr i j), h)
  | _, _ => none
def opNeg : F1 := fun x h => match x with
  | .int i => some (.int (-i), h)
  | _ => none
def cmpI (p : Int → Int → Bool) : F2 := fun x y h => match x, y with
  | .int i, .int j => some (.bl (p i j), h)
  | _, _ => none
def opLt : F2 := cmpI fun i j => decide (i < j)
def opLe : F2 := cmpI fun i j => decide (i ≤ j)
def opGt : F2 := cmpI fun i j => decide (j < i)
def opGe : F2 := cmpI fun i j => decide (j ≤ i)
/-- equal, of two values -/
def eqB (h : PH) (x y : PV) : Option Bool := match x, y with
  | .str a, .str b => some (decide (a = b))
  | .int a, .int b => some (decide (a = b))
  | .bl a, .bl b => some (decide (a = b))
  | _, _ => match toD h 50 x, toD h 50 y with
    | some d, some e => if shaped d && shaped e then some (PyData.eqv d e) else none
    | _, _ => none
def opEq : F2 := fun x y h => (eqB h x y).map fun b => (.bl b, h)
def neB (h : PH) (x y : PV) : Option Bool := match y, toD h 50 x with
  | .str b, some d => some (!Rw.eqS d b)
  | _, _ => (eqB h x y).map fun b => !b
def opNe : F2 := fun x y h => (neB h x y).map fun b => (.bl b, h)
/-- an item of a sequence beside what is sought there -/
def eqI (h : PH) (x y : PV) : Option Bool := match y, toD h 50 x with
  | .str a, some d => some (Rw.eqS d a)
  | _, some d => match x, y with
    | .str _, .int _ => some false
    | .str _, .non => some false
    | .str _, .bl _ => some false
    | _, _ => match toD h 50 y with
      | some e => if shaped d && shaped e then some (PyData.eqv e d) else none
      | none => none
  | _, none => none
def anyO {α : Type} (f : α → Option Bool) : List α → Option Bool
  | [] => some false
  | y :: r => match f y, anyO f r with
    | some a, some b => some (a || b)
    | _, _ => none
def inStr (i j : Str) : Bool := !(Builtin.Str.occurrences j i 0 j.length 1).isEmpty
/-- the value of a key -/
def keyOf : PV → Option Key
  | .int i => some (.inl i)
  | .str x => some (.inr x)
  | _ => none
def keysOf : List PV → Option (List Key)
  | [] => some []
  | x :: r => match keyOf x, keysOf r with
    | some k, some ks => some (k :: ks)
    | _, _ => none
def isKeyP : PV → Bool
  | .int _ => true
  | .str _ => true
  | _ => false
end Dn
namespace Dn
open PySem PySem.Spec PyProof.Rows L2 PySem.SeqAt
section
variable {X : Cx} {tbs : List Addr}
theorem or_add : OpR X (binaryOp .Add) (rP (bs X tbs) opAdd) := by
  intro pins s σ H x y v u Q I rx ry ⟨μ, ph, px, py, wd, r1, r2, q⟩
  unfold opAdd at q
  split at q
  · rename_i i j
    cases r1
    cases r2
    exact op_add pins s σ H _ _ v u Q I rx ry ⟨_, _, rfl, rfl, q.val wd (.int _)⟩
  · rename_i a b
    split at q
    · rename_i hz
      cases r1
      cases r2
      exact op_add_str pins s σ H _ _ v u Q I rx ry ⟨_, _, rfl, rfl, sizeOk_le hz, q.val wd (.str _)⟩
    · exact q.elim
  · rename_i xs ys
    split at q
    · rename_i hz
      cases r1 with
      | @tup a vs _ ha ra =>
      cases r2 with
      | @tup b ws _ hb rb =>
      have l1 := ra.len
      have l2 := rb.len
      refine op_catA pins s σ H _ _ v u Q I rx ry ⟨a, b, vs, ws, rfl, rfl, SqT.of ha, SqT.of hb, by rw [← l1, ← l2]; exact sizeOk_le hz, fun e => ?_, fun n e => ?_, fun n1 n2 p hp => ?_⟩
      · refine q.val wd ?_
        subst e
        cases ra
        exact .tup hb rb
      · refine q.val wd ?_
        subst e
        cases rb
        rw [List.append_nil]
        exact .tup ha ra
      · obtain ⟨e1, e2, e3⟩ := wd.newTup (ra.app rb) hp
        exact q _ _ _ e1 e2 e3
    · exact q.elim
  · rename_i m n
    split at q
    · rename_i xs ys h1 h2
      split at q
      · rename_i hz
        cases r1 with
        | @ref _ a ha =>
        cases r2 with
        | @ref _ b hb =>
        obtain ⟨vs, e1, ra⟩ := wd.ob _ _ _ ha h1
        obtain ⟨ws, e2, rb⟩ := wd.ob _ _ _ hb h2
        have l1 := ra.len
        have l2 := rb.len
        refine op_cat pins s σ H _ _ v u Q I rx ry ⟨a, b, vs, ws, rfl, rfl, e1, e2, by rw [← l1, ← l2]; exact sizeOk_le hz, fun p hp => ?_⟩
        obtain ⟨e1, e2, e3⟩ := wd.newLst (ra.app rb) hp
        exact q _ _ _ e1 e2 e3
      · exact q.elim
    · exact q.elim
  · exact q.elim
theorem or_sub : OpR X (binaryOp .Sub) (rP (bs X tbs) opSub) := by
  intro pins s σ H x y v u Q I rx ry ⟨μ, ph, px, py, wd, r1, r2, q⟩
  unfold opSub at q
  split at q
  · cases r1
    cases r2
    exact op_sub pins s σ H _ _ v u Q I rx ry ⟨_, _, rfl, rfl, q.val wd (.int _)⟩
  · exact q.elim
theorem smallB_ok {i : Int} (h : smallB i = true) : -(2 ^ 64) < i ∧ i < 2 ^ 64 := of_decide_eq_true h
theorem or_mul : OpR X (binaryOp .Mult) (rP (bs X tbs) opMul) := by
  intro pins s σ H x y v u Q I rx ry ⟨μ, ph, px, py, wd, r1, r2, q⟩
  unfold opMul at q
  split at q
  · split at q
    · rename_i hz
      cases r1
      cases r2
      refine op_mul pins s σ H _ _ v u Q I rx ry ⟨_, _, rfl, rfl, ?_, q.val wd (.int _)⟩
      rcases Bool.or_eq_true_iff.mp hz with h | h
      · exact .inl (smallB_ok h)
      · exact .inr (smallB_ok h)
    · exact q.elim
  · rename_i xs k
    split at q
    · rename_i hz
      cases r1 with
      | @tup a vs _ ha ra =>
      cases r2
      have l1 := ra.len
      simp only [Bool.and_eq_true, decide_eq_true_eq, Bool.not_eq_true'] at hz
      obtain ⟨⟨h0, h1, h2⟩, h3⟩ := hz
      have rep : ∀ m : Nat, Rls X.K H μ (List.replicate m xs).flatten (List.replicate m vs).flatten := fun m => by
        induction m with
        | zero => exact .nil
        | succ m ih =>
          rw [List.replicate_succ, List.replicate_succ, List.flatten_cons, List.flatten_cons]
          exact ra.app ih
      refine op_repT pins s σ H _ _ v u Q I rx ry ⟨a, k, vs, rfl, rfl, SqT.of ha, fun e => ?_, h1, h2, by rw [← l1]; exact h3, fun p hp => ?_⟩
      · subst e
        cases ra
        cases h0
      · obtain ⟨e1, e2, e3⟩ := wd.newTup (rep k.toNat) hp
        exact q _ _ _ e1 e2 e3
    · exact q.elim
  · exact q.elim
theorem or_fdiv : OpR X (binaryOp .FloorDiv) (rP (bs X tbs) opFdiv) := by
  intro pins s σ H x y v u Q I rx ry ⟨μ, ph, px, py, wd, r1, r2, q⟩
  unfold opFdiv at q
  split at q
  · split at q
    · rename_i hz
      cases r1
      cases r2
      exact op_fdivN pins s σ H _ _ v u Q I rx ry ⟨_, _, rfl, rfl, (by have z := of_decide_eq_true hz; exact z), q.val wd (.int _)⟩
    · exact q.elim
  · exact q.elim
theorem or_mod : OpR X (binaryOp .Mod) (rP (bs X tbs) opMod) := by
  intro pins s σ H x y v u Q I rx ry ⟨μ, ph, px, py, wd, r1, r2, q⟩
  unfold opMod at q
  split at q
  · split at q
    · rename_i hz
      cases r1
      cases r2
      exact op_modN pins s σ H _ _ v u Q I rx ry ⟨_, _, rfl, rfl, (by have z := of_decide_eq_true hz; exact z), q.val wd (.int _)⟩
    · exact q.elim
  · exact q.elim
theorem or_pow : OpR X (binaryOp .Pow) (rP (bs X tbs) opPow) := by
  intro pins s σ H x y v u Q I rx ry ⟨μ, ph, px, py, wd, r1, r2, q⟩
  unfold opPow at q
  split at q
  · split at q
    · rename_i hz
      cases r1
      cases r2
      exact op_pow pins s σ H _ _ v u Q I rx ry ⟨_, _, rfl, rfl, (by have z := of_decide_eq_true hz; exact z), q.val wd (.int _)⟩
    · exact q.elim
  · exact q.elim
theorem or_shl : OpR X (binaryOp .LShift) (rP (bs X tbs) opShl) := by
  intro pins s σ H x y v u Q I rx ry ⟨μ, ph, px, py, wd, r1, r2, q⟩
  unfold opShl at q
  split at q
  · split at q
    · rename_i hz
      cases r1
      cases r2
      exact op_shl pins s σ H _ _ v u Q I rx ry ⟨_, _, rfl, rfl, (by have z := of_decide_eq_true hz; exact z), q.val wd (.int _)⟩
    · exact q.elim
  · exact q.elim
theorem or_shr : OpR X (binaryOp .RShift) (rP (bs X tbs) opShr) := by
  intro pins s σ H x y v u Q I rx ry ⟨μ, ph, px, py, wd, r1, r2, q⟩
  unfold opShr at q
  split at q
  · split at q
    · rename_i hz
      cases r1
      cases r2
      exact op_shr pins s σ H _ _ v u Q I rx ry ⟨_, _, rfl, rfl, (by have z := of_decide_eq_true hz; exact z), q.val wd (.int _)⟩
    · exact q.elim
  · exact q.elim
theorem or_and : OpR X (binaryOp .BitAnd) (rP (bs X tbs) opAnd) := by
  intro pins s σ H x y v u Q I rx ry ⟨μ, ph, px, py, wd, r1, r2, q⟩
  unfold opAnd at q
  split at q
  · cases r1
    cases r2
    exact op_and pins s σ H _ _ v u Q I rx ry ⟨_, _, rfl, rfl, q.val wd (.int _)⟩
  · exact q.elim
theorem or_or : OpR X (binaryOp .BitOr) (rP (bs X tbs) opOr) := by
  intro pins s σ H x y v u Q I rx ry ⟨μ, ph, px, py, wd, r1, r2, q⟩
  unfold opOr at q
  split at q
  · cases r1
    cases r2
    exact op_or pins s σ H _ _ v u Q I rx ry ⟨_, _, rfl, rfl, q.val wd (.int _)⟩
  · exact q.elim
theorem ur_neg : UnR X (unaryOp .USub) (rP1 (bs X tbs) opNeg) := by
  intro pins s σ H x v Q I rx ⟨μ, ph, px, wd, r1, q⟩
  unfold opNeg at q
  split at q
  · cases r1
    exact un_neg pins s σ H _ v Q I rx ⟨_, rfl, q.val wd (.int _)⟩
  · exact q.elim
theorem or_cmpI {op : CmpOp} {p : Int → Int → Bool} (h : OpR X (compareOp op) (rI0 fun i j => .bl (p i j))) : OpR X (compareOp op) (rP (bs X tbs) (cmpI p)) := by
  intro pins s σ H x y v u Q I rx ry ⟨μ, ph, px, py, wd, r1, r2, q⟩
  unfold cmpI at q
  split at q
  · cases r1
    cases r2
    exact h pins s σ H _ _ v u Q I rx ry ⟨_, _, rfl, rfl, q.val wd (.bl _)⟩
  · exact q.elim
theorem or_lt : OpR X (compareOp .Lt) (rP (bs X tbs) opLt) := or_cmpI op_lt
theorem or_le : OpR X (compareOp .LtE) (rP (bs X tbs) opLe) := or_cmpI op_le
theorem or_gt : OpR X (compareOp .Gt) (rP (bs X tbs) opGt) := or_cmpI op_gt
theorem or_ge : OpR X (compareOp .GtE) (rP (bs X tbs) opGe) := or_cmpI op_ge
theorem eqB_ok (hu : X.A.units + 64 < cLine) {pins : List (Addr × Obj)} {s : Shared} {σ : L2.St} {H : Hp} {x y : V} {v u : Value} {Q : VK} {μ : List Addr} {ph : PH} {px py : PV} {b : Bool} (I : Inv X pins σ H s) (rx : RelV x v) (ry : RelV y u) (wd : Wd X.K tbs μ ph H) (r1 : Rl X.K H μ px x) (r2 : Rl X.K H μ py y)
    (e : eqB ph px py = some b) (q : Q (.bl b) H) : wpAny (model X.prog X.w) X.A (compareOp .Eq v u) (EP X pins σ Q) X.xe s := by
  unfold eqB at e
  split at e
  · cases e
    cases r1
    cases r2
    refine op_eq pins s σ H _ _ v u Q I rx ry ⟨rfl, ?_⟩
    simpa using q
  · cases e
    cases r1
    cases r2
    refine op_eq pins s σ H _ _ v u Q I rx ry ⟨rfl, ?_⟩
    simpa using q
  · cases e
    cases r1
    cases r2
    refine op_eq pins s σ H _ _ v u Q I rx ry ⟨rfl, ?_⟩
    simpa using q
  · split at e
    · rename_i d d2 e1 e2
      split at e
      · rename_i hz
        cases e
        obtain ⟨s1, s2⟩ := Bool.and_eq_true_iff.mp hz
        obtain ⟨as, q1, _⟩ := Rl.reads I wd 50 px d x v e1 r1 rx
        obtain ⟨bs', q2, _⟩ := Rl.reads I wd 50 py d2 y u e2 r2 ry
        exact SeqAt.compareEq_shaped q1 q2 s1 s2 hu ⟨.bl _, H, I, rfl, q⟩
      · cases e
    · cases e
theorem neB_ok (hu : X.A.units + 64 < cLine) {pins : List (Addr × Obj)} {s : Shared} {σ : L2.St} {H : Hp} {x y : V} {v u : Value} {Q : VK} {μ : List Addr} {ph : PH} {px py : PV} {b : Bool} (I : Inv X pins σ H s) (rx : RelV x v) (ry : RelV y u) (wd : Wd X.K tbs μ ph H) (r1 : Rl X.K H μ px x) (r2 : Rl X.K H μ py y)
    (e : eqB ph px py = some b) (q : Q (.bl (!b)) H) : wpAny (model X.prog X.w) X.A (compareOp .NotEq v u) (EP X pins σ Q) X.xe s := by
  unfold eqB at e
  split at e
  · cases e
    cases r1
    cases r2
    refine op_ne pins s σ H _ _ v u Q I rx ry ⟨rfl, ?_⟩
    simpa using q
  · cases e
    cases r1
    cases r2
    refine op_ne pins s σ H _ _ v u Q I rx ry ⟨rfl, ?_⟩
    simpa using q
  · cases e
    cases r1
    cases r2
    refine op_ne pins s σ H _ _ v u Q I rx ry ⟨rfl, ?_⟩
    simpa using q
  · split at e
    · rename_i d d2 e1 e2
      split at e
      · rename_i hz
        cases e
        obtain ⟨s1, s2⟩ := Bool.and_eq_true_iff.mp hz
        obtain ⟨as, q1, _⟩ := Rl.reads I wd 50 px d x v e1 r1 rx
        obtain ⟨bs', q2, _⟩ := Rl.reads I wd 50 py d2 y u e2 r2 ry
        exact SeqAt.compareNe_shaped q1 q2 s1 s2 hu ⟨.bl _, H, I, rfl, q⟩
      · cases e
    · cases e
theorem or_eq (hu : X.A.units + 64 < cLine) : OpR X (compareOp .Eq) (rP (bs X tbs) opEq) := by
  intro pins s σ H x y v u Q I rx ry ⟨μ, ph, px, py, wd, r1, r2, q⟩
  unfold opEq at q
  cases e : eqB ph px py with
  | none =>
    rw [e] at q
    exact q.elim
  | some b =>
    rw [e] at q
    exact eqB_ok hu I rx ry wd r1 r2 e (q.val wd (.bl b))
/-- a text beside a value: from S17 -/
theorem dict_ne_str_no (l : Addr) (es : Array DictEntry) (n : Nat) (dd : Option Addr) (sl : Array (Option Value)) (z : Str) (u : Tok) :
    Meets (Builtin.«dict.__ne__» ⟨[.ref l, .str z u], []⟩) (fun _ R s => s.heap.get? l = some { cls := .type "dict", dict := dd, data := .dict es n, slots := sl } ∧ R (.ok (.ret .notImplemented)) s) :=
  .of_wp fun prog w A R s q => by
    obtain ⟨hp, gens, dr, toks, os⟩ := s
    obtain ⟨look, q⟩ := q
    have other : isSubtype (.type "str") (.type "dict") = pure false := by rw [isSubtype_type]; kernel_rfl
    wp_walk using AutoSeq1.wpAny_loadPart' look, wpAny_load look
    exact ⟨_, rfl, q⟩
theorem str_ne_dict_no (z : Str) (u : Tok) (l : Addr) (c : Value) (es : Array DictEntry) (n : Nat) (dd : Option Addr) (sl : Array (Option Value)) :
    Meets (Builtin.«str.__ne__» ⟨[.str z u, .ref l], []⟩) (fun _ R s => s.heap.get? l = some { cls := c, dict := dd, data := .dict es n, slots := sl } ∧ R (.ok (.ret .notImplemented)) s) :=
  .of_wp fun prog w A R s q => by
    obtain ⟨hp, gens, dr, toks, os⟩ := s
    obtain ⟨look, q⟩ := q
    wp_walk using AutoSeq1.wpAny_loadPart' look, wpAny_load look
    exact ⟨_, rfl, q⟩
theorem sub_str_dict2 : isSubtype (.type "str") (.type "dict") = pure false := by rw [isSubtype_type]; kernel_rfl
theorem ne_dict_str {A : Around} {s : Shared} {l : Addr} {o : Obj} {es : Array DictEntry} {n : Nat} (z : Str) (u : Tok) (look : s.heap.get? l = some o) (hc : o.cls = .type "dict") (hd : o.data = .dict es n) (hu : A.units < cLine) : RcNeAt A s (.ref l) (.str z u) true := fun prog w E Q q => by
  obtain ⟨cls, dd, data, sl⟩ := o
  have hc' : cls = .type "dict" := hc
  have hd' : data = .dict es n := hd
  rw [hc', hd'] at look
  exact rc_ne_decline_or (k := false) ⟨_, look, rfl⟩ (typeIs_str s z u) (by decide) sub_str_dict2 F.slot_dict_ne F.slot_str_ne_refl
    (fun _ r => call_meets F.slot_dict_ne ⟨_, look, rfl⟩ F.entry_dict_ne (F.args_dict_ne_2 _ _) (dict_ne_str_no l es n dd sl z u) ⟨look, r⟩)
    (fun _ r => call_meets F.slot_str_ne_refl (typeIs_str s z u) F.entry_str_ne (F.args_str_ne_2 _ _) (str_ne_dict_no z u l (.type "dict") es n dd sl) ⟨look, r⟩)
    (fun _ r => wpAny_of_eq (rfl : isSame (.ref l) (.str z u) = pure false) r) (.inr hu) q
theorem ne_any_str {A : Around} {s : Shared} {u : Value} {d : PyData} {as : List Addr} (hu : A.units < cLine) (rd : Reads s.heap u d as) (z : Str) (t : Tok) : RcNeAt A s u (.str z t) (!Rw.eqS d z) := by
  cases rd with
  | none => exact RcNeAt.none_str z t
  | bool b => exact RcNeAt.bool_str b z t
  | int i k => exact RcNeAt.int_str i k z t
  | str x k =>
    have e : (z == x) = (x == z) := by
      by_cases h : x = z
      · subst h
        rfl
      · rw [beq_eq_false_iff_ne.mpr h, beq_eq_false_iff_ne.mpr fun y => h y.symm]
    show RcNeAt A s (.str x k) (.str z t) (!(z == x))
    rw [e]
    exact RcNeAt.str_str x k z t
  | list h1 h2 h3 h4 => exact RcNeAt.list_str z t ⟨_, h1, h2, _, h3⟩ hu
  | tuple h1 h2 h3 h4 => exact RcNeAt.tuple_str z t ⟨_, h1, h2, _, h3⟩ hu
  | dict h1 h2 h3 h4 h5 => exact ne_dict_str z t h1 h2 h3 hu
theorem neB_ok2 (hu : X.A.units + 64 < cLine) {pins : List (Addr × Obj)} {s : Shared} {σ : L2.St} {H : Hp} {x y : V} {v u : Value} {Q : VK} {μ : List Addr} {ph : PH} {px py : PV} {b : Bool} (I : Inv X pins σ H s) (rx : RelV x v) (ry : RelV y u) (wd : Wd X.K tbs μ ph H) (r1 : Rl X.K H μ px x) (r2 : Rl X.K H μ py y)
    (e : neB ph px py = some b) (q : Q (.bl b) H) : wpAny (model X.prog X.w) X.A (compareOp .NotEq v u) (EP X pins σ Q) X.xe s := by
  have other : ∀ {b : Bool}, ((eqB ph px py).map fun b => !b) = some b → Q (.bl b) H → wpAny (model X.prog X.w) X.A (compareOp .NotEq v u) (EP X pins σ Q) X.xe s := fun {b} e q => by
    cases e2 : eqB ph px py with
    | none =>
      rw [e2] at e
      cases e
    | some b2 =>
      rw [e2] at e
      cases e
      exact neB_ok hu I rx ry wd r1 r2 e2 q
  unfold neB at e
  split at e
  · rename_i b d e1
    cases e
    cases r2
    obtain ⟨t, rfl⟩ := ry
    obtain ⟨as, rd, _⟩ := Rl.reads I wd 50 px d x v e1 r1 rx
    exact ne_any_str (by omega) rd b t X.prog X.w _ _ ⟨.bl _, H, I, rfl, q⟩
  · exact other e q
theorem or_ne (hu : X.A.units + 64 < cLine) : OpR X (compareOp .NotEq) (rP (bs X tbs) opNe) := by
  intro pins s σ H x y v u Q I rx ry ⟨μ, ph, px, py, wd, r1, r2, q⟩
  unfold opNe at q
  cases e : neB ph px py with
  | none =>
    rw [e] at q
    exact q.elim
  | some b =>
    rw [e] at q
    exact neB_ok2 hu I rx ry wd r1 r2 e (q.val wd (.bl b))
end
end Dn
namespace Dn
open PySem PySem.Spec PyProof.Rows L2 PySem.SeqAt

/-! ### equal values -/
mutual
def PV.beq : PV → PV → Bool
  | .non, .non => true
  | .bl a, .bl b => a == b
  | .int a, .int b => a == b
  | .str a, .str b => a == b
  | .ref a, .ref b => a == b
  | .tup a, .tup b => PV.beqs a b
  | .kt a, .kt b => PV.beqs a b
  | .fz a, .fz b => PV.beqs a b
  | _, _ => false
def PV.beqs : List PV → List PV → Bool
  | [], [] => true
  | x :: r, y :: s => PV.beq x y && PV.beqs r s
  | _, _ => false
end
mutual
theorem PV.beq_eq : ∀ {a b : PV}, PV.beq a b = true → a = b
  | .non, b, h => by cases b <;> simp [PV.beq] at h; rfl
  | .bl a, b, h => by cases b <;> simp [PV.beq] at h; rw [h]
  | .int a, b, h => by cases b <;> simp [PV.beq] at h; rw [h]
  | .str a, b, h => by cases b <;> simp [PV.beq] at h; rw [h]
  | .ref a, b, h => by cases b <;> simp [PV.beq] at h; rw [h]
  | .tup a, b, h => by
    cases b <;> simp [PV.beq] at h
    rw [PV.beqs_eq h]
  | .kt a, b, h => by
    cases b <;> simp [PV.beq] at h
    rw [PV.beqs_eq h]
  | .fz a, b, h => by
    cases b <;> simp [PV.beq] at h
    rw [PV.beqs_eq h]
theorem PV.beqs_eq : ∀ {a b : List PV}, PV.beqs a b = true → a = b
  | [], b, h => by cases b <;> simp [PV.beqs] at h; rfl
  | x :: r, b, h => by
    cases b with
    | nil => simp [PV.beqs] at h
    | cons y s =>
      simp [PV.beqs] at h
      rw [PV.beq_eq h.1, PV.beqs_eq h.2]
end
mutual
theorem PV.beq_refl : ∀ a : PV, PV.beq a a = true
  | .non => by simp [PV.beq]
  | .bl a => by simp [PV.beq]
  | .int a => by simp [PV.beq]
  | .str a => by simp [PV.beq]
  | .ref a => by simp [PV.beq]
  | .tup a => by simp [PV.beq, PV.beqs_refl a]
  | .kt a => by simp [PV.beq, PV.beqs_refl a]
  | .fz a => by simp [PV.beq, PV.beqs_refl a]
theorem PV.beqs_refl : ∀ a : List PV, PV.beqs a a = true
  | [] => by simp [PV.beqs]
  | x :: r => by simp [PV.beqs, PV.beq_refl x, PV.beqs_refl r]
end
instance : DecidableEq PV := fun a b => if h : PV.beq a b = true then .isTrue (PV.beq_eq h) else .isFalse fun e => h (by rw [e]; exact PV.beq_refl b)

/-! ### what is left of no use is forgotten -/
mutual
/-- no object that may change is within -/
def PV.still : PV → Bool
  | .ref _ => false
  | .tup xs => PV.stills xs
  | .kt xs => PV.stills xs
  | .fz xs => PV.stills xs
  | _ => true
def PV.stills : List PV → Bool
  | [] => true
  | x :: r => PV.still x && PV.stills r
end
mutual
theorem Rl.still {K : PySem.W.Frag} {H : Hp} {μ ν : List Addr} : ∀ {x : PV} {v : V}, Rl K H μ x v → x.still = true → Rl K H ν x v
  | _, _, .non, _ => .non
  | _, _, .bl b, _ => .bl b
  | _, _, .int b, _ => .int b
  | _, _, .str b, _ => .str b
  | _, _, .tup h r, e => .tup h (Rls.still r (by simpa [PV.still] using e))
  | _, _, .kt h r, e => .kt h (Rls.still r (by simpa [PV.still] using e))
  | _, _, .fz h r, e => .fz h (Rls.still r (by simpa [PV.still] using e))
  | _, _, .ref h, e => by simp [PV.still] at e
theorem Rls.still {K : PySem.W.Frag} {H : Hp} {μ ν : List Addr} : ∀ {x : List PV} {v : List V}, Rls K H μ x v → PV.stills x = true → Rls K H ν x v
  | _, _, .nil, _ => .nil
  | _, _, .cons a b, e => by
    simp [PV.stills] at e
    exact .cons (Rl.still a e.1) (Rls.still b e.2)
end
instance : DecidableEq MO := fun a b => match a, b with
  | .lst x, .lst y => if h : x = y then .isTrue (by rw [h]) else .isFalse fun e => h (by injection e)
  | .dK x, .dK y => if h : x = y then .isTrue (by rw [h]) else .isFalse fun e => h (by injection e)
  | .dT x, .dT y => if h : x = y then .isTrue (by rw [h]) else .isFalse fun e => h (by injection e)
  | .lst _, .dK _ => .isFalse nofun
  | .lst _, .dT _ => .isFalse nofun
  | .dK _, .lst _ => .isFalse nofun
  | .dK _, .dT _ => .isFalse nofun
  | .dT _, .lst _ => .isFalse nofun
  | .dT _, .dK _ => .isFalse nofun
section
variable {K : PySem.W.Frag} {tbs : List Addr} {H H' : Hp} {μ μ' : List Addr}
mutual
/-- what lay at the old numbers lies there -/
theorem Rl.back (e : ∀ (n : Nat) a, μ[n]? = some a → μ'[n]? = some a) : ∀ {x : PV} {v v' : V}, Rl K H μ x v → Rl K H' μ' x v' → Rl K H' μ x v'
  | _, _, _, .non, .non => .non
  | _, _, _, .bl b, .bl _ => .bl b
  | _, _, _, .int b, .int _ => .int b
  | _, _, _, .str b, .str _ => .str b
  | _, _, _, .tup _ r, .tup h r' => .tup h (Rls.back e r r')
  | _, _, _, .kt _ r, .kt h r' => .kt h (Rls.back e r r')
  | _, _, _, .fz _ r, .fz h r' => .fz h (Rls.back e r r')
  | _, _, _, .ref h, .ref h' => .ref (by
      have z := e _ _ h
      rw [z] at h'
      cases h'
      exact h)
theorem Rls.back (e : ∀ (n : Nat) a, μ[n]? = some a → μ'[n]? = some a) : ∀ {x : List PV} {v v' : List V}, Rls K H μ x v → Rls K H' μ' x v' → Rls K H' μ x v'
  | _, _, _, .nil, .nil => .nil
  | _, _, _, .cons a b, .cons a' b' => .cons (Rl.back e a a') (Rls.back e b b')
end
theorem KRl.back {κ : Type} (e : ∀ (n : Nat) a, μ[n]? = some a → μ'[n]? = some a) : ∀ {x : List (κ × PV)} {v v' : List (κ × V)}, KRl K H μ x v → KRl K H' μ' x v' → KRl K H' μ x v'
  | _, _, _, .nil, .nil => .nil
  | _, _, _, .cons a b, .cons a' b' => .cons (a.back e a') (KRl.back e b b')
theorem OR.back (e : ∀ (n : Nat) a, μ[n]? = some a → μ'[n]? = some a) {a : Addr} {o : MO} (h : OR K H μ a o) (h' : OR K H' μ' a o) : OR K H' μ a o := by
  cases o with
  | lst xs =>
    obtain ⟨_, _, r⟩ := h
    obtain ⟨vs, h1, r'⟩ := h'
    exact ⟨vs, h1, r.back e r'⟩
  | dK xs =>
    obtain ⟨_, _, r⟩ := h
    obtain ⟨vs, h1, r'⟩ := h'
    exact ⟨vs, h1, r.back e r'⟩
  | dT xs =>
    obtain ⟨_, _, r⟩ := h
    obtain ⟨vs, h1, r'⟩ := h'
    exact ⟨vs, h1, r.back e r'⟩
/-- behind it only what was there -/
theorem Wd.forget {ph g : PH} (w : Wd K tbs μ ph H) (e : Ex μ H μ' H') (w' : Wd K tbs μ' (ph ++ g) H') : Ex μ H μ H' ∧ Wd K tbs μ ph H' :=
  ⟨⟨fun _ _ h => h, e.tup, e.frz⟩, w.len, w.nd, fun n a o h1 h2 => OR.back e.pre (w.ob n a o h1 h2) (w'.ob n a o (e.pre n a h1) (by rw [List.getElem?_append_left (List.getElem?_eq_some_iff.mp h2).1]; exact h2)), w'.tb⟩
end
/-- the value alone, if no object that may change is within and none has changed -/
def gcO (h : PH) (o : Out PV) : Out PV := match o with
  | .ok v h' => if v.still = true ∧ h'.take h.length = h then .ok v h else .ok v h'
  | o => o
def eGc (f : DE) : DE := fun s h => gcO h (f s h)
theorem OutOk.gc {B : Bs} {W : WX} {μ : List Addr} {ph : PH} {H : Hp} {σ : L2.St} {o : Out PV} {Q : VK} (w : Wd B.K B.tbs μ ph H) (q : OutOk B W (fun H' μ' => Rl B.K H' μ') μ H σ (gcO ph o) Q) : OutOk B W (fun H' μ' => Rl B.K H' μ') μ H σ o Q := by
  cases o with
  | ok v h' =>
    unfold gcO at q
    dsimp only at q
    by_cases e : v.still = true ∧ h'.take ph.length = ph
    · rw [if_pos e] at q
      intro μ' H' x e1 w1 r1
      have e2 : h' = ph ++ h'.drop ph.length := by
        have z := (List.take_append_drop ph.length h').symm
        rw [e.2] at z
        exact z
      rw [e2] at w1
      obtain ⟨a, b⟩ := w.forget e1 w1
      exact q μ H' x a b (r1.still e.1)
    · rw [if_neg e] at q
      exact q
  | err e h => exact q
  | no => exact q
theorem j_gc {X : Cx} {tbs : List Addr} {W : WX} {e : Expr} {f : DE} (h : JE (bs X tbs) W X e f) : JE (bs X tbs) W X e (eGc f) := PE_imp h fun σ H Q ⟨μ, ps, ph, sr, wd, ok⟩ => ⟨μ, ps, ph, sr, wd, OutOk.gc wd ok⟩

/-! ### targets: names and tuples of names -/
abbrev GP := PV → Option (List (Nat × PV))
def setP : List (Nat × PV) → Sl → Sl
  | [], s => s
  | (i, x) :: r, s => setP r (s.set i (some x))
def setV : List (Nat × V) → L2.St → L2.St
  | [], s => s
  | (i, x) :: r, s => setV r (s.set i (some x))
inductive RlA (K : PySem.W.Frag) (H : Hp) (μ : List Addr) : List (Nat × PV) → List (Nat × V) → Prop
  | nil : RlA K H μ [] []
  | cons {i : Nat} {x : PV} {v : V} {r : List (Nat × PV)} {s : List (Nat × V)} : Rl K H μ x v → RlA K H μ r s → RlA K H μ ((i, x) :: r) ((i, v) :: s)
theorem RlA.app {K : PySem.W.Frag} {H : Hp} {μ : List Addr} : ∀ {a b : List (Nat × PV)} {c d : List (Nat × V)}, RlA K H μ a c → RlA K H μ b d → RlA K H μ (a ++ b) (c ++ d)
  | _, _, _, _, .nil, q => q
  | _, _, _, _, .cons r s, q => .cons r (RlA.app s q)
theorem Sr.sets {K : PySem.W.Frag} {H : Hp} {μ : List Addr} : ∀ {a : List (Nat × PV)} {c : List (Nat × V)} {ps : Sl} {σ : L2.St}, RlA K H μ a c → Sr K H μ ps σ → Sr K H μ (setP a ps) (setV c σ)
  | _, _, _, _, .nil, h => h
  | _, _, _, _, .cons r s, h => by
    unfold setP setV
    exact Sr.sets s (h.set _ r)
theorem setV_app : ∀ (a b : List (Nat × V)) (σ : L2.St), setV (a ++ b) σ = setV b (setV a σ)
  | [], _, _ => rfl
  | (i, x) :: r, b, σ => setV_app r b (σ.set i (some x))
def gD (K : PySem.W.Frag) (g : GP) : TG := fun v σ H Q => ∃ μ px, Rl K H μ px v ∧ ∃ as, g px = some as ∧ ∀ bs, RlA K H μ as bs → Q (setV bs σ) H
def gDs (K : PySem.W.Frag) (g : List PV → Option (List (Nat × PV))) : TGs := fun vs σ H Q => ∃ μ ps, Rls K H μ ps vs ∧ ∃ as, g ps = some as ∧ ∀ bs, RlA K H μ as bs → Q (setV bs σ) H
def JG (X : Cx) (tg : Expr) (g : GP) : Prop := PG X tg (gD X.K g)
def JGs (X : Cx) (tg : List Expr) (g : List PV → Option (List (Nat × PV))) : Prop := PGs X tg (gDs X.K g)
theorem PG_imp {X : Cx} {tg : Expr} {t t' : TG} (h : PG X tg t) (k : ∀ v σ H Q, t' v σ H Q → t v σ H Q) : PG X tg t' := ⟨fun pins s σ H v u Q I r q => h.run pins s σ H v u Q I r (k v σ H Q q)⟩
theorem PGs_imp {X : Cx} {tg : List Expr} {t t' : TGs} (h : PGs X tg t) (k : ∀ v σ H Q, t' v σ H Q → t v σ H Q) : PGs X tg t' := ⟨fun pins s σ H v u Q I r q => h.run pins s σ H v u Q I r (k v σ H Q q)⟩
def gNm (i : Nat) : GP := fun v => some [(i, v)]
def gsNil : List PV → Option (List (Nat × PV)) := fun vs => match vs with
  | [] => some []
  | _ => none
def gsCons (g : GP) (r : List PV → Option (List (Nat × PV))) : List PV → Option (List (Nat × PV)) := fun vs => match vs with
  | v :: vs => match g v, r vs with
    | some a, some b => some (a ++ b)
    | _, _ => none
  | [] => none
def gTp (n : Nat) (g : List PV → Option (List (Nat × PV))) : GP := fun v => match v with
  | .tup xs => if xs.length = n then g xs else none
  | _ => none
section
variable {X : Cx} {pos : Pos}
theorem g_nm (i : Nat) {x : Str} (hN : X.N.Nodup) (hi : X.N[i]? = some x := by rfl) (hx : Loc X.env.scope x := by first | exact Or.inl rfl | exact Or.inr rfl) (hf : X.fn x = true ∨ X.env.scope.names.lookup x = some .local := by first | exact .inl rfl | exact .inr rfl | assumption) : JG X (.Name x pos) (gNm i) :=
  PG_imp (pg_name hN hi hx hf) fun v σ H Q ⟨μ, px, r, as, e, q⟩ => by
    cases e
    exact q _ (.cons r .nil)
theorem gs_nil : JGs X [] gsNil := PGs_imp pgs_nil fun v σ H Q ⟨μ, ps, r, as, e, q⟩ => by
  cases r with
  | nil =>
    cases e
    exact ⟨rfl, q _ .nil⟩
  | cons _ _ => cases e
theorem gs_cons {e : Expr} {es : List Expr} {g : GP} {r : List PV → Option (List (Nat × PV))} (h1 : JG X e g) (h2 : JGs X es r) (hs : (assignEach (e :: es) X.env).map (·.2) = assign e X.env :: (assignEach es X.env).map (·.2) := by rfl) : JGs X (e :: es) (gsCons g r) :=
  PGs_imp (pgs_cons h1 h2 hs) fun v σ H Q ⟨μ, ps, rr, as, e, q⟩ => by
    cases rr with
    | nil => cases e
    | @cons x v1 xs vs ra rb =>
      unfold gsCons at e
      simp only at e
      split at e
      · rename_i a b e1 e2
        cases e
        exact ⟨v1, vs, rfl, μ, x, ra, a, e1, fun bs1 r1 => ⟨μ, xs, rb, b, e2, fun bs2 r2 => by
          rw [← setV_app]
          exact q _ (r1.app r2)⟩⟩
      · cases e
theorem g_tp {es : List Expr} {k : Nat} {g : List PV → Option (List (Nat × PV))} {n : Nat} (hc : X.calm = true) (h : JGs X es g)
    (hn : (assignEach es X.env).length = n := by rfl) (hst : (assignEach es X.env).findIdx? (·.1) = none := by rfl) : JG X (.Tuple es k pos) (gTp n g) :=
  PG_imp (pg_tup hc h hn hst) fun v σ H Q ⟨μ, px, r, as, e, q⟩ => by
    unfold gTp at e
    split at e
    · split at e
      · rename_i hl
        cases r with
        | @tup a vs xs ht ra =>
        exact ⟨a, vs, rfl, SqT.of ht, by rw [← ra.len]; exact hl, μ, _, ra, as, e, q⟩
      · cases e
    · cases e
end

/-! ### statements -/
def sNx : DS := fun s h => .nx s h
def sBk : DS := fun s h => .bk s h
def sCt : DS := fun s h => .ct s h
def sSeq (a b : DS) : DS := fun s h => match a s h with
  | .nx s h => b s h
  | o => o
def Out.then {α : Type} (o : Out α) (s : Sl) (k : α → PH → OutS) : OutS := match o with
  | .ok x h => k x h
  | .err e h => .err e s h
  | .no => .no
@[simp] theorem Out.then_ok {α : Type} (a : α) (h : PH) (s : Sl) (k : α → PH → OutS) : (Out.ok a h).then s k = k a h := rfl
@[simp] theorem Out.then_err {α : Type} (e : PErr) (h : PH) (s : Sl) (k : α → PH → OutS) : (Out.err e h : Out α).then s k = .err e s h := rfl
@[simp] theorem Out.then_no {α : Type} (s : Sl) (k : α → PH → OutS) : (Out.no : Out α).then s k = .no := rfl
def sDrop (f : DE) : DS := fun s h => (f s h).then s fun _ h => .nx s h
def sRet (f : DE) : DS := fun s h => (f s h).then s fun v h => .rt v h
def sRetN : DS := fun _ h => .rt .non h
def sIf (c : DT) (a b : DS) : DS := fun s h => (c s h).then s fun k h => if k = true then a s h else b s h
def sAsg (g : GP) (f : DE) : DS := fun s h => (f s h).then s fun v h => match g v with
  | some as => .nx (setP as s) h
  | none => .no
def sPar (i j : Nat) (f : DA) : DS := fun s h => (f s h).then s fun vs h => match vs with
  | [v, w] => .nx ((s.set i (some v)).set j (some w)) h
  | _ => .no
/-- one statement behind the other -/
theorem OutOk.then_ {B : Bs} {W : WX} {α β : Type} {rel : Hp → List Addr → α → β → Prop} {μ : List Addr} {H : Hp} {σ : L2.St} {ps : Sl} {o : Out α} {k : α → PH → OutS} {D : Ends} {Q : β → Hp → Prop} (sr : Sr B.K H μ ps σ)
    (h : OutSOk B W μ H (o.then ps k) D) (q : ∀ x ph μ' H' v, Ex μ H μ' H' → Wd B.K B.tbs μ' ph H' → rel H' μ' x v → OutSOk B W μ' H' (k x ph) D → Q v H') : OutOk B W rel μ H σ o Q := by
  cases o with
  | ok x ph => exact fun μ' H' v e w r => q x ph μ' H' v e w r (OutSOk.ext h e)
  | err x ph => exact fun μ' H' cls d e w r => h μ' H' σ cls d e w (sr.mono e) r
  | no => exact h
section
variable {tbs : List Addr} {W : WX} {X : Cx} {pos : Pos}
theorem js_pass : JS (bs X tbs) W X (.Pass pos) sNx := PS_imp ps_pass fun D σ H ⟨μ, ps, ph, sr, wd, ok⟩ => ok μ H σ Ex.refl wd sr
theorem js_break : JS (bs X tbs) W X (.Break pos) sBk := PS_imp ps_break fun D σ H ⟨μ, ps, ph, sr, wd, ok⟩ => ok μ H σ Ex.refl wd sr
theorem js_continue : JS (bs X tbs) W X (.Continue pos) sCt := PS_imp ps_continue fun D σ H ⟨μ, ps, ph, sr, wd, ok⟩ => ok μ H σ Ex.refl wd sr
theorem jss_nil : JSs (bs X tbs) W X [] sNx := PSs_imp pss_nil fun D σ H ⟨μ, ps, ph, sr, wd, ok⟩ => ok μ H σ Ex.refl wd sr
theorem OutSOk.seq {B : Bs} {μ : List Addr} {H : Hp} {f g : DS} {D : Ends} {ps : Sl} {ph : PH} (h : OutSOk B W μ H (sSeq f g ps ph) D) : OutSOk B W μ H (f ps ph) { D with nx := fun σ' H' => tDS B W g D σ' H' } := by
  unfold sSeq at h
  cases e : f ps ph with
  | nx s h2 =>
    rw [e] at h
    exact fun μ' H' σ' x w r => ⟨μ', s, h2, r, w, OutSOk.ext h x⟩
  | rt v h2 => rw [e] at h; exact h
  | bk s h2 => rw [e] at h; exact h
  | ct s h2 => rw [e] at h; exact h
  | err x s h2 => rw [e] at h; exact h
  | no => rw [e] at h; exact h
theorem jss_cons {st : Stmt} {rest : List Stmt} {f g : DS} (h1 : JS (bs X tbs) W X st f) (h2 : JSs (bs X tbs) W X rest g) : JSs (bs X tbs) W X (st :: rest) (sSeq f g) :=
  PSs_imp (pss_cons h1 h2) fun D σ H ⟨μ, ps, ph, sr, wd, ok⟩ => ⟨μ, ps, ph, sr, wd, OutSOk.seq ok⟩
theorem jss_one {st : Stmt} {f : DS} (h1 : JS (bs X tbs) W X st f) : JSs (bs X tbs) W X [st] f := pss_one h1
theorem js_expr {e : Expr} {f : DE} (h : JE (bs X tbs) W X e f) (hs : swapsWith e none pos.line X.env = pure false := by rfl) : JS (bs X tbs) W X (.Expr e pos) (sDrop f) :=
  PS_imp (ps_expr h hs) fun D σ H ⟨μ, ps, ph, sr, wd, ok⟩ => ⟨μ, ps, ph, sr, wd, OutOk.then_ sr ok fun x ph1 μ1 H1 v e1 w1 r1 ok1 => ok1 μ1 H1 σ Ex.refl w1 (sr.mono e1)⟩
theorem js_ret {e : Expr} {f : DE} (h : JE (bs X tbs) W X e f) : JS (bs X tbs) W X (.Return (some e) pos) (sRet f) :=
  PS_imp (ps_ret h) fun D σ H ⟨μ, ps, ph, sr, wd, ok⟩ => ⟨μ, ps, ph, sr, wd, OutOk.then_ sr ok fun x ph1 μ1 H1 v e1 w1 r1 ok1 => ok1 μ1 H1 v Ex.refl w1 r1⟩
theorem js_retN : JS (bs X tbs) W X (.Return none pos) sRetN := PS_imp ps_retN fun D σ H ⟨μ, ps, ph, sr, wd, ok⟩ => ok μ H _ Ex.refl wd .non
theorem js_if {c : Expr} {a b : List Stmt} {tc : DT} {f g : DS} (hc : JT (bs X tbs) W X c tc) (ha : JSs (bs X tbs) W X a f) (hb : JSs (bs X tbs) W X b g) : JS (bs X tbs) W X (.If c a b pos) (sIf tc f g) :=
  PS_imp (ps_if hc ha hb) fun D σ H ⟨μ, ps, ph, sr, wd, ok⟩ => ⟨μ, ps, ph, sr, wd, OutOk.then_ sr ok fun x ph1 μ1 H1 v e1 w1 r1 ok1 => by
    subst r1
    cases x with
    | true => exact ⟨μ1, ps, ph1, sr.mono e1, w1, ok1⟩
    | false => exact ⟨μ1, ps, ph1, sr.mono e1, w1, ok1⟩⟩
theorem asg_ok {g : GP} {f : DE} {D : Ends} {σ : L2.St} {H : Hp} (h : tDS (bs X tbs) W (sAsg g f) D σ H) : tD (bs X tbs) W f σ H fun x H1 => gD X.K g x σ H1 D.nx := by
  obtain ⟨μ, ps, ph, sr, wd, ok⟩ := h
  refine ⟨μ, ps, ph, sr, wd, OutOk.then_ sr ok fun x ph1 μ1 H1 v e1 w1 r1 ok1 => ?_⟩
  cases e : g x with
  | none =>
    rw [e] at ok1
    exact ok1.elim
  | some as =>
    rw [e] at ok1
    exact ⟨μ1, x, r1, as, e, fun bs' r2 => ok1 μ1 H1 _ Ex.refl w1 ((sr.mono e1).sets r2)⟩
theorem js_asg {tg e : Expr} {f : DE} {g : GP} (he : JE (bs X tbs) W X e f) (hg : JG X tg g) (hs : swapsWithSole [tg] e pos.line X.env = pure false := by rfl) (hw : swappedStores [tg] e X.env = pure none := by rfl)
    (h1 : (assignEach [tg] X.env).map (·.2) = [assign tg X.env] := by rfl) : JS (bs X tbs) W X (.Assign [tg] e pos) (sAsg g f) := PS_imp (ps_asg he hg hs hw h1) fun D σ H h => asg_ok h
theorem js_set {i : Nat} {x : Str} {e : Expr} {f : DE} {pos' : Pos} (hN : X.N.Nodup) (he : JE (bs X tbs) W X e f) (hi : X.N[i]? = some x := by rfl) (hx : Loc X.env.scope x := by first | exact Or.inl rfl | exact Or.inr rfl)
    (hs : swapsWith e (some (.Name x pos')) pos.line X.env = pure false := by rfl) (hf : X.fn x = true ∨ X.env.scope.names.lookup x = some .local := by first | exact .inl rfl | exact .inr rfl | assumption) : JS (bs X tbs) W X (.Assign [.Name x pos'] e pos) (sAsg (gNm i) f) :=
  PS_imp (ps_set hN hi hx he hs hf) fun D σ H h => by
    obtain ⟨μ, ps, ph, sr, wd, ok⟩ := h
    exact ⟨μ, ps, ph, sr, wd, OutOk.then_ sr ok fun x ph1 μ1 H1 v e1 w1 r1 ok1 => ok1 μ1 H1 _ Ex.refl w1 ((sr.mono e1).set i r1)⟩
theorem js_par {i j : Nat} {x y : Str} {a b : Expr} {f : DA} {px py pt : Pos} {kt k2 pt2} (hc : X.calm = true) (hN : X.N.Nodup) (ha : JA (bs X tbs) W X [a, b] f) (hi : X.N[i]? = some x := by rfl) (hj : X.N[j]? = some y := by rfl) (hij : i ≠ j := by decide)
    (hx : X.env.scope.names.lookup x = some .local := by rfl) (hy : X.env.scope.names.lookup y = some .local := by rfl)
    (hw : swappedStores [.Tuple [.Name x px, .Name y py] kt pt] (.Tuple [a, b] k2 pt2) X.env = pure (some [x, y]) := by rfl)
    (hs : swapsWithSole [.Tuple [.Name x px, .Name y py] kt pt] (.Tuple [a, b] k2 pt2) pos.line X.env = pure false := by rfl) : JS (bs X tbs) W X (.Assign [.Tuple [.Name x px, .Name y py] kt pt] (.Tuple [a, b] k2 pt2) pos) (sPar i j f) :=
  PS_imp (ps_par hc hN hi hj hij hx hy ha hw hs) fun D σ H ⟨μ, ps, ph, sr, wd, ok⟩ => ⟨μ, ps, ph, sr, wd, OutOk.then_ sr ok fun xs ph1 μ1 H1 vs e1 w1 r1 ok1 => by
    split at ok1
    · cases r1 with
      | cons ra rr =>
        cases rr with
        | cons rb rr =>
          cases rr
          exact ⟨_, _, rfl, ok1 μ1 H1 _ Ex.refl w1 (((sr.mono e1).set _ ra).set _ rb)⟩
    · exact ok1.elim⟩
end
end Dn
namespace Dn
open PySem PySem.Spec PyProof.Rows L2 PySem.SeqAt

/-! ### defs -/
/-- a def's own function: the arguments, the objects -/
abbrev DF := List PV → PH → Out PV
/-- what a def promises: n arguments -/
def spD (B : Bs) (n : Nat) (m : DF) : Sp := fun vs H Q E => vs.length = n ∧ ∃ μ ps ph, Rls B.K H μ ps vs ∧ Wd B.K B.tbs μ ph H ∧ OutOk B (fun cls d _ H' => E cls d H') (fun H' μ' => Rl B.K H' μ') μ H [] (m ps ph) Q
/-- m is for n arguments -/
def LenF (n : Nat) (m : DF) : Prop := ∀ xs h, xs.length ≠ n → m xs h = .no
/-- a def of the text keeps its function m; the caller's guards are known to be none -/
structure Fd (P : Program) (w : World) (base : Heap) (B : Bs) (k : Nat) (x : Str) (n : Nat) (m : DF) : Prop where
  len : LenF n m
  ex : ∃ (f : Addr) (fd : FuncData) (ps : List Str), B.mg x = some (.ref f) ∧ PySem.W.keepIn B.K (.ref f) = true ∧ ps.length = n ∧ Binds B.K fd ps [] ∧
    ∀ (A : Around) (outer : List Env) (s : Shared) (H : Hp) (args : Args) (us : List Value) (vs : List V) (Q : VK) (E : XK), Room k A → A.guards = some [] → Env0 P w B.K B.mg base A outer s H → BindsTo s fd args (ps.zip us) → Vals vs us → spD B n m vs H Q E →
      codeAny (model P w) A (.call (.ref f) args) (CR (CX P w) outer P w H s Q E) s
theorem Fd.up {P : Program} {w : World} {base : Heap} {B : Bs} {j k : Nat} {x : Str} {n : Nat} {m : DF} (F : Fd P w base B j x n m) (h : j ≤ k) : Fd P w base B k x n m := by
  obtain ⟨f, fd, ps, h1, h2, h3, h4, h5⟩ := F.ex
  exact ⟨F.len, f, fd, ps, h1, h2, h3, h4, fun A outer s H args us vs Q E hr => h5 A outer s H args us vs Q E (hr.mono h)⟩
/-- what a rule asks of the place where the code runs -/
structure Pl (X : Cx) (k : Nat) : Prop where
  room : Room k X.A
  gd : X.A.guards = some []
theorem Pl.mono {X : Cx} {j k : Nat} (p : Pl X k) (h : j ≤ k) : Pl X j := ⟨p.room.mono h, p.gd⟩
def eCallF (m : DF) (a : DA) : DE := fun s h => (a s h).bind fun xs h => m xs h
section
variable {tbs : List Addr} {W : WX} {X : Cx} {p pos : Pos} {k n : Nat} {x : Str} {m : DF}
theorem run_fd {f : Addr} {fd : FuncData} {ps : List Str} {pins : List (Addr × Obj)} {σ : L2.St} {H : Hp} {s : Shared} {Q : VK} {us : List Value} {vs : List V} (pl : Pl X k) (tk : Takes X W) (hb : Binds X.K fd ps []) (hn : ps.length = n)
    (run : ∀ (A : Around) (outer : List Env) (s : Shared) (H : Hp) (args : Args) (us : List Value) (vs : List V) (Q : VK) (E : XK), Room k A → A.guards = some [] → Env0 X.prog X.w X.K X.mg X.base A outer s H → BindsTo s fd args (ps.zip us) → Vals vs us → spD (bs X tbs) n m vs H Q E →
      codeAny (model X.prog X.w) A (.call (.ref f) args) (CR (CX X.prog X.w) outer X.prog X.w H s Q E) s)
    (I : Inv X pins σ H s) (r : Vals vs us) (h : spD (bs X tbs) n m vs H Q fun cls d H' => W cls d σ H') : wpAny (model X.prog X.w) X.A (call (.ref f) us) (EP X pins σ Q) X.xe s := by
  have hl : us.length = ps.length := by rw [hn, ← h.1]; exact r.length.symm
  have hb2 := hb s us I.kIn (by rw [List.append_nil]; exact hl)
  rw [List.append_nil] at hb2
  refine wpAny_call (codeAny_mono (run X.A X.stack s H ⟨us, []⟩ us vs Q _ pl.room pl.gd I.env0 hb2 r h) fun r s' hq => ?_)
  cases r with
  | error e => exact tk e s' (XE.of_call I (fun cls d H' h => h) hq)
  | ok fl =>
    cases fl with
    | ret u => exact I.after hq
    | next => exact False.elim hq
    | brk => exact False.elim hq
    | cont => exact False.elim hq
theorem j_fd {e : Expr} {es : List Expr} {g : DA} (F : Fd X.prog X.w X.base (bs X tbs) k x n m) (pl : Pl X k) (tk : Takes X W) (hg : Gl X x) (ha : JA (bs X tbs) W X (e :: es) g) (hlen : (e :: es).length = n := by rfl)
    (hdb : (x == ("__debug__" : Str)) = false := by decide) (he : starEach (e :: es) X.env = (false, eval e X.env) :: starEach es X.env := by rfl) (hpl : (backTo pos (starEach es X.env)).any (·.1) = false := by rfl) :
    JE (bs X tbs) W X (.Call (.Name x p) (e :: es) [] pos) (eCallF m g) := by
  obtain ⟨f, fd, ps, hm, hk, hn, hb, run⟩ := F.ex
  refine ⟨fun pins s σ H Q I ⟨μ, ps, ph, sr, wd, ok⟩ => ?_⟩
  refine wpAny_Call_Name_kw (ld_glob I hg hm ?_ hdb)
  refine PySem.W.callWith_K (h₀ := X.base) I.ok.mod.kin hk (thn (ha.run pos pins s σ H (fun vs H1 => spD (bs X tbs) n m vs H1 Q fun cls d H' => W cls d σ H') I ⟨μ, ps, ph, sr, wd, ?_⟩) fun us s1 ⟨vs, H1, I1, r, q⟩ => ⟨I1.kIn, run_fd pl tk hb hn run I1 r q⟩) he hpl
  unfold eCallF at ok
  cases eg : g ps ph with
  | no => rw [eg] at ok; exact ok
  | err x h => rw [eg] at ok; exact ok
  | ok xs ph1 =>
    rw [eg] at ok
    simp only [Out.bind_ok] at ok
    by_cases hx : xs.length = n
    · refine fun μ1 H1 vs e1 w1 r1 => ⟨by rw [← r1.len]; exact hx, μ1, xs, ph1, r1, w1, ?_⟩
      have ok2 := OutOk.ext ok e1
      cases em : m xs ph1 with
      | ok v h => rw [em] at ok2; exact ok2
      | err v h => rw [em] at ok2; exact ok2
      | no => rw [em] at ok2; exact ok2
    · rw [F.len xs ph1 hx] at ok
      exact ok.elim
end

/-- the slots at the start of a def -/
def args0 (n : Nat) (xs : List PV) : Sl := xs.map some ++ List.replicate (n - xs.length) none
/-- what a def's body comes to -/
def runB (f : DS) (n : Nat) (xs : List PV) (h : PH) : Out PV := match f (args0 n xs) h with
  | .nx _ h => .ok .non h
  | .rt v h => .ok v h
  | .err e _ h => .err e h
  | _ => .no
/-- who begins at h and is content with o' is content with o -/
def Sums (h : PH) (o o' : Out PV) : Prop := ∀ (B : Bs) (W : WX) (μ : List Addr) (H : Hp) (σ : L2.St) (Q : VK), Wd B.K B.tbs μ h H → OutOk B W (fun H' μ' => Rl B.K H' μ') μ H σ o' Q → OutOk B W (fun H' μ' => Rl B.K H' μ') μ H σ o Q
theorem Sums.refl {h : PH} {o : Out PV} : Sums h o o := fun _ _ _ _ _ _ _ q => q
theorem Sums.no {h : PH} {o : Out PV} : Sums h o .no := fun _ _ _ _ _ _ _ q => q.elim
theorem Sums.gc {h : PH} {o : Out PV} : Sums h o (gcO h o) := fun _ _ _ _ _ _ w q => OutOk.gc w q
theorem Sums.trans {h : PH} {a b c : Out PV} (x : Sums h a b) (y : Sums h b c) : Sums h a c := fun B W μ H σ Q w q => x B W μ H σ Q w (y B W μ H σ Q w q)
/-- a value in which no object is, the objects as they were, some more behind -/
theorem Sums.pure {h g : PH} {v : PV} {o : Out PV} (e : o = .ok v (h ++ g)) (hv : v.still = true) : Sums h o (.ok v h) := by
  subst e
  have z := Sums.gc (h := h) (o := .ok v (h ++ g))
  unfold gcO at z
  dsimp only at z
  rw [if_pos ⟨hv, by simp⟩] at z
  exact z
/-- an error, the objects as they were, some more behind -/
theorem Sums.fails {h g : PH} {e : PErr} {o : Out PV} (eq : o = .err e (h ++ g)) (hv : ∀ f x, e.fld = some (f, x) → x.still = true) : Sums h o (.err e h) := by
  subst eq
  intro B W μ H σ Q w q μ' H' cls d x w' r
  obtain ⟨a, b⟩ := w.forget x w'
  refine q μ H' cls d a b ?_
  obtain ⟨r1, r2⟩ := r
  refine ⟨r1, ?_⟩
  cases he : e.fld with
  | none => rw [he] at r2; exact r2
  | some p =>
    obtain ⟨f, y⟩ := p
    rw [he] at r2
    obtain ⟨da, v, e1, e2, e3⟩ := r2
    exact ⟨da, v, e1, e2, e3.still (hv f y he)⟩
section
variable {P : Program} {w : World} {K : PySem.W.Frag} {mg : Str → Option Value} {base : Heap} {tbs : List Addr}
theorem sr_start {H : Hp} {μ : List Addr} {N : List Str} {xs : List PV} {vs : List V} (r : Rls K H μ xs vs) : Sr K H μ (args0 N.length xs) (L2.start N vs) := by
  have l := r.len
  refine ⟨by unfold args0 L2.start; rw [List.length_append, List.length_append, List.length_map, List.length_map, List.length_replicate, List.length_replicate, l], fun i x h => ?_⟩
  unfold args0 at h
  by_cases lt : i < xs.length
  · rw [List.getElem?_append_left (by simpa using lt), List.getElem?_map] at h
    cases e : xs[i]? with
    | none => rw [e] at h; cases h
    | some y =>
      rw [e] at h
      cases h
      obtain ⟨v, h1, h2⟩ := r.at e
      refine ⟨v, ?_, h2⟩
      unfold L2.start
      rw [List.getElem?_append_left (by rw [List.length_map, ← l]; exact lt), List.getElem?_map, h1]
      rfl
  · rw [List.getElem?_append_right (by simpa using lt), List.getElem?_replicate] at h
    split at h <;> cases h
theorem guards_deeper {A : Around} {env : Env} : (A.deeper env).guards = A.guards := by
  first
    | rfl
    | simp [Around.deeper, pushGuards]
/-- THE RULE for a def -/
theorem fd_of {x : Str} {st : Stmt} {f : Addr} {fd : FuncData} {N ps : List Str} {k : Nat} {m : DF} {g : DS} (F : Fun K x x st f fd) (S : FnScope N ps (defScope st)) (hm : mg x = some (.ref f)) (hb : Binds K fd ps []) (len : LenF ps.length m)
    (sum : ∀ args h, args.length = ps.length → Sums h (runB g N.length args h) (m args h))
    (body : ∀ (cdv : Value) (A : Around) (outer : List Env) (s : Shared) (H : Hp) (E : XK), let X := cxOf (CX P w) P w K mg base N x (defScope st) f cdv A outer s H E; Pl X k → Takes X (fun cls d _ H' => E cls d H') → JSs ⟨K, mg, tbs⟩ (fun cls d _ H' => E cls d H') X (defBody st) g) :
    Fd P w base ⟨K, mg, tbs⟩ (k + 1) x ps.length m := by
  refine ⟨len, f, fd, ps, hm, F.kp, rfl, hb, fun Ao fr s0 Hq gs us vs Q E room gd en bt rv hsp => ?_⟩
  obtain ⟨c1, c2, c3, c4, c5, c6, c7, c8, c9, rfl, look, code⟩ := F.ex
  have kin : K.In s0.heap := en.mod.kin.keeps fun z o e => (en.bs z o e).1
  refine codeAny_call_function room.depth (kin _ _ look) rfl S.co S.gen rfl (PySem.W.codeRec_of kin code) (bt _ _ _ _ ?_)
  refine wpAny_newFunctionEnv_cells S.kind (fun y m => ?_) fun en1 same s1 there => ?_
  · have m1 := (List.of_mem_zip (show (y.1, y.2) ∈ ps.zip us from m)).1
    exact (S.par y.1 m1).elim .inl fun z => .inr ⟨z, PySem.W.cellsFrom_some _ _ _ (.inl z)⟩
  subst same
  refine ⟨(en.mod.nolimit.keeps fun z o e => (en.bs z o e).1).keeps there.toInCall.keep, codeAny_func ?_⟩
  have inv := inv_start (CX := CX P w) (E := E) S room.hd en hsp.1 rv there
  have bd := body c7 Ao fr s0 Hq E ⟨room.deeper _, guards_deeper.trans gd⟩ (takes_of rfl rfl rfl rfl)
  obtain ⟨_, μ, xs, ph, rs, wd, ok⟩ := hsp
  have hx : xs.length = ps.length := by
    rw [rs.len]
    assumption
  have ok2 := sum xs ph hx _ _ _ _ _ _ wd ok
  refine wpAny_mono (bd.run [] s1 (L2.start N vs) Hq { nx := fun _ H2 => Q V.non H2, rt := Q } inv ⟨μ, args0 N.length xs, ph, sr_start rs, wd, ?_⟩) (fun fl s2 h => ?_) fun _ _ h => h
  · unfold runB at ok2
    cases e : g (args0 N.length xs) ph with
    | nx s h =>
      rw [e] at ok2
      exact fun μ' H' σ' x1 w1 _ => ok2 μ' H' _ x1 w1 .non
    | rt v h =>
      rw [e] at ok2
      exact ok2
    | err z s h =>
      rw [e] at ok2
      exact fun μ' H' σ' cls d x1 w1 _ r1 => ok2 μ' H' cls d x1 w1 r1
    | bk s h => rw [e] at ok2; exact ok2.elim
    | ct s h => rw [e] at ok2; exact ok2.elim
    | no => rw [e] at ok2; exact ok2.elim
  · cases fl with
    | ret u =>
      obtain ⟨v, σ2, H2, J, r2, q2⟩ := h
      exact ⟨v, H2, J.os, J.bare, J.base, J.hok, r2, q2⟩
    | next =>
      obtain ⟨σ2, H2, J, q2⟩ := h
      exact ⟨V.non, H2, J.os, J.bare, J.base, J.hok, rfl, q2⟩
    | brk => exact absurd h fun ⟨_, _, _, z⟩ => z
    | cont => exact absurd h fun ⟨_, _, _, z⟩ => z
end
end Dn
namespace Dn
open PySem PySem.Spec PyProof.Rows L2 PySem.SeqAt

/-! ### what a loop walks: the lists that must stay as they are, the items -/
abbrev Its' := List (Nat × List PV) × List PV
abbrev DI := Sl → PH → Out Its'
def okG (gs : List (Nat × List PV)) (h : PH) : Bool := gs.all fun p => decide (h[p.1]? = some (.lst p.2))
structure WkP (K : PySem.W.Frag) (tbs : List Addr) (J : It) (gs : List (Nat × List PV)) (items : List PV) (μ0 : List Addr) (H0 : Hp) : Prop where
  goes : ∀ i H μ ph, i < items.length → Ex μ0 H0 μ H → Wd K tbs μ ph H → okG gs ph = true → J.go i H
  stops : ∀ H μ ph, Ex μ0 H0 μ H → Wd K tbs μ ph H → okG gs ph = true → J.stop items.length H
  yields : ∀ i H μ ph v H', i < items.length → Ex μ0 H0 μ H → Wd K tbs μ ph H → okG gs ph = true → J.yld i H v H' → ∃ x, items[i]? = some x ∧ Ex μ H μ H' ∧ Wd K tbs μ ph H' ∧ Rl K H' μ x v
def tDI (B : Bs) (W : WX) (f : DI) : TI := fun σ H R => ∃ μ ps ph, Sr B.K H μ ps σ ∧ Wd B.K B.tbs μ ph H ∧ OutOk B W (fun H' μ' (p : Its') (J : It) => WkP B.K B.tbs J p.1 p.2 μ' H') μ H σ (f ps ph) fun J H' => R J H'
def JI (B : Bs) (W : WX) (X : Cx) (tg e : Expr) (f : DI) : Prop := PI X tg e (tDI B W f)
theorem PI_imp {X : Cx} {tg e : Expr} {t t' : TI} (h : PI X tg e t) (k : ∀ σ H Q, t' σ H Q → t σ H Q) : PI X tg e t' := ⟨fun pins s σ H Q I q => h.run pins s σ H Q I (k σ H Q q)⟩
theorem PI_or {X : Cx} {tg e : Expr} {t t' : TI} (h : PI X tg e t) (h' : PI X tg e t') : PI X tg e (fun σ H R => t σ H R ∨ t' σ H R) := ⟨fun pins s σ H Q I q => q.elim (h.run pins s σ H Q I) (h'.run pins s σ H Q I)⟩
theorem SqF.sql {K : PySem.W.Frag} {H : Hp} {a : Addr} {xs : List V} (h : SqF K H a xs) : SqL K H a xs := by
  rcases h with ⟨o, h⟩ | h
  · exact .inl (.inr ⟨o, h⟩)
  · exact .inr h
theorem Ex.sqt {K : PySem.W.Frag} {μ μ' : List Addr} {H H' : Hp} (e : Ex μ H μ' H') {a : Addr} {xs : List V} (h : SqT K H a xs) : SqT K H' a xs := e.rd h
def chars (z : Str) : List PV := z.cps.toList.map fun c => .str ⟨#[c]⟩
section
variable {K : PySem.W.Frag} {tbs : List Addr} {μ0 : List Addr} {H0 : Hp} {a : Addr} {vs : List V} {xs : List PV}
theorem wk_tup (h : SqT K H0 a vs) (r : Rls K H0 μ0 xs vs) : WkP K tbs (Itt K a) [] xs μ0 H0 where
  goes := fun i H μ ph lt e _ _ => walk_tup.goes i H (by rw [← r.len]; exact lt) (e.sqt h)
  stops := fun H μ ph e _ _ => by
    rw [r.len]
    exact walk_tup.stops H (e.sqt h)
  yields := fun i H μ ph v H' lt e w _ y => by
    obtain ⟨rfl, hv⟩ := walk_tup.yields i H v H' (by rw [← r.len]; exact lt) (e.sqt h) y
    obtain ⟨v', h1, h2⟩ := (r.mono e).at (List.getElem?_eq_getElem lt)
    rw [hv] at h1
    cases h1
    exact ⟨_, List.getElem?_eq_getElem lt, Ex.refl, w, h2⟩
/-- a list that stays -/
theorem wk_lst {J : It} {gs : List (Nat × List PV)} (same : J = Itl K a) (h : ∀ H μ ph, Ex μ0 H0 μ H → Wd K tbs μ ph H → okG gs ph = true → ∃ ws, SqL K H a ws ∧ Rls K H μ xs ws) : WkP K tbs J gs xs μ0 H0 := by
  subst same
  refine ⟨fun i H μ ph lt e w g => ?_, fun H μ ph e w g => ?_, fun i H μ ph v H' lt e w g y => ?_⟩
  · obtain ⟨ws, q, r⟩ := h H μ ph e w g
    exact walk_list.goes i H (by rw [← r.len]; exact lt) q
  · obtain ⟨ws, q, r⟩ := h H μ ph e w g
    rw [r.len]
    exact walk_list.stops H q
  · obtain ⟨ws, q, r⟩ := h H μ ph e w g
    obtain ⟨rfl, hv⟩ := walk_list.yields i H v H' (by rw [← r.len]; exact lt) q y
    obtain ⟨v', h1, h2⟩ := r.at (List.getElem?_eq_getElem lt)
    rw [hv] at h1
    cases h1
    exact ⟨_, List.getElem?_eq_getElem lt, Ex.refl, w, h2⟩
/-- the list with number n -/
theorem ref_stays {n : Nat} (hk : μ0[n]? = some a) : ∀ H μ ph, Ex μ0 H0 μ H → Wd K tbs μ ph H → okG [(n, xs)] ph = true → ∃ ws, SqL K H a ws ∧ Rls K H μ xs ws := fun H μ ph e w g => by
  have g2 : ph[n]? = some (.lst xs) := by simpa [okG] using g
  obtain ⟨ws, h1, h2⟩ := w.ob n a _ (e.pre n a hk) g2
  exact ⟨ws, SqL.of h1, h2⟩
theorem fz_stays (h : SqF K H0 a vs) (r : Rls K H0 μ0 xs vs) : ∀ H μ ph, Ex μ0 H0 μ H → Wd K tbs μ ph H → okG [] ph = true → ∃ ws, SqL K H a ws ∧ Rls K H μ xs ws := fun H μ ph e w g => ⟨vs, (e.sqf h).sql, r.mono e⟩
theorem wk_str {z : Str} : WkP K tbs (Its z) [] (chars z) μ0 H0 where
  goes := fun i H μ ph lt e _ _ => walk_str.goes i H (by unfold chars at lt; simpa using lt) trivial
  stops := fun H μ ph e _ _ => by
    have z2 := (walk_str (z := z)).stops H trivial
    unfold chars
    rw [List.length_map, Array.length_toList]
    exact z2
  yields := fun i H μ ph v H' lt e w _ y => by
    obtain ⟨rfl, c, hc, rfl⟩ := walk_str.yields i H v H' (by unfold chars at lt; simpa using lt) trivial y
    refine ⟨.str ⟨#[c]⟩, ?_, Ex.refl, w, .str _⟩
    unfold chars
    rw [List.getElem?_map, Array.getElem?_toList, hc]
    rfl
def rangeP (lo : Int) (n : Nat) : List PV := (List.range n).map fun i => .int (lo + (i : Nat))
theorem wk_range {lo : Int} {n : Nat} : WkP K tbs (Itr lo n) [] (rangeP lo n) μ0 H0 where
  goes := fun i H μ ph lt e _ _ => walk_range.goes i H (by unfold rangeP at lt; simpa using lt) trivial
  stops := fun H μ ph e _ _ => by
    have z2 := (walk_range (lo := lo) (n := n)).stops H trivial
    unfold rangeP
    rw [List.length_map, List.length_range]
    exact z2
  yields := fun i H μ ph v H' lt e w _ y => by
    have lt2 : i < n := by unfold rangeP at lt; simpa using lt
    obtain ⟨rfl, rfl⟩ := walk_range.yields i H v H' lt2 trivial y
    refine ⟨.int (lo + (i : Nat)), ?_, Ex.refl, w, .int _⟩
    unfold rangeP
    rw [List.getElem?_map, List.getElem?_range lt2]
    rfl
end
/-- a tuple, a list, a text -/
def iSeq (f : DE) : DI := fun s h => (f s h).bind fun v h => match v with
  | .tup xs => .ok ([], xs) h
  | .kt xs => .ok ([], xs) h
  | .fz xs => .ok ([], xs) h
  | .str z => .ok ([], chars z) h
  | .ref n => match h[n]? with
    | some (.lst xs) => .ok ([(n, xs)], xs) h
    | _ => .no
  | _ => .no
def iRange1 (f : DE) : DI := fun s h => (f s h).bind fun v h => match v with
  | .int j => if decide (-4611686018427387904 ≤ j ∧ j < 4611686018427387904) then .ok ([], rangeP 0 j.toNat) h else .no
  | _ => .no
def iRange2 (f g : DE) : DI := fun s h => (f s h).bind fun v h => (g s h).bind fun w h => match v, w with
  | .int i, .int j => if decide (-4611686018427387904 ≤ i ∧ i < 4611686018427387904 ∧ -4611686018427387904 ≤ j ∧ j < 4611686018427387904) then .ok ([], rangeP i (j - i).toNat) h else .no
  | _, _ => .no
section
variable {tbs : List Addr} {W : WX} {X : Cx} {tg e : Expr} {p pos : Pos}
theorem tDI.of_tD {f : DE} {g : DI} {σ : L2.St} {H : Hp} {R : It → Hp → Prop} {k : PV → PH → Out Its'} (eq : g = fun s h => (f s h).bind k) (h : tDI (bs X tbs) W g σ H R) {Q : VK}
    (q : ∀ x ph μ' H' v, Wd X.K tbs μ' ph H' → Rl X.K H' μ' x v → OutOk (bs X tbs) W (fun H' μ' (p : Its') (J : It) => WkP X.K tbs J p.1 p.2 μ' H') μ' H' σ (k x ph) (fun J H' => R J H') → Q v H') : tD (bs X tbs) W f σ H Q := by
  obtain ⟨μ, ps, ph, sr, wd, ok⟩ := h
  subst eq
  exact ⟨μ, ps, ph, sr, wd, OutOk.bind ok fun x ph1 μ1 H1 v e1 w1 r1 ok1 => q x ph1 μ1 H1 v w1 r1 ok1⟩
theorem ji_seq {f : DE} (h : JE (bs X tbs) W X e f) : JI (bs X tbs) W X tg e (iSeq f) :=
  PI_imp (PI_or (pi_tup h) (PI_or (pi_list h) (pi_str h))) fun σ H R ⟨μ, ps, ph, sr, wd, ok⟩ => by
    unfold iSeq at ok
    cases ef : f ps ph with
    | no => rw [ef] at ok; exact ok.elim
    | err z h2 =>
      refine .inl ⟨μ, ps, ph, sr, wd, ?_⟩
      rw [ef] at ok ⊢
      exact ok
    | ok v h2 =>
      rw [ef] at ok
      simp only [Out.bind_ok] at ok
      have fin : ∀ {g : DE} {Q : VK}, g ps ph = .ok v h2 → (∀ μ' H' x, Ex μ H μ' H' → Wd X.K tbs μ' h2 H' → Rl X.K H' μ' v x → Q x H') → tD (bs X tbs) W g σ H Q := fun {g Q} e q => ⟨μ, ps, ph, sr, wd, by rw [e]; exact q⟩
      cases v with
      | tup xs =>
        refine .inl (fin ef fun μ' H' x e1 w1 r1 => ?_)
        cases r1 with
        | @tup a vs _ ht ra => exact ⟨a, rfl, ⟨_, SqT.of ht⟩, ok μ' H' _ e1 w1 (wk_tup (SqT.of ht) ra)⟩
      | kt xs =>
        refine .inl (fin ef fun μ' H' x e1 w1 r1 => ?_)
        cases r1 with
        | @kt a vs _ ht ra => exact ⟨a, rfl, ⟨_, .inr ht⟩, ok μ' H' _ e1 w1 (wk_tup (.inr ht) ra)⟩
      | fz xs =>
        refine .inr (.inl (fin ef fun μ' H' x e1 w1 r1 => ?_))
        cases r1 with
        | @fz a vs _ ht ra => exact ⟨a, rfl, ⟨_, ht.sql⟩, ok μ' H' _ e1 w1 (wk_lst rfl (fz_stays ht ra))⟩
      | str z =>
        refine .inr (.inr (fin ef fun μ' H' x e1 w1 r1 => ?_))
        cases r1
        exact ⟨z, rfl, ok μ' H' _ e1 w1 wk_str⟩
      | ref n =>
        dsimp only at ok
        split at ok
        · rename_i xs hn
          refine .inr (.inl (fin ef fun μ' H' x e1 w1 r1 => ?_))
          cases r1 with
          | @ref _ a hk =>
            obtain ⟨vs, h1, h2'⟩ := w1.ob n a _ hk hn
            exact ⟨a, rfl, ⟨_, SqL.of h1⟩, ok μ' H' _ e1 w1 (wk_lst rfl (ref_stays hk))⟩
        · exact ok.elim
      | non => exact ok.elim
      | bl b => exact ok.elim
      | int i => exact ok.elim
theorem ja_ones {f : DE} {α β : Type} {rel : Hp → List Addr → α → β → Prop} {σ : L2.St} {H : Hp} {μ : List Addr} {ps : Sl} {ph : PH} {k : PV → PH → Out α} {R : β → Hp → Prop} {Q : List V → Hp → Prop} (sr : Sr X.K H μ ps σ) (wd : Wd X.K tbs μ ph H) (ok : OutOk (bs X tbs) W rel μ H σ ((f ps ph).bind k) R)
    (q : ∀ x ph μ' H' v, Ex μ H μ' H' → Wd X.K tbs μ' ph H' → Rl X.K H' μ' x v → OutOk (bs X tbs) W rel μ' H' σ (k x ph) R → Q [v] H') : tDA (bs X tbs) W (eCons f eNil) σ H Q := by
  refine ⟨μ, ps, ph, sr, wd, ?_⟩
  unfold eCons eNil
  cases ef : f ps ph with
  | no => rw [ef] at ok; exact ok.elim
  | err z h2 => rw [ef] at ok; exact ok
  | ok v h2 =>
    rw [ef] at ok
    simp only [Out.bind_ok] at ok ⊢
    intro μ' H' vs e1 w1 r1
    cases r1 with
    | cons ra rb =>
      cases rb
      exact q v h2 μ' H' _ e1 w1 ra (OutOk.ext ok e1)
theorem ja_twos {f g : DE} {α β : Type} {rel : Hp → List Addr → α → β → Prop} {σ : L2.St} {H : Hp} {μ : List Addr} {ps : Sl} {ph : PH} {k : PV → PV → PH → Out α} {R : β → Hp → Prop} {Q : List V → Hp → Prop} (sr : Sr X.K H μ ps σ) (wd : Wd X.K tbs μ ph H) (ok : OutOk (bs X tbs) W rel μ H σ ((f ps ph).bind fun x h => (g ps h).bind fun y h => k x y h) R)
    (q : ∀ x y ph μ' H' v w, Ex μ H μ' H' → Wd X.K tbs μ' ph H' → Rl X.K H' μ' x v → Rl X.K H' μ' y w → OutOk (bs X tbs) W rel μ' H' σ (k x y ph) R → Q [v, w] H') : tDA (bs X tbs) W (eCons f (eCons g eNil)) σ H Q := by
  refine ⟨μ, ps, ph, sr, wd, ?_⟩
  unfold eCons eNil
  cases ef : f ps ph with
  | no => rw [ef] at ok; exact ok.elim
  | err z h2 => rw [ef] at ok; exact ok
  | ok v h2 =>
    rw [ef] at ok
    simp only [Out.bind_ok] at ok ⊢
    cases eg : g ps h2 with
    | no => rw [eg] at ok; exact ok.elim
    | err z h3 => rw [eg] at ok; exact ok
    | ok w h3 =>
      rw [eg] at ok
      simp only [Out.bind_ok] at ok ⊢
      intro μ' H' vs e1 w1 r1
      cases r1 with
      | cons ra rb =>
        cases rb with
        | cons rc rd =>
          cases rd
          exact q v w h3 μ' H' _ _ e1 w1 ra rc (OutOk.ext ok e1)
theorem ji_range {f : DE} (hg : Gl X "range") (hm : X.mg "range" = none) (ha : JE (bs X tbs) W X e f) (hs : starEach [e] X.env = [(false, eval e X.env)] := by rfl) : JI (bs X tbs) W X tg (.Call (.Name "range" p) [e] [] pos) (iRange1 f) :=
  PI_imp (pi_range1 hg hm (j_cons ha j_nil hs) hs) fun σ H R ⟨μ, ps, ph, sr, wd, ok⟩ => ja_ones sr wd ok fun x ph μ' H' v e1 w1 r1 ok1 => by
    split at ok1
    · rename_i j
      cases r1
      split at ok1
      · rename_i hz
        obtain ⟨h1, h2⟩ := of_decide_eq_true hz
        exact ⟨j, rfl, by omega, by omega, ok1 μ' H' _ Ex.refl w1 wk_range⟩
      · exact ok1.elim
    · exact ok1.elim
theorem ji_range2 {e2 : Expr} {f g : DE} (hg : Gl X "range") (hm : X.mg "range" = none) (ha : JE (bs X tbs) W X e f) (hb : JE (bs X tbs) W X e2 g) (hs : starEach [e, e2] X.env = [(false, eval e X.env), (false, eval e2 X.env)] := by rfl) (hs2 : starEach [e2] X.env = [(false, eval e2 X.env)] := by rfl) :
    JI (bs X tbs) W X tg (.Call (.Name "range" p) [e, e2] [] pos) (iRange2 f g) :=
  PI_imp (pi_range2 hg hm (j_cons ha (j_cons hb j_nil hs2) (hs.trans (by rw [hs2]))) hs hs2) fun σ H R ⟨μ, ps, ph, sr, wd, ok⟩ => ja_twos sr wd ok fun x y ph μ' H' v w e1 w1 r1 r2 ok1 => by
    split at ok1
    · rename_i i j
      cases r1
      cases r2
      split at ok1
      · rename_i hz
        obtain ⟨h1, h2, h3, h4⟩ := of_decide_eq_true hz
        exact ⟨i, j, rfl, ⟨by omega, by omega, by omega, by omega⟩, ok1 μ' H' _ Ex.refl w1 wk_range⟩
      · exact ok1.elim
    · exact ok1.elim

/-! ### enumerate, zip, reversed -/
def enumP : Nat → List PV → List PV
  | _, [] => []
  | k, x :: r => .tup [.int k, x] :: enumP (k + 1) r
theorem enumP_at : ∀ (xs : List PV) (k i : Nat), (enumP k xs)[i]? = xs[i]?.map fun x => .tup [.int ((k + i : Nat) : Int), x]
  | [], _, _ => by simp [enumP]
  | x :: r, k, 0 => by simp [enumP]
  | x :: r, k, i + 1 => by
    show (enumP (k + 1) r)[i]? = _
    rw [enumP_at r (k + 1) i]
    have e : k + 1 + i = k + (i + 1) := by omega
    rw [e]
    rfl
theorem enumP_len : ∀ (xs : List PV) (k : Nat), (enumP k xs).length = xs.length
  | [], _ => rfl
  | x :: r, k => by
    show (enumP (k + 1) r).length + 1 = _
    rw [enumP_len r (k + 1)]
    rfl
theorem pair_ok {K : PySem.W.Frag} {μ : List Addr} {ph : PH} {H H' : Hp} {v x y : V} {px py : PV} {T : Addr} (w : Wd K tbs μ ph H) (hv : v = .ref T) (hT : H T = none) (hH : H' = upd H T (.tup [x, y])) (r1 : Rl K H μ px x) (r2 : Rl K H μ py y) :
    Ex μ H μ H' ∧ Wd K tbs μ ph H' ∧ Rl K H' μ (.tup [px, py]) v := by
  subst hv hH
  exact w.newTup (.cons r1 (.cons r2 .nil)) hT
theorem wk_enumT {K : PySem.W.Frag} {μ0 : List Addr} {H0 : Hp} {a : Addr} {vs : List V} {xs : List PV} (h : SqT K H0 a vs) (r : Rls K H0 μ0 xs vs) : WkP K tbs (Rw.Itet K a) [] (enumP 0 xs) μ0 H0 where
  goes := fun i H μ ph lt e _ _ => Rw.walk_enumT.goes i H (by rw [enumP_len] at lt; rw [← r.len]; exact lt) (e.sqt h)
  stops := fun H μ ph e _ _ => by
    rw [enumP_len, r.len]
    exact Rw.walk_enumT.stops H (e.sqt h)
  yields := fun i H μ ph v H' lt e w _ y => by
    rw [enumP_len] at lt
    obtain ⟨T, x, y, e1, e2, e3, e4, e5⟩ := Rw.walk_enumT.yields i H v H' (by rw [← r.len]; exact lt) (e.sqt h) y
    obtain ⟨v', h1, h2⟩ := (r.mono e).at (List.getElem?_eq_getElem lt)
    dsimp only at e4 e5
    rw [e5] at h1
    cases h1
    cases e4
    obtain ⟨a1, a2, a3⟩ := pair_ok w e1 e2 e3 (.int ((i : Nat) : Int)) h2
    refine ⟨_, ?_, a1, a2, a3⟩
    rw [enumP_at, List.getElem?_eq_getElem lt, Nat.zero_add]
    rfl
theorem wk_enumL {K : PySem.W.Frag} {μ0 : List Addr} {H0 : Hp} {a : Addr} {gs : List (Nat × List PV)} {xs : List PV} (h : ∀ H μ ph, Ex μ0 H0 μ H → Wd K tbs μ ph H → okG gs ph = true → ∃ ws, SqL K H a ws ∧ Rls K H μ xs ws) : WkP K tbs (Ite K a) gs (enumP 0 xs) μ0 H0 where
  goes := fun i H μ ph lt e w g => by
    obtain ⟨ws, q, r⟩ := h H μ ph e w g
    exact walk_enum.goes i H (by rw [enumP_len] at lt; rw [← r.len]; exact lt) q
  stops := fun H μ ph e w g => by
    obtain ⟨ws, q, r⟩ := h H μ ph e w g
    rw [enumP_len, r.len]
    exact walk_enum.stops H q
  yields := fun i H μ ph v H' lt e w g y => by
    obtain ⟨ws, q, r⟩ := h H μ ph e w g
    rw [enumP_len] at lt
    obtain ⟨T, x, y, e1, e2, e3, e4, e5⟩ := walk_enum.yields i H v H' (by rw [← r.len]; exact lt) q y
    obtain ⟨v', h1, h2⟩ := r.at (List.getElem?_eq_getElem lt)
    dsimp only at e4 e5
    rw [e5] at h1
    cases h1
    cases e4
    obtain ⟨a1, a2, a3⟩ := pair_ok w e1 e2 e3 (.int ((i : Nat) : Int)) h2
    refine ⟨_, ?_, a1, a2, a3⟩
    rw [enumP_at, List.getElem?_eq_getElem lt, Nat.zero_add]
    rfl
def iEnumP (f : DE) : DI := fun s h => (f s h).bind fun v h => match v with
  | .tup xs => .ok ([], enumP 0 xs) h
  | .fz xs => .ok ([], enumP 0 xs) h
  | .ref n => match h[n]? with
    | some (.lst xs) => .ok ([(n, xs)], enumP 0 xs) h
    | _ => .no
  | _ => .no
theorem ja_one {f : DE} {σ : L2.St} {H : Hp} {μ : List Addr} {ps : Sl} {ph : PH} {v : PV} {h2 : PH} {Q : List V → Hp → Prop} (sr : Sr X.K H μ ps σ) (wd : Wd X.K tbs μ ph H) (ef : f ps ph = .ok v h2) (q : ∀ μ' H' x, Ex μ H μ' H' → Wd X.K tbs μ' h2 H' → Rl X.K H' μ' v x → Q [x] H') :
    tDA (bs X tbs) W (eCons f eNil) σ H Q := by
  refine ⟨μ, ps, ph, sr, wd, ?_⟩
  unfold eCons eNil
  rw [ef]
  simp only [Out.bind_ok]
  intro μ' H' vs e1 w1 r1
  cases r1 with
  | cons ra rb =>
    cases rb
    exact q μ' H' _ e1 w1 ra
theorem ja_err {f : DE} {σ : L2.St} {H : Hp} {μ : List Addr} {ps : Sl} {ph : PH} {z : PErr} {h2 : PH} {Q : List V → Hp → Prop} {β : Type} {rel : Hp → List Addr → Its' → β → Prop} {R : β → Hp → Prop} (sr : Sr X.K H μ ps σ) (wd : Wd X.K tbs μ ph H) (ef : f ps ph = .err z h2) (ok : OutOk (bs X tbs) W rel μ H σ (.err z h2 : Out Its') R) :
    tDA (bs X tbs) W (eCons f eNil) σ H Q := by
  refine ⟨μ, ps, ph, sr, wd, ?_⟩
  unfold eCons
  rw [ef]
  exact ok
theorem ji_enum {f : DE} {elts : List Expr} {kk : Nat} {tpos : Pos} (hg : Gl X "enumerate") (hm : X.mg "enumerate" = none) (ha : JE (bs X tbs) W X e f) (hs : starEach [e] X.env = [(false, eval e X.env)] := by rfl) : JI (bs X tbs) W X (.Tuple elts kk tpos) (.Call (.Name "enumerate" p) [e] [] pos) (iEnumP f) :=
  PI_imp (PI_or (Rw.pi_enumT hg hm (j_cons ha j_nil hs) hs) (pi_enum hg hm (j_cons ha j_nil hs) hs)) fun σ H R ⟨μ, ps, ph, sr, wd, ok⟩ => by
    unfold iEnumP at ok
    cases ef : f ps ph with
    | no => rw [ef] at ok; exact ok.elim
    | err z h2 =>
      rw [ef] at ok
      exact .inl (ja_err sr wd ef ok)
    | ok v h2 =>
      rw [ef] at ok
      simp only [Out.bind_ok] at ok
      cases v with
      | tup xs =>
        refine .inl (ja_one sr wd ef fun μ' H' x e1 w1 r1 => ?_)
        cases r1 with
        | @tup a vs _ ht ra => exact ⟨a, _, rfl, SqT.of ht, ok μ' H' _ e1 w1 (wk_enumT (SqT.of ht) ra)⟩
      | kt xs => exact ok.elim
      | fz xs =>
        refine .inr (ja_one sr wd ef fun μ' H' x e1 w1 r1 => ?_)
        cases r1 with
        | @fz a vs _ ht ra => exact ⟨a, _, rfl, ht.sql, ok μ' H' _ e1 w1 (wk_enumL (fz_stays ht ra))⟩
      | ref n =>
        dsimp only at ok
        split at ok
        · rename_i xs hn
          refine .inr (ja_one sr wd ef fun μ' H' x e1 w1 r1 => ?_)
          cases r1 with
          | @ref _ a hk =>
            obtain ⟨vs, h1, h2'⟩ := w1.ob n a _ hk hn
            exact ⟨a, _, rfl, SqL.of h1, ok μ' H' _ e1 w1 (wk_enumL (ref_stays hk))⟩
        · exact ok.elim
      | str z => exact ok.elim
      | non => exact ok.elim
      | bl b => exact ok.elim
      | int i => exact ok.elim
/-- pairs, as long as both go -/
def zipP (xs ys : List PV) : List PV := List.zipWith (fun x y => .tup [x, y]) xs ys
theorem wk_zipT {K : PySem.W.Frag} {μ0 : List Addr} {H0 : Hp} {a b : Addr} {vs ws : List V} {xs ys : List PV} (h : SqT K H0 a vs) (r : Rls K H0 μ0 xs vs) (h2 : SqT K H0 b ws) (r2 : Rls K H0 μ0 ys ws) : WkP K tbs (RZ.ItzT K a b) [] (zipP xs ys) μ0 H0 where
  goes := fun i H μ ph lt e _ _ => by
    simp only [zipP, List.length_zipWith] at lt
    obtain ⟨v, h3, _⟩ := r.at (List.getElem?_eq_getElem (show i < xs.length by omega))
    obtain ⟨w, h4, _⟩ := r2.at (List.getElem?_eq_getElem (show i < ys.length by omega))
    exact ⟨vs, ws, v, w, e.sqt h, e.sqt h2, h3, h4⟩
  stops := fun H μ ph e _ _ => by
    simp only [zipP, List.length_zipWith]
    refine ⟨vs, ws, e.sqt h, e.sqt h2, ?_⟩
    rw [← r.len, ← r2.len]
    omega
  yields := fun i H μ ph v H' lt e w _ y => by
    simp only [zipP, List.length_zipWith] at lt
    have l1 : i < xs.length := by omega
    have l2 : i < ys.length := by omega
    obtain ⟨T, x, y, e1, e2, e3, e4, e5⟩ := y
    obtain ⟨v1, h3, q1⟩ := (r.mono e).at (List.getElem?_eq_getElem l1)
    obtain ⟨v2, h4, q2⟩ := (r2.mono e).at (List.getElem?_eq_getElem l2)
    have z1 := e4 _ (e.sqt h)
    have z2 := e5 _ (e.sqt h2)
    rw [z1] at h3
    rw [z2] at h4
    cases h3
    cases h4
    obtain ⟨a1, a2, a3⟩ := pair_ok w e1 e2 e3 q1 q2
    refine ⟨_, ?_, a1, a2, a3⟩
    simp [zipP, List.getElem?_zipWith, List.getElem?_eq_getElem l1, List.getElem?_eq_getElem l2]
theorem wk_zipL {K : PySem.W.Frag} {μ0 : List Addr} {H0 : Hp} {a b : Addr} {gs gs2 : List (Nat × List PV)} {xs ys : List PV} (h : ∀ H μ ph, Ex μ0 H0 μ H → Wd K tbs μ ph H → okG gs ph = true → ∃ ws, SqL K H a ws ∧ Rls K H μ xs ws)
    (h2 : ∀ H μ ph, Ex μ0 H0 μ H → Wd K tbs μ ph H → okG gs2 ph = true → ∃ ws, SqL K H b ws ∧ Rls K H μ ys ws) : WkP K tbs (Itz K a b) (gs ++ gs2) (zipP xs ys) μ0 H0 where
  goes := fun i H μ ph lt e w g => by
    simp only [okG, List.all_append, Bool.and_eq_true] at g
    obtain ⟨vs, q, r⟩ := h H μ ph e w g.1
    obtain ⟨ws, q2, r2⟩ := h2 H μ ph e w g.2
    simp only [zipP, List.length_zipWith] at lt
    obtain ⟨v, h3, _⟩ := r.at (List.getElem?_eq_getElem (show i < xs.length by omega))
    obtain ⟨w, h4, _⟩ := r2.at (List.getElem?_eq_getElem (show i < ys.length by omega))
    exact ⟨vs, ws, v, w, q, q2, h3, h4⟩
  stops := fun H μ ph e w g => by
    simp only [okG, List.all_append, Bool.and_eq_true] at g
    obtain ⟨vs, q, r⟩ := h H μ ph e w g.1
    obtain ⟨ws, q2, r2⟩ := h2 H μ ph e w g.2
    simp only [zipP, List.length_zipWith]
    refine ⟨vs, ws, q, q2, ?_⟩
    rw [← r.len, ← r2.len]
    omega
  yields := fun i H μ ph v H' lt e w g y => by
    simp only [okG, List.all_append, Bool.and_eq_true] at g
    obtain ⟨vs, q, r⟩ := h H μ ph e w g.1
    obtain ⟨ws, q2, r2⟩ := h2 H μ ph e w g.2
    simp only [zipP, List.length_zipWith] at lt
    have l1 : i < xs.length := by omega
    have l2 : i < ys.length := by omega
    obtain ⟨T, x, y, e1, e2, e3, e4, e5⟩ := y
    obtain ⟨v1, h3, q3⟩ := r.at (List.getElem?_eq_getElem l1)
    obtain ⟨v2, h4, q4⟩ := r2.at (List.getElem?_eq_getElem l2)
    have z1 := e4 _ q
    have z2 := e5 _ q2
    rw [z1] at h3
    rw [z2] at h4
    cases h3
    cases h4
    obtain ⟨a1, a2, a3⟩ := pair_ok w e1 e2 e3 q3 q4
    refine ⟨_, ?_, a1, a2, a3⟩
    simp [zipP, List.getElem?_zipWith, List.getElem?_eq_getElem l1, List.getElem?_eq_getElem l2]
/-- the items of a list, and what must stay -/
def lstOf (h : PH) : PV → Option Its'
  | .fz xs => some ([], xs)
  | .ref n => match h[n]? with
    | some (.lst xs) => some ([(n, xs)], xs)
    | _ => none
  | _ => none
theorem lstOf_ok {K : PySem.W.Frag} {μ : List Addr} {H : Hp} {ph : PH} {x : PV} {v : V} {g : Its'} (w : Wd K tbs μ ph H) (r : Rl K H μ x v) (e : lstOf ph x = some g) : ∃ a vs, v = .ref a ∧ SqL K H a vs ∧ ∀ H' μ' ph', Ex μ H μ' H' → Wd K tbs μ' ph' H' → okG g.1 ph' = true → ∃ ws, SqL K H' a ws ∧ Rls K H' μ' g.2 ws := by
  unfold lstOf at e
  split at e
  · cases e
    cases r with
    | @fz a vs _ ht ra => exact ⟨a, vs, rfl, ht.sql, fz_stays ht ra⟩
  · split at e
    · rename_i xs hn
      cases e
      cases r with
      | @ref _ a hk =>
        obtain ⟨vs, h1, _⟩ := w.ob _ a _ hk hn
        exact ⟨a, vs, rfl, SqL.of h1, ref_stays hk⟩
    · cases e
  · cases e
def iZipP (f g : DE) : DI := fun s h => (f s h).bind fun v h => (g s h).bind fun w h => match v, w with
  | .tup xs, .tup ys => .ok ([], zipP xs ys) h
  | _, _ => match lstOf h v, lstOf h w with
    | some a, some b => .ok (a.1 ++ b.1, zipP a.2 b.2) h
    | _, _ => .no
theorem ji_zip {e2 : Expr} {f g : DE} {elts : List Expr} {kk : Nat} {tpos : Pos} (hg : Gl X "zip") (hm : X.mg "zip" = none) (ha : JE (bs X tbs) W X e f) (hb : JE (bs X tbs) W X e2 g) (hs : starEach [e, e2] X.env = [(false, eval e X.env), (false, eval e2 X.env)] := by rfl) (hs2 : starEach [e2] X.env = [(false, eval e2 X.env)] := by rfl) :
    JI (bs X tbs) W X (.Tuple elts kk tpos) (.Call (.Name "zip" p) [e, e2] [] pos) (iZipP f g) :=
  PI_imp (RZ.pi_zipA hg hm (j_cons ha (j_cons hb j_nil hs2) (hs.trans (by rw [hs2]))) (hs.trans (by rw [hs2])) (by rw [hs2]; rfl)) fun σ H R ⟨μ, ps, ph, sr, wd, ok⟩ => ja_twos sr wd ok fun x y ph μ' H' v w e1 w1 r1 r2 ok1 => by
    split at ok1
    · rename_i xs ys
      cases r1 with
      | @tup a vs _ ht ra =>
      cases r2 with
      | @tup b ws _ ht2 rb =>
      exact ⟨a, b, vs, ws, rfl, .inr ⟨SqT.of ht, SqT.of ht2, ok1 μ' H' _ Ex.refl w1 (wk_zipT (SqT.of ht) ra (SqT.of ht2) rb)⟩⟩
    · split at ok1
      · rename_i a b q1 q2
        obtain ⟨a1, vs, rfl, s1, k1⟩ := lstOf_ok w1 r1 q1
        obtain ⟨b1, ws, rfl, s2, k2⟩ := lstOf_ok w1 r2 q2
        exact ⟨a1, b1, vs, ws, rfl, .inl ⟨s1, s2, ok1 μ' H' _ Ex.refl w1 (wk_zipL k1 k2)⟩⟩
      · exact ok1.elim
end

/-! ### for -/
def forItems (gs : List (Nat × List PV)) (g : GP) (body : DS) : List PV → Sl → PH → OutS
  | [], s, h => if okG gs h then .nx s h else .no
  | x :: r, s, h => if okG gs h then match g x with
      | some as => match body (setP as s) h with
        | .nx s h => forItems gs g body r s h
        | .ct s h => forItems gs g body r s h
        | .bk s h => .nx s h
        | o => o
      | none => .no
    else .no
def sFor (it : DI) (g : GP) (body : DS) : DS := fun s h => (it s h).then s fun p h => forItems p.1 g body p.2 s h
section
variable {tbs : List Addr} {W : WX} {X : Cx} {tg e : Expr} {pos : Pos}
theorem js_for {body : List Stmt} {it : DI} {g : GP} {f : DS} (hp : PassesOwn (model X.prog X.w) X.A X.env X.xe) (hc : X.calm = true) (hi : JI (bs X tbs) W X tg e it) (hg : JG X tg g) (hb : JSs (bs X tbs) W X body f)
    (hs : ∀ x, foldedSetIterable e X.env x = pure x := by intro _; rfl) : JS (bs X tbs) W X (.For tg e body [] pos) (sFor it g f) :=
  PS_imp (ps_for hp hc hi hg hb hs) fun D σ H ⟨μ, ps, ph, sr, wd, ok⟩ => ⟨μ, ps, ph, sr, wd, OutOk.then_ sr ok fun its ph1 μ1 H1 J e1 w1 wk ok1 => by
    obtain ⟨gs, items⟩ := its
    dsimp only at wk ok1
    refine ⟨fun i m σ H => m = items.length - i ∧ i ≤ items.length ∧ ∃ μ ps ph, Ex μ1 H1 μ H ∧ Sr X.K H μ ps σ ∧ Wd X.K tbs μ ph H ∧ OutSOk (bs X tbs) W μ H (forItems gs g f (items.drop i) ps ph) D, ⟨items.length, by simp, Nat.zero_le _, μ1, ps, ph1, Ex.refl, sr.mono e1, w1, ok1⟩, ?_⟩
    rintro i m σ2 H2 ⟨rfl, hi, μ2, ps2, ph2, e2, sr2, w2, ok2⟩
    have gOk : okG gs ph2 = true := by
      cases hz : okG gs ph2 with
      | true => rfl
      | false =>
        cases hd : items.drop i with
        | nil =>
          rw [hd] at ok2
          unfold forItems at ok2
          rw [hz] at ok2
          exact ok2.elim
        | cons x r =>
          rw [hd] at ok2
          unfold forItems at ok2
          rw [hz] at ok2
          exact ok2.elim
    by_cases lt : i < items.length
    · refine .inr ⟨wk.goes i H2 μ2 ph2 lt e2 w2 gOk, _, fun σ' H' h => ⟨items.length - (i + 1), by omega, rfl, lt, h⟩, fun x H' y => ?_⟩
      obtain ⟨px, hx, e3, w3, r3⟩ := wk.yields i H2 μ2 ph2 x H' lt e2 w2 gOk y
      have hd : items.drop i = px :: items.drop (i + 1) := by
        rw [List.drop_eq_getElem_cons lt]
        rw [List.getElem?_eq_getElem lt] at hx
        cases hx
        rfl
      rw [hd] at ok2
      unfold forItems at ok2
      rw [if_pos gOk] at ok2
      cases eg : g px with
      | none =>
        rw [eg] at ok2
        exact ok2.elim
      | some as =>
        rw [eg] at ok2
        dsimp only at ok2
        refine ⟨μ2, px, r3, as, eg, fun bs' rb => ⟨μ2, setP as ps2, ph2, (sr2.mono e3).sets rb, w3, ?_⟩⟩
        have ok3 := OutSOk.ext ok2 e3
        cases eb : f (setP as ps2) ph2 with
        | nx s h =>
          rw [eb] at ok3
          exact fun μ' H' σ' x1 w' s' => ⟨μ', s, h, (e2.trans e3).trans x1, s', w', OutSOk.ext ok3 x1⟩
        | ct s h =>
          rw [eb] at ok3
          exact fun μ' H' σ' x1 w' s' => ⟨μ', s, h, (e2.trans e3).trans x1, s', w', OutSOk.ext ok3 x1⟩
        | bk s h => rw [eb] at ok3; exact ok3
        | rt v h => rw [eb] at ok3; exact ok3
        | err z s h => rw [eb] at ok3; exact ok3
        | no => rw [eb] at ok3; exact ok3
    · have e3 : i = items.length := by omega
      subst e3
      refine .inl ⟨wk.stops H2 μ2 ph2 e2 w2 gOk, ?_⟩
      rw [List.drop_length] at ok2
      unfold forItems at ok2
      rw [if_pos gOk] at ok2
      exact ok2 μ2 H2 σ2 Ex.refl w2 sr2⟩
end
end Dn
namespace Dn
open PySem PySem.Spec PyProof.Rows L2 PySem.SeqAt

/-! ### comprehensions -/
def wipeP (s : Sl) : List Nat → Sl
  | [] => s
  | v :: vs => (wipeP s vs).set v none
theorem Sr.wipe {K : PySem.W.Frag} {H : Hp} {μ : List Addr} {ps : Sl} {σ : L2.St} (h : Sr K H μ ps σ) : ∀ vs : List Nat, Sr K H μ (wipeP ps vs) (L2.wipe σ vs)
  | [] => h
  | v :: vs => by
    have q := Sr.wipe h vs
    refine ⟨by show ((wipeP ps vs).set v none).length = ((L2.wipe σ vs).set v none).length; rw [List.length_set, q.len, List.length_set], fun i x e => ?_⟩
    have e : ((wipeP ps vs).set v none)[i]? = some (some x) := e
    by_cases z : v = i
    · subst z
      by_cases lt : v < (wipeP ps vs).length
      · rw [List.getElem?_set_self lt] at e; cases e
      · rw [List.getElem?_eq_none (by simpa using lt)] at e; cases e
    · rw [List.getElem?_set_ne z] at e
      obtain ⟨u, h1, h2⟩ := q.at_ i x e
      refine ⟨u, ?_, h2⟩
      unfold L2.wipe
      rw [List.getElem?_set_ne z]
      exact h1
/-- the target's slots are among vs -/
def GOk (vs : List Nat) (g : GP) : Prop := ∀ x as, g x = some as → ∀ p ∈ as, p.1 ∈ vs
def GsOk (vs : List Nat) (g : List PV → Option (List (Nat × PV))) : Prop := ∀ x as, g x = some as → ∀ p ∈ as, p.1 ∈ vs
theorem gok_nm {vs : List Nat} {i : Nat} (h : i ∈ vs := by decide) : GOk vs (gNm i) := fun x as e p hp => by
  cases e
  rw [List.mem_singleton.mp hp]
  exact h
theorem gok_nil {vs : List Nat} : GsOk vs gsNil := fun x as e p hp => by
  cases x with
  | nil => cases e; cases hp
  | cons _ _ => cases e
theorem gok_cons {vs : List Nat} {g : GP} {r : List PV → Option (List (Nat × PV))} (h1 : GOk vs g) (h2 : GsOk vs r) : GsOk vs (gsCons g r) := fun x as e p hp => by
  cases x with
  | nil => cases e
  | cons y ys =>
    unfold gsCons at e
    dsimp only at e
    split at e
    · rename_i a b e1 e2
      cases e
      rcases List.mem_append.mp hp with z | z
      · exact h1 _ _ e1 p z
      · exact h2 _ _ e2 p z
    · cases e
theorem gok_tp {vs : List Nat} {n : Nat} {g : List PV → Option (List (Nat × PV))} (h : GsOk vs g) : GOk vs (gTp n g) := fun x as e p hp => by
  unfold gTp at e
  split at e
  · split at e
    · exact h _ _ e p hp
    · cases e
  · cases e
theorem wipe_set {σ : L2.St} {i : Nat} {x : Option V} : ∀ {vs : List Nat}, i ∈ vs → L2.wipe (σ.set i x) vs = L2.wipe σ vs
  | [], h => by cases h
  | v :: vs, h => by
    show (L2.wipe (σ.set i x) vs).set v none = (L2.wipe σ vs).set v none
    by_cases z : i ∈ vs
    · rw [wipe_set z]
    · have e : i = v := by
        rcases List.mem_cons.mp h with e | e
        · exact e
        · exact absurd e z
      subst e
      have key : ∀ ws : List Nat, i ∉ ws → L2.wipe (σ.set i x) ws = (L2.wipe σ ws).set i x := by
        intro ws
        induction ws with
        | nil => intro _; rfl
        | cons w ws ih =>
          intro hn
          simp only [List.mem_cons, not_or] at hn
          show (L2.wipe (σ.set i x) ws).set w none = ((L2.wipe σ ws).set w none).set i x
          rw [ih hn.2, List.set_comm _ _ (fun q => hn.1 q)]
      rw [key vs z, List.set_set]
theorem wipe_sets : ∀ {bs : List (Nat × V)} {σ : L2.St} {vs : List Nat}, (∀ p ∈ bs, p.1 ∈ vs) → L2.wipe (setV bs σ) vs = L2.wipe σ vs
  | [], _, _, _ => rfl
  | (i, x) :: r, σ, vs, h => by
    show L2.wipe (setV r (σ.set i (some x))) vs = _
    rw [wipe_sets fun p hp => h p (List.mem_cons_of_mem _ hp), wipe_set (h (i, x) List.mem_cons_self)]
theorem RlA.slots {K : PySem.W.Frag} {H : Hp} {μ : List Addr} {vs : List Nat} : ∀ {a : List (Nat × PV)} {c : List (Nat × V)}, RlA K H μ a c → (∀ p ∈ a, p.1 ∈ vs) → ∀ p ∈ c, p.1 ∈ vs
  | _, _, .nil, _, p, hp => by cases hp
  | _, _, @RlA.cons _ _ _ i x v r s h t, q, p, hp => by
    rcases List.mem_cons.mp hp with e | e
    · rw [e]
      exact q (i, x) List.mem_cons_self
    · exact RlA.slots t (fun p hp => q p (List.mem_cons_of_mem _ hp)) p e
theorem wipe_wipe {σ : L2.St} : ∀ vs : List Nat, L2.wipe (L2.wipe σ vs) vs = L2.wipe σ vs := by
  have key : ∀ (ws : List Nat) (σ : L2.St) (vs : List Nat), (∀ i ∈ ws, i ∈ vs) → L2.wipe (L2.wipe σ ws) vs = L2.wipe σ vs := by
    intro ws
    induction ws with
    | nil => intro σ vs _; rfl
    | cons w ws ih =>
      intro σ vs h
      show L2.wipe ((L2.wipe σ ws).set w none) vs = _
      rw [wipe_set (h w List.mem_cons_self), ih σ vs fun i hi => h i (List.mem_cons_of_mem _ hi)]
  exact fun vs => key vs σ vs fun _ h => h
/-- an exception is not let out -/
def Out.ne {α : Type} : Out α → Out α
  | .err _ _ => .no
  | o => o
@[simp] theorem Out.ne_ok {α : Type} (a : α) (h : PH) : (Out.ok a h).ne = .ok a h := rfl
@[simp] theorem Out.ne_err {α : Type} (e : PErr) (h : PH) : (Out.err e h : Out α).ne = .no := rfl
@[simp] theorem Out.ne_no {α : Type} : (Out.no : Out α).ne = .no := rfl
abbrev W0 : WX := fun _ _ _ _ => False
/-- one behind the other, nothing is let out -/
theorem OutOk.bindN {B : Bs} {W : WX} {α β α' β' : Type} {rel : Hp → List Addr → α → β → Prop} {rel' : Hp → List Addr → α' → β' → Prop} {μ : List Addr} {H : Hp} {σ : L2.St} {σ' : L2.St} {W' : WX} {o : Out α} {k : α → PH → Out α'} {Q' : β' → Hp → Prop} {Q : β → Hp → Prop}
    (h : OutOk B W rel' μ H σ (o.ne.bind k) Q') (q : ∀ x ph μ' H' v, Ex μ H μ' H' → Wd B.K B.tbs μ' ph H' → rel H' μ' x v → OutOk B W rel' μ' H' σ (k x ph) Q' → Q v H') : OutOk B W' rel μ H σ' o Q := by
  cases o with
  | ok x ph => exact fun μ' H' v e w r => q x ph μ' H' v e w r (OutOk.ext h e)
  | err x ph => exact h.elim
  | no => exact h.elim
def JTs (B : Bs) (W : WX) (X : Cx) (ifs : List Expr) (f : DT) : Prop := PTs X ifs (tDT B W f)
def tYesD : DT := fun _ h => .ok true h
theorem jts_nil {X : Cx} {tbs : List Addr} {W : WX} : JTs (bs X tbs) W X [] tYesD := ⟨fun pins s σ H Q I ⟨μ, ps, ph, sr, wd, ok⟩ => (pts_nil (X := X)).run pins s σ H Q I (ok μ H true Ex.refl wd rfl)⟩
theorem jts_one {X : Cx} {tbs : List Addr} {W : WX} {c : Expr} {f : DT} (h : JT (bs X tbs) W X c f) : JTs (bs X tbs) W X [c] f := pts_one h
/-- the items one by one, the new list at n -/
def compItems (gs : List (Nat × List PV)) (g : GP) (t : DT) (e : DE) (n : Nat) (s : Sl) : List PV → PH → Out Unit
  | [], h => if okG gs h then .ok () h else .no
  | x :: r, h => if okG gs h then match g x with
      | some as => (t (setP as s) h).ne.bind fun b h => if b = true then (e (setP as s) h).ne.bind fun y h => match h[n]? with
          | some (.lst acc) => if acc.length < 16777216 then compItems gs g t e n s r (h.set n (.lst (acc ++ [y]))) else .no
          | _ => .no
        else compItems gs g t e n s r h
      | none => .no
    else .no
def eLc (it : DI) (g : GP) (t : DT) (e : DE) (vs : List Nat) : DE := fun s h => (it s h).bind fun p h => (compItems p.1 g t e h.length (wipeP s vs) p.2 (h ++ [.lst []])).bind fun _ h2 => .ok (.ref h.length) h2
section
variable {tbs : List Addr} {W : WX} {X : Cx} {tg iter elt : Expr} {pos : Pos}
theorem lc_ok {it : DI} {g : GP} {t : DT} {e : DE} {vs : List Nat} {σ : L2.St} {H : Hp} {Q : VK} (gok : GOk vs g) (h : tD (bs X tbs) W (eLc it g t e vs) σ H Q) :
    tLc (tDI (bs X tbs) W it) (gD X.K g) (tDT (bs X tbs) W0 t) (tD (bs X tbs) W0 e) vs σ H Q := by
  obtain ⟨μ, ps, ph, sr, wd, ok⟩ := h
  refine ⟨μ, ps, ph, sr, wd, OutOk.bind ok fun its ph1 μ1 H1 J e1 w1 wk ok1 => ?_⟩
  obtain ⟨gs, items⟩ := its
  dsimp only at wk ok1
  intro D hD
  obtain ⟨x0, w0, _⟩ := w1.newLst (xs := []) (vs := []) .nil hD
  have lenE : (ph1 ++ [MO.lst []]).length = ph1.length + 1 := by simp
  have atD : (μ1 ++ [D])[ph1.length]? = some D := by rw [← w1.len]; simp
  have ok2 := OutOk.ext ok1 x0
  refine ⟨fun i m H => m = items.length - i ∧ i ≤ items.length ∧ ∃ μ ph, Ex (μ1 ++ [D]) (upd H1 D (.lst [])) μ H ∧ Wd X.K tbs μ ph H ∧ OutOk (bs X tbs) W (fun H' μ' => Rl X.K H' μ') μ H σ ((compItems gs g t e ph1.length (wipeP ps vs) (items.drop i) ph).bind fun _ h2 => .ok (.ref ph1.length) h2) Q,
    ⟨items.length, by simp, Nat.zero_le _, _, _, Ex.refl, w0, ok2⟩, ?_⟩
  rintro i m H2 ⟨rfl, hi, μ2, ph2, e2, w2, ok2⟩
  have gOk : okG gs ph2 = true := by
    cases hz : okG gs ph2 with
    | true => rfl
    | false =>
      cases hd : items.drop i with
      | nil =>
        rw [hd] at ok2
        unfold compItems at ok2
        rw [hz] at ok2
        exact ok2.elim
      | cons x r =>
        rw [hd] at ok2
        unfold compItems at ok2
        rw [hz] at ok2
        exact ok2.elim
  have e12 : Ex μ1 H1 μ2 H2 := x0.trans e2
  by_cases lt : i < items.length
  · refine .inr ⟨wk.goes i H2 μ2 ph2 lt e12 w2 gOk, _, fun H' h => ⟨items.length - (i + 1), by omega, rfl, lt, h⟩, fun x H' y => ?_⟩
    obtain ⟨px, hx, e3, w3, r3⟩ := wk.yields i H2 μ2 ph2 x H' lt e12 w2 gOk y
    have hd : items.drop i = px :: items.drop (i + 1) := by
      rw [List.drop_eq_getElem_cons lt]
      rw [List.getElem?_eq_getElem lt] at hx
      cases hx
      rfl
    rw [hd] at ok2
    unfold compItems at ok2
    rw [if_pos gOk] at ok2
    cases eg : g px with
    | none =>
      rw [eg] at ok2
      exact ok2.elim
    | some as =>
      rw [eg] at ok2
      dsimp only at ok2
      refine ⟨μ2, px, r3, as, eg, fun bs' rb => ⟨?_, μ2, setP as (wipeP ps vs), ph2, ((sr.mono (e1.trans (e12.trans e3))).wipe vs).sets rb, w3, ?_⟩⟩
      · rw [wipe_sets (rb.slots (gok _ _ eg)), wipe_wipe]
      · have ok3 := OutOk.ext ok2 e3
        have srB := ((sr.mono (e1.trans (e12.trans e3))).wipe vs).sets rb
        have ok4 : OutOk (bs X tbs) W (fun H' μ' => Rl X.K H' μ') μ2 H' σ ((t (setP as (wipeP ps vs)) ph2).ne.bind fun b h => ((if b = true then (e (setP as (wipeP ps vs)) h).ne.bind fun y h => match h[ph1.length]? with
            | some (.lst acc) => if acc.length < 16777216 then compItems gs g t e ph1.length (wipeP ps vs) (items.drop (i + 1)) (h.set ph1.length (.lst (acc ++ [y]))) else .no
            | _ => .no
          else compItems gs g t e ph1.length (wipeP ps vs) (items.drop (i + 1)) h)).bind fun _ h2 => .ok (.ref ph1.length) h2) Q := by
          cases et : t (setP as (wipeP ps vs)) ph2 with
          | ok b h => rw [et] at ok3; exact ok3
          | err b h => rw [et] at ok3; exact ok3
          | no => rw [et] at ok3; exact ok3
        refine OutOk.bindN ok4 fun b ph4 μ4 H4 c e4 w4 rb4 ok5 => ?_
        subst rb4
        cases b with
        | false => exact ⟨μ4, ph4, e2.trans (e3.trans e4), w4, ok5⟩
        | true =>
          simp only [if_true] at ok5 ⊢
          have ok6 : OutOk (bs X tbs) W (fun H' μ' => Rl X.K H' μ') μ4 H4 σ ((e (setP as (wipeP ps vs)) ph4).ne.bind fun y h => ((match h[ph1.length]? with
            | some (.lst acc) => if acc.length < 16777216 then compItems gs g t e ph1.length (wipeP ps vs) (items.drop (i + 1)) (h.set ph1.length (.lst (acc ++ [y]))) else .no
            | _ => .no)).bind fun _ h2 => .ok (.ref ph1.length) h2) Q := by
            cases et : e (setP as (wipeP ps vs)) ph4 with
            | ok b h => rw [et] at ok5; exact ok5
            | err b h => rw [et] at ok5; exact ok5
            | no => rw [et] at ok5; exact ok5
          refine ⟨μ4, _, ph4, srB.mono e4, w4, OutOk.bindN ok6 fun py ph5 μ5 H5 yv e5 w5 r5 ok7 => ?_⟩
          split at ok7
          · rename_i acc hacc
            split at ok7
            · rename_i hlt
              have hD5 : μ5[ph1.length]? = some D := (e2.trans (e3.trans (e4.trans e5))).pre _ _ atD
              obtain ⟨ws, q1, q2⟩ := w5.ob _ D _ hD5 hacc
              refine ⟨ws, q1, by rw [← q2.len, sizeLine_eq]; exact hlt, ?_⟩
              have nt : Ex μ5 H5 μ5 (upd H5 D (.lst (ws ++ [yv]))) := Ex.put q1 (by intro _ z; cases z) (by intro _ _ z; cases z)
              obtain ⟨w6, e6⟩ := w5.put (m := .lst (acc ++ [py])) hD5 (o := .lst (ws ++ [yv])) ⟨_, upd_same, (q2.snoc r5).mono nt⟩
              exact ⟨μ5, _, (e2.trans (e3.trans (e4.trans e5))).trans e6, w6, OutOk.ext ok7 e6⟩
            · exact ok7.elim
          · exact ok7.elim
  · have e3 : i = items.length := by omega
    subst e3
    refine .inl ⟨wk.stops H2 μ2 ph2 e12 w2 gOk, ?_⟩
    rw [List.drop_length] at ok2
    unfold compItems at ok2
    rw [if_pos gOk] at ok2
    exact ok2 μ2 H2 _ Ex.refl w2 (.ref (e2.pre _ _ atD))
theorem j_lc {ifs : List Expr} {scope : Scope} {own : List (Str × Nat)} {it : DI} {g : GP} {t : DT} {e : DE} (hc : X.calm = true) (hN : X.N.Nodup) (hi : JI (bs X tbs) W X tg iter it) (ok : BlkOk X.N X.env.scope scope own) (gok : GOk (own.map (·.2)) g)
    (hg : ∀ (s : Shared) (H : Hp) (C : Addr) (cl : List (Str × Addr)) (fp : List Addr), JG (X.blk s H scope (compEnvC scope cl C X.env) fp) tg g) (ht : ∀ (s : Shared) (H : Hp) (C : Addr) (cl : List (Str × Addr)) (fp : List Addr), JTs (bs X tbs) W0 (X.blk s H scope (compEnvC scope cl C X.env) fp) ifs t)
    (he : ∀ (s : Shared) (H : Hp) (C : Addr) (cl : List (Str × Addr)) (fp : List Addr), JE (bs X tbs) W0 (X.blk s H scope (compEnvC scope cl C X.env) fp) elt e) (hs : ∀ x, foldedSetIterable iter X.env x = pure x := by intro _; rfl) :
    JE (bs X tbs) W X (.ListComp elt [⟨tg, iter, ifs, 0⟩] scope pos) (eLc it g t e (own.map (·.2))) :=
  PE_imp (pe_lc (g := gD X.K g) (tt := tDT (bs X tbs) W0 t) (te := tD (bs X tbs) W0 e) hc hN hi ok hg ht he hs) fun σ H Q h => lc_ok gok h
end
end Dn
namespace Dn
open PySem PySem.Spec PyProof.Rows L2 GenW
open Sem (wp)

/-! ### tuple(a generator) -/
/-- a generator that has not begun; nothing is let out -/
def GMk (P : Program) (w : World) (k : Nat) (outer : List Env) (H : Hp) (s : Shared) (ex : List Addr) (Q : List V → Hp → Prop) (u : Value) (s' : Shared) : Prop :=
  ∃ (a : Addr) (g : Nat) (c : Code), u = .ref a ∧ s.heap.objs.size ≤ a ∧ a < s'.heap.objs.size ∧ s'.heap.IsGen a g ∧ s'.gens[g]? = some (.fresh c) ∧ s'.os = s.os ∧ AllBare s'.gens ∧ s'.heap.NoLimit ∧
    ∀ (A : Around) (S : Addr) (s2 : Shared), Room k A → A.guards = some [] → A.frames = some outer → s'.heap.objs.size ≤ S → (∀ b o, s'.heap.get? b = some o → s2.heap.get? b = some o) → (∃ c, s2.heap.get? S = some (lstObj #[] c)) → s2.os = s.os → AllBare s2.gens →
      Seg (model P w) A (REnd P w outer H s ex S a g Q (fun _ _ _ => False)) (YItem s S a g) sizeLine s2 c ((model P w).den c) [] s2
theorem Room.in2 {k : Nat} {A : Around} (r : Room (k + 1) A) : Room k A.in1 := r.in1
section
variable {P : Program} {w : World} {A : Around} {E : Value → Shared → Prop} {outer : List Env} {H : Hp} {sc s : Shared} {ex : List Addr} {Q : List V → Hp → Prop} {k : Nat} {u : Value}
theorem guards_in1 {A : Around} : A.in1.guards = A.guards := rfl
/-- what stands when it has ended -/
def Drained (P : Program) (w : World) (outer : List Env) (H : Hp) (sc : Shared) (ex : List Addr) (Q : List V → Hp → Prop) (acc : List Value) (s' : Shared) : Prop :=
  ∃ H' ys, Vals ys acc ∧ ys.length ≤ sizeLine ∧ s'.os = sc.os ∧ AllBare s'.gens ∧ Un (frs outer) ex H H' sc.heap s'.heap ∧ HOk P w H' s'.heap ∧ Q ys H'
theorem collect_drain {Q' : List Value → Shared → Prop} (hr : Room (k + 6) A) (hg : A.guards = some []) (hfr : A.frames = some outer) (h : GMk P w k outer H sc ex Q u s) (hQ : ∀ acc s', Drained P w outer H sc ex Q acc s' → Q' acc s') :
    wpAny (model P w) A (collect u) Q' E s := by
  obtain ⟨a, g, c, rfl, ha1, ha2, hgen, hgs, hos, hb, hl, wake⟩ := h
  have hSa : s.heap.objs.size ≠ a := Nat.ne_of_gt ha2
  have hcl : cStatics < s.heap.objs.size := let ⟨_, hn, _⟩ := hl; hn.lt
  have hSc : s.heap.objs.size ≠ cStatics := Nat.ne_of_gt hcl
  unfold collect
  refine wpAny_bind (wpAny_runValue (codeAny_builtin F.entry_proto_collect ?_))
  rw [Around.under_plainId F.plain_proto_collect _]
  show wpAny _ A.in1 (newList [] >>= fun l => again (.builtin "list.__iadd__" ⟨[l, .ref a], []⟩)) _ _ s
  refine wpAny_bind (wpAny_newObj_type ?_)
  refine wpAny_pure ⟨plainId_quiet F.plain_list_iadd _, codeAny_builtin F.entry_list_iadd ?_⟩
  rw [Around.under_plainId F.plain_list_iadd _]
  have gty : ∀ {h : Heap}, (∀ b o, s.heap.get? b = some o → h.get? b = some o) → h.IsGen a g := fun {h} q => hgen.keeps q
  have k1 : ∀ b o, s.heap.get? b = some o → (s.heap.push { cls := .type "list", data := .seq ([] : List Value).toArray }).get? b = some o := fun b o e => Heap.get?_push_of_some _ e
  have up : ∀ (h : Heap) (f : Obj → Obj), (∀ b o, s.heap.get? b = some o → h.get? b = some o) → ∀ b o, s.heap.get? b = some o → (h.update s.heap.objs.size f).get? b = some o := fun h f q b o e =>
    (Heap.get?_update_other _ _ (Ne.symm (Nat.ne_of_lt (Heap.lt_size e)))).trans (q b o e)
  show wpAny _ A.in1 (Builtin.List.listExtendWith (.ref s.heap.objs.size) (.ref a) (.ref s.heap.objs.size)) _ _ _
  unfold Builtin.List.listExtendWith
  refine wpAny_bind (wpAny_typeOf (Heap.IsGen.typeIs (s := { s with heap := _ }) (gty k1)) ?_)
  have h1 : Builtin.List.listSameRef (.ref s.heap.objs.size) (.ref a) = false := by simp [Builtin.List.listSameRef, hSa]
  have h2 : (Value.type "generator" == Value.type "list") = false := by decide
  have h3 : (Value.type "generator" == Value.type "tuple") = false := by decide
  simp only [h1, h2, h3, Bool.or_false, Bool.false_eq_true, if_false]
  refine wpAny_bind (wpAny_pyIter_gen (s := { s with heap := _ }) (gty k1) ?_)
  refine wpAny_bind (wpAny_holding ?_)
  unfold Builtin.List.listLengthHint
  refine wpAny_bind (wpAny_specialOf (Heap.IsGen.typeIs (s := { s with heap := _ }) (gty k1)) F.gen_no_len ?_)
  show wpAny _ A.in1 (specialOf (Value.ref a) (Str.ofString "__length_hint__") >>= _) _ _ _
  refine wpAny_bind (wpAny_specialOf (Heap.IsGen.typeIs (s := { s with heap := _ }) (gty k1)) F.gen_no_hint ?_)
  refine wpAny_pure ?_
  show wpAny _ A.in1 (rule "list.extend.makes-room" >>= fun _ => Builtin.List.listTouch (.ref s.heap.objs.size) >>= fun _ =>
    again (.builtin "list.extend.loop" ⟨[.ref s.heap.objs.size, .ref a, .ref s.heap.objs.size], []⟩)) _ _ _
  refine wpAny_bind (wpAny_rule ?_)
  have hS₁ : (s.heap.push { cls := .type "list", data := .seq ([] : List Value).toArray }).get? s.heap.objs.size = some { cls := .type "list", data := .seq ([] : List Value).toArray } := Heap.get?_push_size _ rfl
  refine wpAny_bind ?_
  show wpAny _ A.in1 (updateSeq s.heap.objs.size (·.push .none) >>= fun _ => updateSeq s.heap.objs.size (·.pop)) _ _ _
  refine wpAny_bind (wpAny_updateSeq hS₁ rfl ?_)
  have hS₂ := Heap.get?_update_self (Obj.mapSeq (·.push Value.none)) hS₁ rfl
  refine wpAny_updateSeq hS₂ rfl ?_
  have hS₃ := Heap.get?_update_self (Obj.mapSeq (·.pop)) hS₂ rfl
  have k4 := up _ (Obj.mapSeq (·.pop)) (up _ (Obj.mapSeq (·.push Value.none)) k1)
  refine wpAny_pure ⟨plainId_quiet F.plain_extend_loop _, ?_⟩
  refine drain (P := P) (w := w) (outer := outer) (H := H) (sc := sc) (ex := ex) (Q := Q) (EX := fun _ _ _ => False) (A := A) (g := g) hr.hd (by have := hr.dp; show A.depth < _; omega) hSa hSc
    (fun s' acc c H' ys q1 q2 q3 q4 q5 q6 q7 q8 q9 => ?_) (fun e s' hc => ?_) sizeLine _ (gty k4) (hl.keeps k4) ⟨_, hgs, rfl, ?_⟩
  · show wpAny _ A (load s.heap.objs.size >>= _) _ _ s'
    exact wpAny_bind (wpAny_load q1 (wpAny_pure (hQ _ s' ⟨H', ys, q2, q3, q4, q5, q6, q7, q9⟩)))
  · obtain ⟨_, _, _, _, _, _, _, _, _, _, _, _, z⟩ := hc
    exact z.elim
  · refine wake _ _ _ ⟨hr.hd, ?_, ?_⟩ hg hfr (Nat.le_refl _) k4 ⟨_, hS₃⟩ hos (allBare_setGen (s := { s with heap := _ }) hb rfl)
    · have := hr.dp
      show A.depth + 3 * k + 5 < _
      omega
    · have := hr.un
      show A.units + 1 + 1 + 16 * k + 200 < _
      omega
theorem tuple_drain {Q' : Value → Shared → Prop} (hr : Room (k + 9) A) (hg : A.guards = some []) (hfr : A.frames = some outer) (h : GMk P w k outer H sc ex Q u s)
    (hQ : ∀ (acc : List Value) s', Drained P w outer H sc ex Q acc s' → Q' (.ref s'.heap.objs.size) { s' with heap := s'.heap.push { cls := .type "tuple", data := .seq acc.toArray } }) :
    wpAny (model P w) A (call (.type "tuple") [u]) Q' E s := by
  have hty : s.TypeIs u "generator" := by
    obtain ⟨a, g, c, rfl, _, _, hgen, _⟩ := h
    exact hgen.typeIs
  have hsub := sub_tuple_self
  have hinit := init_tuple_lookup
  have hmh := madeHere_tuple
  refine callType_codes (Q₁ := fun obj s₁ => s₁.TypeIs obj "tuple" ∧ Q' obj s₁) F.called_tuple (F.typeCall_tuple_1 _) F.entry_object_init ?_ fun obj s₁ h₁ => ?_
  · refine codeAny_of_tree ?_
    show wpAny _ _ (do checkBuiltinCall "tuple.__new__" ⟨[.type "tuple", u], []⟩; again (.builtin "tuple.__new__" ⟨[.type "tuple", u], []⟩)) _ _ s
    refine wpAny_bind (wpAny_of_eq (F.newCall_tuple_1 _) (wpAny_pure ⟨plainId_quiet F.plain_tuple_new _, codeAny_builtin F.entry_tuple_new ?_⟩))
    rw [Around.under_plainId F.plain_tuple_new _]
    have hr2 : Room (k + 6) A.in1.in1 := ((hr.mono (by omega : k + 6 + 1 + 1 ≤ k + 9)).in1).in1
    have col : ∀ {Q2 : List Value → Shared → Prop} {E2 : Value → Shared → Prop}, (∀ acc s', Drained P w outer H sc ex Q acc s' → Q2 acc s') → wpAny (model P w) A.in1.in1 (collect u) Q2 E2 s := fun q => collect_drain hr2 hg hfr h q
    wp_walk using wpAny_typeOf hty, col
    intro acc s' d
    show wpAny _ _ (Builtin.Tuple.tupleExact acc.toArray >>= fun v => ret v) _ _ _
    unfold Builtin.Tuple.tupleExact
    have hz : acc.length ≤ sizeLine := by
      obtain ⟨_, ys, r, z, _⟩ := d
      rw [← r.length]
      exact z
    refine wpAny_bind (wpAny_newObj_type ?_ (by show acc.toArray.size ≤ sizeLine; rw [List.size_toArray]; exact hz))
    exact wpAny_pure ⟨⟨_, Heap.get?_push_size _ rfl, rfl⟩, hQ acc s' d⟩
  · exact ⟨h₁.1, F.args_object_init_2 obj _, object_init_meets F.called_tuple.init.lookup F.called_tuple.made (by decide) P w A.in1 _ s₁ ⟨h₁.1, rfl, h₁.2⟩⟩
end
end Dn
namespace Dn
open PySem PySem.Spec PyProof.Rows L2 GenW GxR
open Sem (wp)

/-! ### a generator expression's own frame -/
structure GenOk (N : List Str) (sc scope : Scope) (own : List (Str × Nat)) : Prop where
  kind : scope.kind = .function
  co : scope.isCoroutine = false
  cell : ∀ y ∈ scope.names, y.2 ≠ .cell
  dot : scope.names.lookup (".0" : Str) = some NameKind.local
  uniq : ∀ y ∈ scope.names, scope.names.lookup y.1 = some y.2
  ix : ∀ p ∈ own, N[p.2]? = some p.1
  free : ∀ y ∈ scope.names, y.2 = .free → sc.names.lookup y.1 = some .cell ∨ sc.names.lookup y.1 = some .free
  own : ∀ y ∈ scope.names, y.2 = .local → y.1 ∈ own.map (·.1) ∨ y.1 ∉ N
def gnkC (N : List Str) (sc scope : Scope) (own : List (Str × Nat)) : Bool :=
  decide (scope.kind = .function) && decide (scope.isCoroutine = false) && (scope.names.all fun y => decide (y.2 ≠ .cell)) && decide (scope.names.lookup (".0" : Str) = some NameKind.local) && (scope.names.all fun y => decide (scope.names.lookup y.1 = some y.2)) &&
    (own.all fun p => decide (N[p.2]? = some p.1)) && (scope.names.all fun y => decide (y.2 = .free → sc.names.lookup y.1 = some .cell ∨ sc.names.lookup y.1 = some .free)) && (scope.names.all fun y => decide (y.2 = .local → y.1 ∈ own.map (·.1) ∨ y.1 ∉ N))
theorem genOk_by {N : List Str} {sc scope : Scope} {own : List (Str × Nat)} (h : gnkC N sc scope own = true) : GenOk N sc scope own := by
  unfold gnkC at h
  simp only [Bool.and_eq_true, List.all_eq_true, decide_eq_true_eq] at h
  obtain ⟨⟨⟨⟨⟨⟨⟨h1, h2⟩, h3⟩, h4⟩, h5⟩, h6⟩, h7⟩, h8⟩ := h
  exact ⟨h1, h2, h3, h4, h5, h6, h7, h8⟩
/-- the context of its code, woken in A; s, H: the state when it was made -/
abbrev gx (X : Cx) (s : Shared) (H : Hp) (A : Around) (genv : Env) (fp : List Addr) (pn : List (Addr × Obj)) : Cx :=
  { X with s_0 := s, H_0 := H, A := A.deeper genv, env := genv, outer := X.stack, stack := genv :: X.stack, ex := fp, fn := fun _ => false, calm := true, pn := pn, xe := fun _ _ => False }
section
variable {X : Cx} {pins : List (Addr × Obj)} {σ : L2.St} {H : Hp} {s s2 : Shared} {scope : Scope} {own : List (Str × Nat)} {fp : List Addr} {pn : List (Addr × Obj)} {A : Around} {code : Value}
theorem gx_start (I : Inv X pins σ H s) (ok : GenOk X.N X.env.scope scope own) (hN : X.N.Nodup) (hfp : ∀ b ∈ fp, FpOk X pins H b ∧ b < s.heap.objs.size) (k : ∀ b o, s.heap.get? b = some o → s2.heap.get? b = some o) (hn : ∃ m, s2.heap.Ns s.heap.objs.size m) (os : s2.os = s.os) (ba : AllBare s2.gens)
    (hA : A.frames = some X.stack) (hd : A.handled = none) (hp : ∀ p ∈ pn, s2.heap.get? p.1 = some p.2 ∧ H p.1 = none ∧ p.1 ≠ s.heap.objs.size ∧ p.1 ∉ frs X.stack ∧ ∀ v, p.2.data ≠ .cell v) :
    Inv (gx X s H A (genEnv scope (cloFrom X.env.cells scope.names []) s.heap.objs.size code builtinsNs X.env) fp pn) [] (L2.wipe σ (own.map (·.2))) H s2 := by
  have hfree : ∀ y ∈ scope.names, y.2 = .free → ∃ c, X.env.cells.lookup y.1 = some c := fun y hy e => by
    rcases ok.free y hy e with k | k
    · exact I.ok.has _ (.inl k)
    · exact I.ok.has _ (.inr k)
  have cm : ∀ {y c}, (y, c) ∈ cloFrom X.env.cells scope.names [] → X.env.cells.lookup y = some c ∧ c < s.heap.objs.size := fun {y c} hm => by
    rcases cloFrom_mem hm with hm | ⟨h1, rfl⟩
    · cases hm
    · obtain ⟨c, hc⟩ := hfree _ h1 rfl
      rw [hc]
      obtain ⟨w, z⟩ := I.cell _ _ hc
      exact ⟨rfl, z.lt⟩
  have cl : ∀ {y c}, (cloFrom X.env.cells scope.names []).lookup y = some c → X.env.cells.lookup y = some c ∧ c < s.heap.objs.size := fun {y c} e => cm (PySem.mem_of_lookup e)
  have look : ∀ {y}, scope.names.lookup y = some .free → ∃ c, (cloFrom X.env.cells scope.names []).lookup y = some c ∧ X.env.cells.lookup y = some c := fun {y} hl => by
    obtain ⟨c', e'⟩ := mem_lookup (cloFrom_has (cells := X.env.cells) (acc := []) (PySem.mem_of_lookup hl))
    exact ⟨c', e', (cl e').1⟩
  refine ⟨⟨I.ok.mod, ok.kind, I.ok.glob, rfl, Nat.le_refl _, fun y z c e1 e2 => I.ok.inj y z c (cl e1).1 (cl e2).1, fun y hy => ?_, fun y c z => absurd z Bool.false_ne_true, fun _ => hd, Around.frames_deeper hA, .inr ⟨rfl, rfl⟩, fun b hb => ⟨?_, fun y c e z => ?_⟩, I.bs, Nat.le_trans I.ok.bsz I.sz, fun b o e hb => ?_, fun b hb z => ?_, I.stack, I.stkFree⟩,
    os, ba, Un.kept k, ?_, fun y c e => ?_, I.hok.fresh (Nat.le_refl _), fun y c e => I.freeC y c (cl e).1, fun p h => ?_, I.hok.kept k, by rw [wipe_length]; exact I.len⟩
  · rcases hy with hy | hy
    · exact absurd rfl (ok.cell _ (PySem.mem_of_lookup (show scope.names.lookup y = some .cell from hy)))
    · obtain ⟨c, h1, _⟩ := look (show scope.names.lookup y = some .free from hy)
      exact ⟨c, h1⟩
  · exact Nat.ne_of_lt (hfp b hb).2
  · exact (hfp b hb).1.2.2.2.2.1 y c (cl e).1 z
  · rcases (hfp b hb).1.2.2.2.1 with z | z
    · exact I.ok.noex b o e z
    · exact absurd (Nat.lt_of_lt_of_le (Heap.lt_size e) (Nat.le_trans I.ok.bsz z)) (Nat.lt_irrefl _)
  · rcases List.mem_cons.mp (I.stkSub b z) with z | z
    · exact (hfp b hb).1.2.1 z
    · exact (hfp b hb).1.2.2.1 z
  · obtain ⟨m, hm⟩ := hn
    refine ⟨m, hm, fun i y av e1 e2 e3 => ?_⟩
    obtain ⟨e2, hne⟩ := wipe_some e2
    have e3 : Vis scope y := e3
    have hfr : scope.names.lookup y = some .free := by
      rcases e3 with e3 | e3 | e3
      · rcases ok.own _ (PySem.mem_of_lookup e3) rfl with e' | e'
        · obtain ⟨p, hp, hpy⟩ := List.mem_map.mp e'
          have e4 := ok.ix p hp
          have : p.1 = y := hpy
          rw [this] at e4
          exact absurd (List.mem_map.mpr ⟨p, hp, nodup_ix hN e4 e1⟩) hne
        · exact absurd (List.mem_of_getElem? e1) e'
      · exact absurd rfl (ok.cell _ (PySem.mem_of_lookup e3))
      · exact e3
    obtain ⟨mo, hno, hl⟩ := I.loc
    have hvis : Vis X.env.scope y := (ok.free _ (PySem.mem_of_lookup hfr) rfl).elim (fun k => .inr (.inl k)) (fun k => .inr (.inr k))
    obtain ⟨w, r, q⟩ := hl i y av e1 e2 hvis
    refine ⟨w, r, .inr ⟨.inr hfr, ?_⟩⟩
    obtain ⟨c, h1, h2⟩ := look hfr
    rcases q with ⟨k', _⟩ | ⟨_, c', e', z⟩
    · have k' : X.env.scope.names.lookup y = some .local := k'
      rcases ok.free _ (PySem.mem_of_lookup hfr) rfl with k2 | k2 <;> rw [show X.env.scope.names.lookup y = _ from k2] at k' <;> cases k'
    · rw [h2] at e'
      cases e'
      exact ⟨c, h1, z.keeps k⟩
  · obtain ⟨w, z⟩ := I.cell y c (cl e).1
    exact ⟨w, z.keeps k⟩
  · have h' : p ∈ pn := by simpa using h
    exact hp p h'
end

theorem over_genS {A : Around} {elt : Expr} {gs : List Comprehension} {sc : Scope} {pos : Pos} {it acc : Value} {env : Env} : A.over (.compStart (.GeneratorExp elt gs sc pos) 0 it acc env) [] = A.deeper env := by
  first
    | rfl
    | (obtain ⟨hd, d, fr, gs, u⟩ := A; simp [Around.over, Around.deeper, marksOver, frameCount, unitsOf, envsOf, guardsOf, pushEnvs, pushGuards, Code.envs, Code.env?, Code.isFrame, Code.guards, Code.isGuard, Code.weight, Code.frames, Code.isCreation, Code.isCaller, Code.cUnits])
theorem over_genL {A : Around} {elt : Expr} {gs : List Comprehension} {sc : Scope} {pos : Pos} {it acc : Value} {env : Env} : A.over (.compLoop (.GeneratorExp elt gs sc pos) 0 it acc env) [] = A.deeper env := by
  first
    | rfl
    | (obtain ⟨hd, d, fr, gs, u⟩ := A; simp [Around.over, Around.deeper, marksOver, frameCount, unitsOf, envsOf, guardsOf, pushEnvs, pushGuards, Code.envs, Code.env?, Code.isFrame, Code.guards, Code.isGuard, Code.weight, Code.frames, Code.isCreation, Code.isCaller, Code.cUnits])
/-- what it hands out, walking J; vs: its own slots; C: what is wanted at the end -/
def GoX (J : It) (g : TG) (tt : TT) (te : TE) (vs : List Nat) (σ : L2.St) (C : List V → Hp → Prop) (W : Nat → Nat → List V → Hp → Prop) : Prop := ∀ i m ys H, W i m ys H →
  (J.stop i H ∧ C ys H) ∨ (J.go i H ∧ ∃ Nx : List V → Hp → Prop, (∀ ys' H', Nx ys' H' → ∃ m', m' < m ∧ W (i + 1) m' ys' H') ∧ ∀ x H', J.yld i H x H' → g x (L2.wipe σ vs) H' fun σ2 H2 => L2.wipe σ2 vs = L2.wipe σ vs ∧ tt σ2 H2 fun b H3 =>
    if b = true then te σ2 H3 fun y H4 => ys.length < sizeLine ∧ Nx (ys ++ [y]) H4 else Nx ys H3)
/-- its end -/
def EndX (X : Cx) (S : Addr) (C : List V → Hp → Prop) : GenEnd := fun n _ r s => r = .ok .next ∧ ∃ (ys : List V) (acc : Array Value) (c : Nat) (σ' : L2.St) (H' : Hp), n + ys.length = sizeLine ∧ Vals ys acc.toList ∧ Inv X [(S, lstObj acc c)] σ' H' s ∧ C ys H'
section
variable {X : Cx} {σ : L2.St} {s0 : Shared} {H0 : Hp} {A : Around} {genv : Env} {fp : List Addr} {pn : List (Addr × Obj)} {elt tg iter : Expr} {ifs : List Expr} {scope : Scope} {pos : Pos} {J : It} {it S : Addr} {tn : Nat → Heap → Prop} {g : TG} {tt : TT} {te : TE} {vs : List Nat} {C : List V → Hp → Prop} {W : Nat → Nat → List V → Hp → Prop}
theorem gx_loop (T : Turn X.prog X.w X.K tg J fp it tn) (hco : genv.scope.isCoroutine = false) (hSfp : ∀ b ∈ fp, b ≠ S) (hpn : ∀ p ∈ pn, p.1 ≠ S) (hpf : ∀ p ∈ pn, p.1 ∉ fp) (hA : Apart (gx X s0 H0 A genv fp pn) S)
    (hg : PG (gx X s0 H0 A genv fp pn) tg g) (ht : PTs (gx X s0 H0 A genv fp pn) ifs tt) (he : PE (gx X s0 H0 A genv fp pn) elt te) (go : GoX J g tt te vs σ C W) :
    ∀ (m n i : Nat) (ys : List V) (s₀ s : Shared) (H : Hp) (acc : Array Value) (c : Nat), n + ys.length = sizeLine → W i m ys H → Vals ys acc.toList → Inv (gx X s0 H0 A genv fp pn) [(S, lstObj acc c)] (L2.wipe σ vs) H s → tn i s.heap → (∀ b ∈ fp, H b = none) →
      Seg (model X.prog X.w) A (EndX (gx X s0 H0 A genv fp pn) S C) (GY (gx X s0 H0 A genv fp pn) S) n s₀ (.compLoop (.GeneratorExp elt [⟨tg, iter, ifs, 0⟩] scope pos) 0 (.ref it) .none genv)
        ((model X.prog X.w).den (.compLoop (.GeneratorExp elt [⟨tg, iter, ifs, 0⟩] scope pos) 0 (.ref it) .none genv)) [] s := by
  have stat : ∀ {pins' : List (Addr × Obj)} {σ' : L2.St} {H' : Hp} {s' : Shared}, Inv (gx X s0 H0 A genv fp pn) pins' σ' H' s' → (∀ p ∈ pins', p.1 ∉ fp) → (∀ b ∈ fp, H' b = none) → ∀ b ∈ fp, FpOk (gx X s0 H0 A genv fp pn) pins' H' b := fun {pins' σ' H' s'} I' hq hn b hb =>
    ⟨hn b hb, (I'.ok.exf b hb).1, I'.ok.exfs b hb, .inl hb, fun x c e => (I'.ok.exf b hb).2 x c e, fun p hp z => by
      rcases List.mem_append.mp hp with h | h
      · exact hpf p h (z ▸ hb)
      · exact hq p h (z ▸ hb)⟩
  have sOut : ∀ acc c, ∀ p ∈ [(S, lstObj acc c)], p.1 ∉ fp := fun acc c p hp hb => by
    rw [List.mem_singleton.mp hp] at hb
    exact hSfp S hb rfl
  intro m
  induction m using Nat.strongRecOn with
  | ind m ih =>
    intro n i ys s₀ s H acc c hn w r I st fr
    refine (show Seg _ A _ _ _ s₀ _ ((compTurn (.GeneratorExp elt [⟨tg, iter, ifs, 0⟩] scope pos) 0 (.ref it) .none genv).onRaise (leaving genv)) [] s from ?_)
    rw [compTurn_gen, Sem.onRaise_eq_wrap]
    refine seg_bind_wrap (wpAny_standAt (seg_bind_wrap ?_))
    rw [over_genL]
    rcases go i m ys H w with ⟨stop, hC⟩ | ⟨goes, Nx, hNx, step⟩
    · refine thn (T.done (gx X s0 H0 A genv fp pn) rfl rfl rfl rfl i _ s _ H _ I (stat I (sOut acc c) fr) st stop) fun r' s1 ⟨hr, I1⟩ => ?_
      subst hr
      exact seg_end (.ok .next) ⟨rfl, ys, acc, c, _, H, hn, r, I1, hC⟩
    · refine thn (T.item (gx X s0 H0 A genv fp pn) rfl rfl rfl rfl i _ s _ H _ I (stat I (sOut acc c) fr) st goes) fun r' s1 ⟨u, hr, h1⟩ => ?_
      subst hr
      refine seg_bind_wrap ?_
      rw [over_genL]
      refine thn h1 fun _ s2 ⟨x, H2, I2, r2, y2, st2, fr2⟩ => ?_
      have I2' := I2.pinned (stat I2 (sOut acc c) fr2) (T.obj _ _ st2)
      refine seg_bind_wrap ?_
      rw [over_genL]
      refine thnF (hg.run _ s2 _ H2 x u _ I2' r2 (step x H2 y2)) fun _ s3 ⟨σ3, H3, I3, hw3, q3⟩ => ?_
      refine seg_bind_wrap ?_
      rw [over_genL]
      refine thnF (ht.run _ s3 σ3 H3 _ I3 q3) fun b s4 ⟨H4, I4, q4⟩ => ?_
      have pin' : ∀ {pins' : List (Addr × Obj)} {σ' : L2.St} {s' : Shared} {H' : Hp}, Inv (gx X s0 H0 A genv fp pn) (pins' ++ pinsAt fp s2.heap) σ' H' s' → ∀ b ∈ fp, ∀ o, s2.heap.get? b = some o → s'.heap.get? b = some o ∧ H' b = none := fun {pins' σ' s' H'} I' b hb o e =>
        let z := I'.pin (b, o) (List.mem_append_right _ (List.mem_append_right _ (mem_pinsAt hb e)))
        ⟨z.1, z.2.1⟩
      have fin : ∀ {n' : Nat} {ys' : List V} {s₀' s' : Shared} {H' : Hp} {acc' : Array Value} {c' : Nat}, n' + ys'.length = sizeLine → Vals ys' acc'.toList → Inv (gx X s0 H0 A genv fp pn) ([(S, lstObj acc' c')] ++ pinsAt fp s2.heap) σ3 H' s' → Nx ys' H' →
          Seg (model X.prog X.w) A (EndX (gx X s0 H0 A genv fp pn) S C) (GY (gx X s0 H0 A genv fp pn) S) n' s₀' (.compLoop (.GeneratorExp elt [⟨tg, iter, ifs, 0⟩] scope pos) 0 (.ref it) .none genv) (.pure (.again (.compLoop (.GeneratorExp elt [⟨tg, iter, ifs, 0⟩] scope pos) 0 (.ref it) .none genv))) [] s' := fun {n' ys' s₀' s' H' acc' c'} hn' r' I' nx => by
        obtain ⟨m', hm, w'⟩ := hNx ys' H' nx
        have hl : (L2.wipe σ vs).length = σ3.length := by rw [← hw3, wipe_length]
        refine seg_again rfl (ih m' hm n' (i + 1) ys' s₀' s' H' acc' c' hn' w' r' ((I'.unpinned (pins := [(S, lstObj acc' c')])).weak hl fun j v e => ?_) (T.keep _ _ _ st2 fun b hb o e => (pin' I' b hb o e).1) fun b hb => ?_)
        · rw [← hw3] at e
          exact (wipe_some e).1
        · obtain ⟨o, e, _⟩ := T.obj _ _ st2 b hb
          exact (pin' I' b hb o e).2
      cases b with
      | false =>
        simp only [Bool.false_eq_true, if_false] at q4 ⊢
        exact fin hn r I4 q4
      | true =>
        simp only [if_true] at q4 ⊢
        have gives : ∀ v, yieldOut genv v = yieldValue v := fun v => by simp only [yieldOut, hco, Bool.false_eq_true, if_false]
        simp only [gives]
        rw [Sem.bind_eq_wrap', Sem.bind_eq_wrap', Sem.wrap_wrap, Sem.wrap_wrap]
        refine seg_wrap ?_
        rw [over_genL]
        refine thnF (he.run _ s4 σ3 H4 _ I4 q4) fun z s5 ⟨yv, H5, I5, r5, lt5, nx⟩ => ?_
        obtain ⟨n, rfl⟩ : ∃ k, n = k + 1 := ⟨n - 1, by omega⟩
        refine seg_at (seg_yield rfl rfl rfl ?_)
        have G5 : GI (gx X s0 H0 A genv fp pn) S (pinsAt fp s2.heap) ys σ3 H5 s5 := ⟨acc, c, r, I5⟩
        refine ⟨ys, yv, pinsAt fp s2.heap, σ3, H5, hn, r5, G5, fun s6 z6 => ?_⟩
        obtain ⟨acc6, c6, r6, I6⟩ := G5.woken hpn (fun p hp e => by
          obtain ⟨hb, _⟩ := of_pinsAt hp
          exact hSfp _ hb e) hA r5 z6
        exact fin (by rw [List.length_append, List.length_singleton]; omega) r6 I6 nx
end
end Dn
namespace Dn
open PySem PySem.Spec PyProof.Rows L2 GenW GxR
open Sem (wp)
def tGx (P : Addr) (wi : TI) (g : TG) (tt : TT) (te : TE) (vs : List Nat) : L2.St → Hp → (List V → Hp → Prop) → Prop := fun σ H C => wi σ H fun J H1 => TabG H1 P ∧ ∀ H2, Tabbed P H1 H2 → ∃ W : Nat → Nat → List V → Hp → Prop, (∃ m, W 0 m [] H2) ∧ GoX J g tt te vs σ C W
section
variable {X : Cx} {pins : List (Addr × Obj)} {σ : L2.St} {H : Hp} {s : Shared} {scope : Scope} {own : List (Str × Nat)} {elt tg iter : Expr} {ifs : List Expr} {pos : Pos} {c P : Addr} {k : Nat} {wi : TI} {g : TG} {tt : TT} {te : TE} {C : List V → Hp → Prop}
theorem gx_made {fp : List Addr} {J : It} {it : Addr} {tn : Nat → Heap → Prop} {W : Nat → Nat → List V → Hp → Prop} {code : Value} {h' : Heap} {tk : Nat} {nm qn : Value} (hN : X.N.Nodup) (S : GenOk X.N X.env.scope scope own) (I : Inv X pins σ H s) (T : Turn X.prog X.w X.K tg J fp it tn) (st : tn 0 s.heap) (hfp : ∀ b ∈ fp, FpOk X pins H b)
    (hg : ∀ (s : Shared) (H : Hp) (A : Around) (C : Addr) (cl : List (Str × Addr)) (code : Value) (fp : List Addr) (pn : List (Addr × Obj)), PG (gx X s H A (genEnv scope cl C code builtinsNs X.env) fp pn) tg g)
    (ht : ∀ (s : Shared) (H : Hp) (A : Around) (C : Addr) (cl : List (Str × Addr)) (code : Value) (fp : List Addr) (pn : List (Addr × Obj)), Pl (gx X s H A (genEnv scope cl C code builtinsNs X.env) fp pn) k → PTs (gx X s H A (genEnv scope cl C code builtinsNs X.env) fp pn) ifs tt)
    (he : ∀ (s : Shared) (H : Hp) (A : Around) (C : Addr) (cl : List (Str × Addr)) (code : Value) (fp : List Addr) (pn : List (Addr × Obj)), Pl (gx X s H A (genEnv scope cl C code builtinsNs X.env) fp pn) k → PE (gx X s H A (genEnv scope cl C code builtinsNs X.env) fp pn) elt te)
    (w0 : ∃ m, W 0 m [] H) (go : GoX J g tt te (own.map (·.2)) σ C W)
    (hn' : ∃ m, h'.Ns s.heap.objs.size m) (same : Heap.SameBut s.heap.objs.size (s.heap.push { cls := .type "frame", data := .dict #[] }) h') :
    GMk X.prog X.w (k + 1) X.stack H s fp C (.ref h'.objs.size) { s with gens := s.gens.push (.fresh (.compStart (.GeneratorExp elt [⟨tg, iter, ifs, 0⟩] scope pos) 0 (.ref it) .none (genEnv scope (cloFrom X.env.cells scope.names []) s.heap.objs.size code builtinsNs X.env))), toks := tk, heap := h'.push { cls := .type "generator", data := .fields #[.int s.gens.size 0, nm, qn] } } := by
  have size5 : h'.objs.size = s.heap.objs.size + 1 := by rw [same.1, Heap.size_push]
  have old5 : ∀ b o, s.heap.get? b = some o → h'.get? b = some o := fun b o e => same.extBut b o (Nat.ne_of_lt (Heap.lt_size e)) (Heap.get?_push_of_some _ e)
  have old6 : ∀ b o, s.heap.get? b = some o → (h'.push { cls := .type "generator", data := .fields #[.int s.gens.size 0, nm, qn] }).get? b = some o := fun b o e => Heap.get?_push_of_some _ (old5 b o e)
  have gAt : (h'.push { cls := .type "generator", data := .fields #[.int s.gens.size 0, nm, qn] }).get? h'.objs.size = some { cls := .type "generator", data := .fields #[.int s.gens.size 0, nm, qn] } := Heap.get?_push_size _ rfl
  refine ⟨h'.objs.size, s.gens.size, _, rfl, by omega, by show _ < (h'.push _).objs.size; rw [Heap.size_push]; exact Nat.lt_succ_self _, ⟨_, _, _, gAt, rfl, rfl, rfl⟩, Array.getElem?_push_size .., rfl, AllBare.push I.bare rfl, I.nolimit.keeps old6, ?_⟩
  intro A Sx s2 hrw hgd hfr hSx hk2 hSo hos hba
  have keep2 : ∀ b o, s.heap.get? b = some o → s2.heap.get? b = some o := fun b o e => hk2 b o (old6 b o e)
  have sz : ∀ b ∈ fp, b < s.heap.objs.size := fun b hb => by
    obtain ⟨o, e, _⟩ := T.obj _ _ st b hb
    exact Heap.lt_size e
  have hSx2 : h'.objs.size < Sx := by
    have z : (h'.push { cls := .type "generator", data := .fields #[.int s.gens.size 0, nm, qn] }).objs.size ≤ Sx := hSx
    rw [Heap.size_push] at z
    exact z
  have hSs : s.heap.objs.size < Sx := Nat.lt_trans (by rw [size5]; exact Nat.lt_succ_self _) hSx2
  obtain ⟨cS, heS⟩ := hSo
  have young : ∀ b, s.heap.objs.size ≤ b → H b = none ∧ b ∉ frs X.stack := fun b hb => by
    refine ⟨I.hok.fresh hb, fun hm => ?_⟩
    rcases List.mem_cons.mp (I.stkSub b hm) with z | z
    · rw [z] at hb
      exact absurd (Nat.lt_of_lt_of_le I.lt hb) (Nat.lt_irrefl _)
    · exact I.nofs hb z
  have gAt2 := hk2 _ _ gAt
  have nsL : ∃ m, s2.heap.Ns s.heap.objs.size m := by
    obtain ⟨m, hm⟩ := hn'
    exact ⟨m, (hm.push _).keeps hk2⟩
  have I2 := gx_start (A := A) (code := code) (pn := [(h'.objs.size, { cls := .type "generator", data := .fields #[.int s.gens.size 0, nm, qn] })]) (s2 := s2) I S hN (fun b hb => ⟨hfp b hb, sz b hb⟩) keep2 nsL hos hba hfr hrw.hd (fun p hp => by
    rw [List.mem_singleton.mp hp]
    obtain ⟨y1, y2⟩ := young h'.objs.size (by omega)
    exact ⟨gAt2, y1, by show h'.objs.size ≠ _; omega, y2, fun v q => by cases q⟩)
  generalize hge : genEnv scope (cloFrom X.env.cells scope.names []) s.heap.objs.size code builtinsNs X.env = genv at I2 ⊢
  generalize hgo : ({ cls := .type "generator", data := .fields #[.int s.gens.size 0, nm, qn] } : Obj) = gob at I2 gAt gAt2 hk2 ⊢
  have hgoc : gob.cls = .type "generator" := by rw [← hgo]
  have hgod : gob.data = .fields #[.int s.gens.size 0, nm, qn] := by rw [← hgo]
  have hgos : gob.slots = #[] := by rw [← hgo]
  have pl : Pl (gx X s H A genv fp [(h'.objs.size, gob)]) k := ⟨hrw.deeper _, guards_deeper.trans hgd⟩
  have pg : PG (gx X s H A genv fp [(h'.objs.size, gob)]) tg g := by rw [← hge]; exact hg ..
  have pt : PTs (gx X s H A genv fp [(h'.objs.size, gob)]) ifs tt := by rw [← hge]; exact ht _ _ _ _ _ _ _ _ (by rw [hge]; exact pl)
  have pe : PE (gx X s H A genv fp [(h'.objs.size, gob)]) elt te := by rw [← hge]; exact he _ _ _ _ _ _ _ _ (by rw [hge]; exact pl)
  have locE : genv.locals = s.heap.objs.size := by rw [← hge]; rfl
  have coE : genv.scope.isCoroutine = false := by rw [← hge]; exact S.co
  have celE : genv.cells = cloFrom X.env.cells scope.names [] := by rw [← hge]; rfl
  have cellLt : ∀ y d, genv.cells.lookup y = some d → d < s.heap.objs.size := fun y d e => by
    rw [celE] at e
    rcases cloFrom_mem (PySem.mem_of_lookup e) with hm | ⟨h1, rfl⟩
    · cases hm
    · have hc : ∃ c, X.env.cells.lookup y = some c := by
        rcases S.free _ h1 rfl with k | k
        · exact I.ok.has _ (.inl k)
        · exact I.ok.has _ (.inr k)
      obtain ⟨d, hc⟩ := hc
      rw [hc]
      obtain ⟨w, z⟩ := I.cell _ _ hc
      exact z.lt
  have apart : Apart (gx X s H A genv fp [(h'.objs.size, gob)]) Sx := ⟨Nat.le_of_lt hSs, by show Sx ≠ genv.locals; rw [locE]; exact Nat.ne_of_gt hSs, fun y d e z => by
    have q := cellLt y d e
    rw [z] at q
    exact Nat.lt_irrefl _ (Nat.lt_trans q hSs)⟩
  have hpn : ∀ p ∈ [(h'.objs.size, gob)], p.1 ≠ Sx := fun p hp => by
    rw [List.mem_singleton.mp hp]
    exact Nat.ne_of_lt hSx2
  have hpf : ∀ p ∈ [(h'.objs.size, gob)], p.1 ∉ fp := fun p hp hb => by
    rw [List.mem_singleton.mp hp] at hb
    have q := sz _ hb
    have q2 : h'.objs.size < s.heap.objs.size := q
    rw [size5] at q2
    exact Nat.lt_irrefl _ (Nat.lt_trans (Nat.lt_succ_self _) q2)
  have I3 : Inv (gx X s H A genv fp [(h'.objs.size, gob)]) [(Sx, lstObj #[] cS)] (L2.wipe σ (own.map (·.2))) H s2 := I2.pins_of fun p hp => by
    rw [List.mem_singleton.mp hp]
    obtain ⟨y1, y2⟩ := young Sx (Nat.le_of_lt hSs)
    exact ⟨heS, y1, by show Sx ≠ genv.locals; rw [locE]; exact Nat.ne_of_gt hSs, y2, fun v q => by cases q⟩
  have st2 : tn 0 s2.heap := T.keep _ _ _ st fun b _ o e => keep2 b o e
  obtain ⟨m0, w0⟩ := w0
  have loop := gx_loop (pos := pos) (iter := iter) (scope := scope) T coE (fun b hb z => by
    have q := sz b hb
    rw [z] at q
    exact Nat.lt_irrefl _ (Nat.lt_trans q hSs)) hpn hpf apart pg pt pe go m0 sizeLine 0 [] s2 s2 H #[] cS (Nat.add_zero _) w0 .nil I3 st2 (fun b hb => (hfp b hb).1)
  have pinned : ∀ {ip : List (Addr × Obj)} {ys : List V} {s' : Shared} {σ' : L2.St} {H' : Hp}, GI (gx X s H A genv fp [(h'.objs.size, gob)]) Sx ip ys σ' H' s' → s'.heap.IsGen h'.objs.size s.gens.size := fun {ip ys s' σ' H'} hI => by
    obtain ⟨acc, cc, _, J⟩ := hI
    exact ⟨gob, nm, qn, (J.pin (h'.objs.size, gob) (List.mem_append_left _ (List.mem_singleton.mpr rfl))).1, hgoc, hgod, hgos⟩
  refine seg_imp (R := EndX (gx X s H A genv fp [(h'.objs.size, gob)]) Sx C) (Y := GY (gx X s H A genv fp [(h'.objs.size, gob)]) Sx) (fun n s₀ r s1' hR => ?_) (fun n s₀ v s1' kap kap' hkk hY => ?_) sizeLine ?_
  · obtain ⟨hr, ys, acc, cc, σ', H', hn, rv, J, hC⟩ := hR
    obtain ⟨z1, z2, _⟩ := J.pin (Sx, lstObj acc cc) (List.mem_append_right _ (List.mem_singleton.mpr rfl))
    exact .inl ⟨.inr hr, H', ys, acc, cc, J.os, J.bare, J.base, J.hok, z2, z1, rv, by omega, hC⟩
  · obtain ⟨ys, xx, ip, σ', H', hn, h2, hI, h3⟩ := hY
    obtain ⟨_, _, _, acc, cc, ra, ea⟩ := hI.at
    have hg := pinned hI
    obtain ⟨_, _, _, J⟩ := hI
    have hsz : acc.size = ys.length := by
      have e1 := ra.length
      have e2 : acc.toList.length = acc.size := by simp
      omega
    exact ⟨J.os, J.bare, J.nolimit, hg, ⟨acc, cc, ea, by rw [hsz]; exact hn⟩, fun s' z => hkk _ _ (h3 s' z)⟩
  · refine (show Seg _ A _ _ _ s2 _ ((compStart (.GeneratorExp elt [⟨tg, iter, ifs, 0⟩] scope pos) 0 (.ref it) .none genv).onRaise (leaving genv)) [] s2 from ?_)
    unfold compStart
    rw [Sem.onRaise_eq_wrap]
    refine (show Seg _ A _ _ _ s2 _ ((ask >>= _).wrap _ _ _ _) [] s2 from seg_bind_wrap (wpAny_askSetting ?_))
    split
    · exact seg_again rfl loop
    · refine seg_bind_wrap (wpAny_rule ?_)
      refine (show Seg _ A _ _ _ s2 _ ((standAt iter.pos >>= _).wrap _ _ _ _) [] s2 from ?_)
      exact seg_bind_wrap (wpAny_standAt (seg_bind_wrap (T.self _ 0 s2 _ _ st2 (seg_again rfl loop))))
end
end Dn
namespace Dn
open PySem PySem.Spec PyProof.Rows L2 GenW GxR
open Sem (wp)
def tTupX (P : Addr) (wi : TI) (g : TG) (tt : TT) (te : TE) (vs : List Nat) : TE := fun σ H Q => tGx P wi g tt te vs σ H fun ys H2 => ys.length ≤ sizeLine → ∀ p, H2 p = none → Q (.ref p) (upd H2 p (.tup ys))
section
variable {X : Cx} {scope : Scope} {own : List (Str × Nat)} {elt tg iter : Expr} {ifs : List Expr} {gpos q0 q3 : Pos} {c P : Addr} {k : Nat} {wi : TI} {g : TG} {tt : TT} {te : TE}
theorem pe_tupX (pl : Pl X (k + 10)) (hg0 : Gl X "tuple") (hm : X.mg "tuple" = none) (TB : TabB X.base X.mg c P) (hcode : X.env.code = .ref c) (hN : X.N.Nodup) (S : GenOk X.N X.env.scope scope own) (hi : PI X tg iter wi)
    (hg : ∀ (s : Shared) (H : Hp) (A : Around) (C : Addr) (cl : List (Str × Addr)) (code : Value) (fp : List Addr) (pn : List (Addr × Obj)), PG (gx X s H A (genEnv scope cl C code builtinsNs X.env) fp pn) tg g)
    (ht : ∀ (s : Shared) (H : Hp) (A : Around) (C : Addr) (cl : List (Str × Addr)) (code : Value) (fp : List Addr) (pn : List (Addr × Obj)), Pl (gx X s H A (genEnv scope cl C code builtinsNs X.env) fp pn) k → PTs (gx X s H A (genEnv scope cl C code builtinsNs X.env) fp pn) ifs tt)
    (he : ∀ (s : Shared) (H : Hp) (A : Around) (C : Addr) (cl : List (Str × Addr)) (code : Value) (fp : List Addr) (pn : List (Addr × Obj)), Pl (gx X s H A (genEnv scope cl C code builtinsNs X.env) fp pn) k → PE (gx X s H A (genEnv scope cl C code builtinsNs X.env) fp pn) elt te)
    (hs : ∀ v, genFold iter X.env v = pure v := by intro _; rfl)
    (hst : starEach [.GeneratorExp elt [⟨tg, iter, ifs, 0⟩] scope gpos] X.env = (false, eval (.GeneratorExp elt [⟨tg, iter, ifs, 0⟩] scope gpos) X.env) :: starEach [] X.env := by rfl) :
    PE X (.Call (.Name "tuple" q0) [.GeneratorExp elt [⟨tg, iter, ifs, 0⟩] scope gpos] [] q3) (tTupX P wi g tt te (own.map (·.2))) := by
  refine ⟨fun pins s σ H Q I h => ?_⟩
  have hfree : ∀ y ∈ scope.names, y.2 = .free → ∃ c, X.env.cells.lookup y.1 = some c := fun y hy e => by
    rcases S.free y hy e with k | k
    · exact I.ok.has _ (.inl k)
    · exact I.ok.has _ (.inr k)
  have room := pl.room
  refine wpAny_Call_Name_kw (ld_blt I hg0 hm PyProof.Rows.boot_tuple ?_)
  refine PyProof.Rows.callWith_type1 ?_ hst (by rfl)
  rw [hst]
  refine (show wpAny _ _ (spliced ((false, eval (.GeneratorExp elt [⟨tg, iter, ifs, 0⟩] scope gpos) X.env) :: backTo q3 (starEach [] X.env))) _ _ s from ?_)
  refine Calls.spliced_cons (wpAny_GeneratorExp_make S.co (closure_ok hfree) S.cell S.dot S.kind room.depth ?_ hs)
  refine thn (hi.run pins s σ H _ I h) fun v s1 hx => thn hx fun itv s2 h2 => ?_
  obtain ⟨it, fp, tn, J, H1, eit, I2, T, st2, f2, ⟨ps, hP, triples⟩, q⟩ := h2
  subst eit
  refine ⟨I2.nolimit, ?_⟩
  have P2 : s2.heap.get? P = some { cls := .none, data := .fields ps } := I2.hok P _ hP
  have cd : PySem.W.CodeHd s2.heap c P := TB.code.keeps fun b o look => I2.bk b o look
  have nfP : ∀ b ∈ fp, b ≠ P := fun b hb z => by
    have := (f2 b hb).1
    rw [z, hP] at this
    cases this
  have behind : ∀ (code : Value) (h3 : Heap) (tk : Nat) (ps3 : Array Value), Heap.ExtBut P s2.heap h3 → h3.get? P = some { cls := .none, data := .fields ps3 } → (∃ more, ps3 = ps ++ more) → TriplesOk ps3.toList →
      wpAny (model X.prog X.w) X.A (builtinsFor X.env.globals X.env.builtins) (fun bi s₄ => ∀ h', h'.Ns s₄.heap.objs.size (fun y => if y = ".0" then some (.ref it) else none) → Heap.SameBut s₄.heap.objs.size (s₄.heap.push { cls := .type "frame", data := .dict #[] }) h' →
          wpAny (model X.prog X.w) X.A (spliced (backTo q3 (starEach [] X.env))) (fun vs s₂ => wpAny (model X.prog X.w) X.A (call (Value.type "tuple") (Value.ref h'.objs.size :: vs)) (EP X pins σ Q) X.xe s₂) X.xe { s₄ with
            gens := s₄.gens.push (.fresh (.compStart (.GeneratorExp elt [⟨tg, iter, ifs, 0⟩] scope gpos) 0 (.ref it) .none (genEnv scope (cloFrom X.env.cells scope.names []) s₄.heap.objs.size code bi X.env))),
            toks := s₄.toks + 1 + 1 + 1,
            heap := h'.push { cls := .type "generator", data := .fields #[.int s₄.gens.size 0, .str "<genexpr>" (s₄.toks + 1), .str (X.env.qual ++ "<genexpr>") (s₄.toks + 1 + 1)] } }) X.xe { s2 with heap := h3, toks := tk } := by
    intro code h3 tk ps3 ext P3 more3 triples3
    obtain ⟨more, em⟩ := more3
    obtain ⟨bm, ob, b1, b2, b3, b4, b5, b6, b7, b8⟩ := TB.bm
    have keep3 : ∀ b o, b ≠ P → s2.heap.get? b = some o → h3.get? b = some o := fun b o nb look => ext b o nb look
    have I3 : Inv X pins σ (upd H1 P (.tbl (ps ++ more))) { s2 with heap := h3, toks := tk } := inv_tab (g' := s2.gens) (d' := s2.drawn) (t' := tk) I2 hP keep3 (by rw [← em]; exact P3) I2.bare
    refine wpAny_builtinsFor (m := X.mg) (by rw [I2.ok.glob]; exact (I2.mod.glob.keeps I2.bk).extBut ext TB.gP) b1 b2 (keep3 _ _ b4 (I2.bk _ _ b5)) b6 b7 b8 ?_
    intro h' hn same
    have f3 : ∀ b ∈ fp, FpOk X pins (upd H1 P (.tbl (ps ++ more))) b := fun b hb => ⟨by rw [upd_ne (nfP b hb)]; exact (f2 b hb).1, (f2 b hb).2⟩
    have st3 : tn 0 h3 := T.keep _ _ _ st2 fun b hb o e => keep3 b o (nfP b hb) e
    obtain ⟨W, w0, go⟩ := q (upd H1 P (.tbl (ps ++ more))) ⟨⟨ps ++ more, upd_same, by rw [← em]; exact triples3⟩, fun b hb => upd_ne hb⟩
    have made := gx_made (iter := iter) (pos := gpos) (code := code) (tk := tk + 1 + 1 + 1) (nm := .str "<genexpr>" (tk + 1)) (qn := .str (X.env.qual ++ "<genexpr>") (tk + 1 + 1)) hN S I3 T st3 f3 hg ht he w0 go ⟨_, hn⟩ same
    refine Calls.spliced_nil (tuple_drain (room.mono (by omega)) pl.gd I3.ok.frames made fun acc s6 d => ?_)
    obtain ⟨H6, ys, rv, hz, os6, ba6, un6, ok6, hC⟩ := d
    have I6 : Inv X pins σ H6 s6 := I3.call' (ch := fp) os6 un6 ok6 ba6 fun b hb => ⟨(f3 b hb).2.2.2.1, (f3 b hb).2.1, (f3 b hb).2.2.2.2.1, (f3 b hb).2.2.2.2.2⟩
    exact ⟨.ref s6.heap.objs.size, upd H6 s6.heap.objs.size (.tup ys), I6.laid (t' := s6.toks) (fun b o look => Heap.get?_push_of_some _ look) (Nat.le_refl _) ⟨hz, acc, rv, ⟨_, Heap.get?_push_size _ rfl, rfl, _, rfl⟩⟩, rfl, hC hz _ (I6.hok.fresh (Nat.le_refl _))⟩
  cases hf : codeAmong gpos ps.toList with
  | none =>
    refine wpAny_genexprCodeX hcode (cd.code P2 triples) (cd.tab P2) hf fun c2 h3 tk ext ge lt isC _ isT _ => ?_
    obtain ⟨o1, v1, m1, m2, m3, m4, m5, m6, m7, m8, _, _, _, _, _, _, _, _, _, tr3, _⟩ := isC
    exact behind _ h3 tk _ ext isT.2 ⟨_, rfl⟩ tr3
  | some cv =>
    refine wpAny_genexprCode_hit hcode (cd.code P2 triples) hf ?_
    exact behind cv s2.heap s2.toks ps (Heap.ExtBut.refl _ _) P2 ⟨#[], by simp⟩ triples
end

/-! ### the same, on values without addresses -/
def genItems (gs : List (Nat × List PV)) (g : GP) (t : DT) (e : DE) (s : Sl) : List PV → List PV → PH → Out (List PV)
  | [], acc, h => if okG gs h then .ok acc h else .no
  | x :: r, acc, h => if okG gs h then match g x with
      | some as => (t (setP as s) h).ne.bind fun b h => if b = true then (e (setP as s) h).ne.bind fun y h =>
          if acc.length < 16777216 then genItems gs g t e s r (acc ++ [y]) h else .no
        else genItems gs g t e s r acc h
      | none => .no
    else .no
def eTupX (it : DI) (g : GP) (t : DT) (e : DE) (vs : List Nat) : DE := fun s h => (it s h).bind fun p h => (genItems p.1 g t e (wipeP s vs) p.2 [] h).bind fun acc h => .ok (.tup acc) h
section
variable {tbs : List Addr} {W : WX} {X : Cx} {tg iter elt : Expr} {pos : Pos}
theorem Wd.tabbed {K : PySem.W.Frag} {μ : List Addr} {ph : PH} {H H' : Hp} {P : Addr} (w : Wd K tbs μ ph H) (hP : P ∈ tbs) (t : Tabbed P H H') : Ex μ H μ H' ∧ Wd K tbs μ ph H' := by
  obtain ⟨ps, h1, _⟩ := w.tb P hP
  have e : Ex μ H μ H' := ⟨fun _ _ h => h, fun a xs h => by
    rw [t.2 a fun z => by rw [z, h1] at h; cases h]
    exact h, fun a o u h => by
    rw [t.2 a fun z => by rw [z, h1] at h; cases h]
    exact h⟩
  refine ⟨e, w.len, w.nd, fun n a o q1 q2 => ?_, fun Q hQ => ?_⟩
  · have r := w.ob n a o q1 q2
    refine r.frame e (t.2 a fun z => ?_)
    obtain ⟨u, hu, _, _, nb⟩ := r.there
    rw [z, h1] at hu
    exact nb _ (Option.some.inj hu).symm
  · by_cases z : Q = P
    · rw [z]
      exact t.1
    · obtain ⟨qs, q1, q2⟩ := w.tb Q hQ
      exact ⟨qs, by rw [t.2 Q z]; exact q1, q2⟩
theorem tupX_ok {P : Addr} {it : DI} {g : GP} {t : DT} {e : DE} {vs : List Nat} {σ : L2.St} {H : Hp} {Q : VK} (hP : P ∈ tbs) (gok : GOk vs g) (h : tD (bs X tbs) W (eTupX it g t e vs) σ H Q) :
    tTupX P (tDI (bs X tbs) W it) (gD X.K g) (tDT (bs X tbs) W0 t) (tD (bs X tbs) W0 e) vs σ H Q := by
  obtain ⟨μ, ps, ph, sr, wd, ok⟩ := h
  refine ⟨μ, ps, ph, sr, wd, OutOk.bind ok fun its ph1 μ1 H1 J e1 w1 wk ok1 => ⟨w1.tb P hP, fun H2 tb => ?_⟩⟩
  obtain ⟨gs, items⟩ := its
  dsimp only at wk ok1
  obtain ⟨x0, w0⟩ := w1.tabbed hP tb
  have ok2 := OutOk.ext ok1 x0
  refine ⟨fun i m ys H => m = items.length - i ∧ i ≤ items.length ∧ ∃ μ ph acc, Ex μ1 H1 μ H ∧ Wd X.K tbs μ ph H ∧ Rls X.K H μ acc ys ∧ OutOk (bs X tbs) W (fun H' μ' => Rl X.K H' μ') μ H σ ((genItems gs g t e (wipeP ps vs) (items.drop i) acc ph).bind fun acc h => .ok (.tup acc) h) Q,
    ⟨items.length, by simp, Nat.zero_le _, _, _, [], x0, w0, .nil, ok2⟩, ?_⟩
  rintro i m ys H3 ⟨rfl, hi, μ2, ph2, acc, e12, w2, ra, ok2⟩
  have gOk : okG gs ph2 = true := by
    cases hz : okG gs ph2 with
    | true => rfl
    | false =>
      cases hd : items.drop i with
      | nil =>
        rw [hd] at ok2
        unfold genItems at ok2
        rw [hz] at ok2
        exact ok2.elim
      | cons x r =>
        rw [hd] at ok2
        unfold genItems at ok2
        rw [hz] at ok2
        exact ok2.elim
  by_cases lt : i < items.length
  · refine .inr ⟨wk.goes i H3 μ2 ph2 lt e12 w2 gOk, _, fun ys' H' h => ⟨items.length - (i + 1), by omega, rfl, lt, h⟩, fun x H' y => ?_⟩
    obtain ⟨px, hx, e3, w3, r3⟩ := wk.yields i H3 μ2 ph2 x H' lt e12 w2 gOk y
    have hd : items.drop i = px :: items.drop (i + 1) := by
      rw [List.drop_eq_getElem_cons lt]
      rw [List.getElem?_eq_getElem lt] at hx
      cases hx
      rfl
    rw [hd] at ok2
    unfold genItems at ok2
    rw [if_pos gOk] at ok2
    cases eg : g px with
    | none =>
      rw [eg] at ok2
      exact ok2.elim
    | some as =>
      rw [eg] at ok2
      dsimp only at ok2
      refine ⟨μ2, px, r3, as, eg, fun bs' rb => ⟨?_, μ2, setP as (wipeP ps vs), ph2, ((sr.mono (e1.trans (e12.trans e3))).wipe vs).sets rb, w3, ?_⟩⟩
      · rw [wipe_sets (rb.slots (gok _ _ eg)), wipe_wipe]
      · have ok3 := OutOk.ext ok2 e3
        have srB := ((sr.mono (e1.trans (e12.trans e3))).wipe vs).sets rb
        have ok4 : OutOk (bs X tbs) W (fun H' μ' => Rl X.K H' μ') μ2 H' σ ((t (setP as (wipeP ps vs)) ph2).ne.bind fun b h => ((if b = true then (e (setP as (wipeP ps vs)) h).ne.bind fun y h =>
            if acc.length < 16777216 then genItems gs g t e (wipeP ps vs) (items.drop (i + 1)) (acc ++ [y]) h else .no
          else genItems gs g t e (wipeP ps vs) (items.drop (i + 1)) acc h)).bind fun acc h => .ok (.tup acc) h) Q := by
          cases et : t (setP as (wipeP ps vs)) ph2 with
          | ok b h => rw [et] at ok3; exact ok3
          | err b h => rw [et] at ok3; exact ok3
          | no => rw [et] at ok3; exact ok3
        refine OutOk.bindN ok4 fun b ph4 μ4 H4 c e4 w4 rb4 ok5 => ?_
        subst rb4
        cases b with
        | false => exact ⟨μ4, ph4, acc, e12.trans (e3.trans e4), w4, ra.mono (e3.trans e4), ok5⟩
        | true =>
          simp only [if_true] at ok5 ⊢
          have ok6 : OutOk (bs X tbs) W (fun H' μ' => Rl X.K H' μ') μ4 H4 σ ((e (setP as (wipeP ps vs)) ph4).ne.bind fun y h => ((if acc.length < 16777216 then genItems gs g t e (wipeP ps vs) (items.drop (i + 1)) (acc ++ [y]) h else .no)).bind fun acc h => .ok (.tup acc) h) Q := by
            cases et : e (setP as (wipeP ps vs)) ph4 with
            | ok b h => rw [et] at ok5; exact ok5
            | err b h => rw [et] at ok5; exact ok5
            | no => rw [et] at ok5; exact ok5
          refine ⟨μ4, _, ph4, srB.mono e4, w4, OutOk.bindN ok6 fun py ph5 μ5 H5 yv e5 w5 r5 ok7 => ?_⟩
          split at ok7
          · rename_i hlt
            have ra5 := ra.mono (e3.trans (e4.trans e5))
            exact ⟨by rw [← ra5.len, sizeLine_eq]; exact hlt, μ5, ph5, acc ++ [py], e12.trans (e3.trans (e4.trans e5)), w5, ra5.snoc r5, ok7⟩
          · exact ok7.elim
  · have e3 : i = items.length := by omega
    subst e3
    refine .inl ⟨wk.stops H3 μ2 ph2 e12 w2 gOk, fun hz p hp => ?_⟩
    rw [List.drop_length] at ok2
    unfold genItems at ok2
    rw [if_pos gOk] at ok2
    obtain ⟨a1, a2, a3⟩ := w2.newTup ra hp
    exact ok2 _ _ _ a1 a2 a3
theorem j_tupX {P c : Addr} {ifs : List Expr} {scope : Scope} {own : List (Str × Nat)} {it : DI} {g : GP} {t : DT} {e : DE} {q0 q3 gpos : Pos} {k : Nat} (pl : Pl X (k + 10)) (hg0 : Gl X "tuple") (hm : X.mg "tuple" = none) (TB : TabB X.base X.mg c P) (hP : P ∈ tbs) (hcode : X.env.code = .ref c) (hN : X.N.Nodup)
    (S : GenOk X.N X.env.scope scope own) (hi : JI (bs X tbs) W X tg iter it) (gok : GOk (own.map (·.2)) g)
    (hg : ∀ (s : Shared) (H : Hp) (A : Around) (C : Addr) (cl : List (Str × Addr)) (code : Value) (fp : List Addr) (pn : List (Addr × Obj)), JG (gx X s H A (genEnv scope cl C code builtinsNs X.env) fp pn) tg g)
    (ht : ∀ (s : Shared) (H : Hp) (A : Around) (C : Addr) (cl : List (Str × Addr)) (code : Value) (fp : List Addr) (pn : List (Addr × Obj)), Pl (gx X s H A (genEnv scope cl C code builtinsNs X.env) fp pn) k → JTs (bs X tbs) W0 (gx X s H A (genEnv scope cl C code builtinsNs X.env) fp pn) ifs t)
    (he : ∀ (s : Shared) (H : Hp) (A : Around) (C : Addr) (cl : List (Str × Addr)) (code : Value) (fp : List Addr) (pn : List (Addr × Obj)), Pl (gx X s H A (genEnv scope cl C code builtinsNs X.env) fp pn) k → JE (bs X tbs) W0 (gx X s H A (genEnv scope cl C code builtinsNs X.env) fp pn) elt e)
    (hs : ∀ v, genFold iter X.env v = pure v := by intro _; rfl)
    (hst : starEach [.GeneratorExp elt [⟨tg, iter, ifs, 0⟩] scope gpos] X.env = (false, eval (.GeneratorExp elt [⟨tg, iter, ifs, 0⟩] scope gpos) X.env) :: starEach [] X.env := by rfl) :
    JE (bs X tbs) W X (.Call (.Name "tuple" q0) [.GeneratorExp elt [⟨tg, iter, ifs, 0⟩] scope gpos] [] q3) (eTupX it g t e (own.map (·.2))) :=
  PE_imp (pe_tupX (g := gD X.K g) (tt := tDT (bs X tbs) W0 t) (te := tD (bs X tbs) W0 e) pl hg0 hm TB hcode hN S hi hg ht he hs hst) fun σ H Q h => tupX_ok hP gok h
end
end Dn
namespace Rw
open PySem PySem.Spec PyProof.Rows L2 GxR
/-! ### x in t, data of any depth in a tuple -/
section
variable {X : Cx}
def rInRp : R2 := fun x y H Q => ∃ (av av' : Addr → Prop) (d : PyData) (ds : List PyData), Rp av' H x d ∧ Rp av H y (.tuple ds) ∧ d.canLay0 = true ∧ PyData.canLayAll0 ds = true ∧ d.depth ≤ 64 ∧ Q (.bl (ds.any fun z => PyData.eqv z d)) H
theorem op_inRp (hu : X.A.units + 65 < cLine) : OpR X (compareOp .In) rInRp := by
  intro pins s σ H x y v u Q I rx ry h
  obtain ⟨av, av', d, ds, hd, he, sd, se, dp, q⟩ := h
  obtain ⟨as, r1, _⟩ := hd.reads I d x v rx
  obtain ⟨bs, r2, _⟩ := he.reads I (.tuple ds) y u ry
  exact SeqAt.in_tuple_reads r2 r1 se sd (by have := Nat.min_le_right (PyData.depthAll ds) d.depth; omega) ⟨.bl _, H, I, rfl, q⟩
end
def hasIn (st : List (Bool × Int)) (r : Int) : Bool := st.any fun p => decide (p = (true, r))
theorem eqv_step (p : Bool × Int) (r : Int) : PyData.eqv (stepD p) (.tuple [.str "in", .int r]) = decide (p = (true, r)) := by
  obtain ⟨b, i⟩ := p
  cases b with
  | true =>
    show ((("in" : Str) == ("in" : Str)) && ((i == r) && true)) = _
    rw [beq_self_eq_true, Bool.true_and, Bool.and_true]
    by_cases h : i = r
    · subst h
      simp
    · have : ¬ ((true, i) = (true, r)) := fun z => h (Prod.mk.inj z).2
      rw [decide_eq_false this]
      simpa using h
  | false =>
    show ((("out" : Str) == ("in" : Str)) && ((i == r) && true)) = _
    have e : (("out" : Str) == ("in" : Str)) = false := by decide +kernel
    rw [e, Bool.false_and]
    have : ¬ ((false, i) = (true, r)) := fun z => by cases (Prod.mk.inj z).1
    rw [decide_eq_false this]
theorem any_steps (st : List (Bool × Int)) (r : Int) : ((st.map stepD).any fun z => PyData.eqv z (.tuple [.str "in", .int r])) = hasIn st r := by
  rw [List.any_map]
  unfold hasIn
  congr 1
  funext p
  exact eqv_step p r
theorem lay_steps : ∀ st : List (Bool × Int), PyData.canLayAll0 (st.map stepD) = true
  | [] => rfl
  | p :: r => by
    rw [List.map_cons, PyData.canLayAll0, lay_steps r]
    simp only [stepD, PyData.canLay0, PyData.canLayAll0, Bool.and_true]
    split <;> decide +kernel
theorem lay_in (r : Int) : PyData.canLay0 (.tuple [.str "in", .int r]) = true := by
  simp only [PyData.canLay0, PyData.canLayAll0, Bool.and_true]
  decide +kernel
/-- a place in the heap at which no more guards are borne than the script's own -/
structure FnG (P : Program) (w : World) (K : PySem.W.Frag) (mg : Str → Option Value) (base : Heap) (k : Nat) (f : Addr) (fd : FuncData) (ps : List Str) (sp : Sp) : Prop where
  len : ∀ vs H Q E, sp vs H Q E → vs.length = ps.length
  run : ∀ (A : Around) (outer : List Env) (s : Shared) (H : Hp) (args : Args) (us : List Value) (vs : List V) (Q : VK), Room k A → A.guards = some [] → Env0 P w K mg base A outer s H → BindsTo s fd args (ps.zip us) → Vals vs us → sp vs H Q E0 →
    codeAny (model P w) A (.call (.ref f) args) (CR CX0 outer P w H s Q E0) s
structure DfG (P : Program) (w : World) (K : PySem.W.Frag) (mg : Str → Option Value) (base : Heap) (x : Str) (ps ks : List Str) (k : Nat) (sp : Sp) (g : ∀ {α : Type}, List α → List α → List α) : Prop where
  ex : ∃ (f : Addr) (fd : FuncData), FnG P w K mg base k f fd ps sp ∧ mg x = some (.ref f) ∧ PySem.W.keepIn K (.ref f) = true ∧ Binds K fd ps [] ∧ KBinds K fd ps ks g g
section
variable {X : Cx} {k : Nat} {x : Str} {ps ks : List Str} {sp : Sp} {e : Expr} {es : List Expr} {t : TA} {p pos : Pos} {kws : List Keyword} {tk : TA} {g : ∀ {α : Type}, List α → List α → List α}
theorem pe_ownG (D : DfG X.prog X.w X.K X.mg X.base x ps ks k sp g) (hr : Room k X.A) (gd : X.A.guards = some []) (ha : PA X (e :: es) t) (hg : Gl X x := by rfl) (hdb : (x == ("__debug__" : Str)) = false := by decide)
    (he : starEach (e :: es) X.env = (false, eval e X.env) :: starEach es X.env := by rfl) (hpl : (backTo pos (starEach es X.env)).any (·.1) = false := by rfl) : PE X (.Call (.Name x p) (e :: es) [] pos) (tCall sp [] E0 t) := by
  obtain ⟨f, fd, F, hm, hk, hb, _⟩ := D.ex
  refine ⟨fun pins s σ H Q I h => ?_⟩
  refine wpAny_Call_Name_kw (ld_glob I hg hm ?_ hdb)
  refine PySem.W.callWith_K (h₀ := X.base) I.ok.mod.kin hk (thn (ha.run pos pins s σ H _ I h) fun us s1 ⟨vs, H1, I1, r, q⟩ => ⟨I1.kIn, ?_⟩) he hpl
  have q : sp vs H1 Q E0 := by rw [← List.append_nil vs]; exact q
  have hl : us.length = ps.length := by rw [← r.length]; exact F.len _ _ _ _ q
  have hb2 := hb s1 us I1.kIn (by rw [List.append_nil]; exact hl)
  rw [List.append_nil] at hb2
  refine wpAny_call (codeAny_mono (F.run X.A X.stack s1 H1 ⟨us, []⟩ us vs Q hr gd I1.env0 hb2 r q) fun r s' hq => ?_)
  cases r with
  | error e => exact hq.elim
  | ok fl =>
    cases fl with
    | ret u => exact I1.after hq
    | next => exact False.elim hq
    | brk => exact False.elim hq
    | cont => exact False.elim hq
theorem pe_ownKG (D : DfG X.prog X.w X.K X.mg X.base x ps ks k sp g) (hr : Room k X.A) (gd : X.A.guards = some []) (hkw : PK X kws tk) (hg : Gl X x := by rfl)
    (hall : (backToKw pos (keywordEach kws X.env)).all (·.1.isSome) = true := by rfl) (hks : (backToKw pos (keywordEach kws X.env)).filterMap (·.1) = ks := by rfl)
    (hdb : (x == ("__debug__" : Str)) = false := by decide) (hpl : ((backTo pos (starEach [] X.env)).any (·.1) || (backToKw pos (keywordEach kws X.env)).any (·.1.isNone)) = false := by rfl) :
    PE X (.Call (.Name x p) [] kws pos) (tCallK sp g E0 tNil tk) := by
  obtain ⟨f, fd, F, hm, hk, _, hb⟩ := D.ex
  refine ⟨fun pins s σ H Q I h => ?_⟩
  refine wpAny_Call_Name_kw (ld_glob I hg hm ?_ hdb)
  refine PySem.W.callWith_KW0 (h₀ := X.base) I.ok.mod.kin hk hall ?_ hpl
  refine thn (hkw.run pos pins s σ H _ I h) fun ws s2 ⟨zs, H2, I2, rz, q2⟩ => ⟨I2.kIn, ?_⟩
  rw [hks]
  have r2 := hb.rel (vs := []) (us := []) .nil rz
  have hl : (g [] ws).length = ps.length := by rw [← r2.length]; exact F.len _ _ _ _ q2
  refine wpAny_call (codeAny_mono (F.run X.A X.stack s2 H2 ⟨[], ks.zip ws⟩ (g [] ws) (g [] zs) Q hr gd I2.env0 (hb.to s2 [] ws I2.kIn hl) r2 q2) fun r s' hq => ?_)
  cases r with
  | error e => exact hq.elim
  | ok fl =>
    cases fl with
    | ret u => exact I2.after hq
    | next => exact False.elim hq
    | brk => exact False.elim hq
    | cont => exact False.elim hq
end
end Rw
namespace Rw
open PySem PySem.Spec PyProof.Rows L2 GxR
section
variable {P : Program} {w : World} {K : PySem.W.Frag} {mg : Str → Option Value} {base : Heap} {f : Addr} {oc kV doc pm ct cdv : Value} {od an : Option Addr} {osl : Array (Option Value)}
theorem fng_of {x : Str} {st : Stmt} {N ps : List Str} {k : Nat} {sp : Sp} (look : K.lookup f = some ⟨oc, od, .func (PySem.W.fnOf x x (defArgs st) (defBody st) (defScope st) .none kV doc pm an cdv ct), osl⟩) (code : PySem.W.codeIn K cdv x = true)
    (S : FnScope N ps (defScope st)) (len : ∀ vs H Q E, sp vs H Q E → vs.length = ps.length)
    (body : ∀ (A : Around) (outer : List Env) (s : Shared) (H : Hp) (vs : List V) (Q : VK), Room k (A.deeper (envOfC x (defScope st) s.heap.objs.size f cdv)) → (A.deeper (envOfC x (defScope st) s.heap.objs.size f cdv)).guards = some [] → sp vs H Q E0 →
      ∃ t, PSs (cxOf CX0 P w K mg base N x (defScope st) f cdv A outer s H E0).nox (defBody st) t ∧ t { nx := fun _ H2 => Q V.non H2, rt := Q } (L2.start N vs) H) :
    FnG P w K mg base (k + 1) f (PySem.W.fnOf x x (defArgs st) (defBody st) (defScope st) .none kV doc pm an cdv ct) ps sp := by
  refine ⟨len, fun A outer s0 H args us vs Q hr gd en hb r hsp => ?_⟩
  have hl := len _ _ _ _ hsp
  have kin : K.In s0.heap := en.mod.kin.keeps fun z o e => (en.bs z o e).1
  refine codeAny_call_function hr.depth (kin _ _ look) rfl S.co S.gen rfl (PySem.W.codeRec_of kin code) (hb _ _ _ _ ?_)
  refine wpAny_newFunctionEnv_cells S.kind (fun y m => ?_) fun en1 same s1 there => ?_
  · have m1 := (List.of_mem_zip (show (y.1, y.2) ∈ ps.zip us from m)).1
    exact (S.par y.1 m1).elim .inl fun z => .inr ⟨z, PySem.W.cellsFrom_some _ _ _ (.inl z)⟩
  subst same
  refine ⟨(en.mod.nolimit.keeps fun z o e => (en.bs z o e).1).keeps there.toInCall.keep, codeAny_func ?_⟩
  obtain ⟨t, run, q⟩ := body A outer s0 H vs Q (hr.deeper _) (Dn.guards_deeper.trans gd) hsp
  have inv := inv_start (CX := CX0) (E := E0) S hr.hd en hl r there
  refine wpAny_mono (run.nox.run [] s1 (L2.start N vs) H _ inv q) (fun fl s2 h => ?_) fun _ _ h => h
  cases fl with
  | ret u =>
    obtain ⟨v, σ2, H2, J, r2, q2⟩ := h
    exact ⟨v, H2, J.os, J.bare, J.base, J.hok, r2, q2⟩
  | next =>
    obtain ⟨σ2, H2, J, q2⟩ := h
    exact ⟨V.non, H2, J.os, J.bare, J.base, J.hok, rfl, q2⟩
  | brk => exact absurd h fun ⟨_, _, _, z⟩ => z
  | cont => exact absurd h fun ⟨_, _, _, z⟩ => z
end
abbrev sUsers : Stmt := top 24
def nth (ws : List (List (Bool × Int))) (i : Nat) : List (Bool × Int) := ws.getD i []
def usersL (ws : List (List (Bool × Int))) (r : Int) (n : Nat) : List Int := ((List.range n).filter fun i => hasIn (nth ws i) r).map fun i => ((i : Nat) : Int)
theorem usersL_step (ws : List (List (Bool × Int))) (r : Int) (n : Nat) : usersL ws r (n + 1) = usersL ws r n ++ if hasIn (nth ws n) r = true then [((n : Nat) : Int)] else [] := by
  unfold usersL
  rw [List.range_succ, List.filter_append, List.map_append]
  congr 1
  by_cases h : hasIn (nth ws n) r = true
  · rw [if_pos h, List.filter_cons, if_pos h]
    rfl
  · rw [if_neg h, List.filter_cons, if_neg h]
    rfl
theorem usersL_len (ws : List (List (Bool × Int))) (r : Int) (n : Nat) : (usersL ws r n).length ≤ n := by
  unfold usersL
  rw [List.length_map]
  have := List.length_filter_le (fun i => hasIn (nth ws i) r) (List.range n)
  rw [List.length_range] at this
  exact this
def spUsers (T : Addr) : Sp := fun vs H Q _ => ∃ (av : Addr → Prop) (v : V) (ds : List PyData) (ws : List (List (Bool × Int))) (r : Int), vs = [v, .int r] ∧ Rp av H v (houseD ds ws) ∧ av T ∧ ws.length ≤ 5 ∧ TabG H T ∧
  ∀ (H2 H3 : Hp) (p : Addr), Tabbed T H H2 → Same H2 H3 → H3 p = none → Q (.ref p) (upd H3 p (.tup ((usersL ws r ws.length).map V.int)))
theorem nth_at {ws : List (List (Bool × Int))} {i : Nat} (h : i < ws.length) : ws[i]? = some (nth ws i) := by
  unfold nth
  rw [List.getD_eq_getElem?_getD, List.getElem?_eq_getElem h]
  rfl
section
variable {P : Program} {w : World} {K : PySem.W.Frag} {mg : Str → Option Value} {base : Heap} {f c T : Addr} {oc kV doc pm ct : Value} {od an : Option Addr} {osl : Array (Option Value)}
theorem scUsers : FnScope ["house", "room", "hand", "way"] ["house", "room"] (defScope sUsers) := ⟨rfl, rfl, rfl, by decide +kernel, rfl, by decide +kernel, by decide +kernel⟩
theorem ok_users (look : K.lookup f = some ⟨oc, od, .func (PySem.W.fnOf "users" "users" (defArgs sUsers) (defBody sUsers) (defScope sUsers) .none kV doc pm an (.ref c) ct), osl⟩) (code : PySem.W.codeIn K (.ref c) "users" = true) (B : Blt mg) (TB : TabB base mg c T) :
    FnG P w K mg base 13 f (PySem.W.fnOf "users" "users" (defArgs sUsers) (defBody sUsers) (defScope sUsers) .none kV doc pm an (.ref c) ct) ["house", "room"] (spUsers T) := by
  refine fng_of look code scUsers (fun vs H Q E h => ?_) (fun A outer s H vs Q hr gd h => ?_)
  · obtain ⟨_, _, _, _, _, rfl, _⟩ := h
    rfl
  obtain ⟨av, v, ds, ws, r, rfl, hd, avT, l5, tb, q⟩ := h
  have nd := scUsers.nd
  refine ⟨_, pss_one (ps_ret (Dn.pe_tupX (k := 2) (own := [("hand", 2), ("way", 3)]) (P := T) (c := c) (g := gTup K 2 (gCons (gName 2) (gCons (gName 3) gNil))) (te := tVar 2) (tt := tTest (tOp rInRp (tTup (tCons (tC (.str "in")) (tCons (tVar 1) tNil))) (tVar 3))) ⟨hr, gd⟩ (by rfl) B.tup TB rfl nd (Dn.genOk_by (N := ["house", "room", "hand", "way"]) (sc := defScope sUsers) (by decide +kernel)) (pi_enumT (by rfl) B.enu (pa_cons (pe_ix ix_tup (pv 0) pe_int (fun _ _ => rfl)) pa_nil))
    (fun _ _ _ _ _ _ _ _ => by exact pg_tup rfl (pgs_cons (pg_name (i := 2) nd rfl (Or.inl rfl) (Or.inr rfl)) (pgs_cons (pg_name (i := 3) nd rfl (Or.inl rfl) (Or.inr rfl)) pgs_nil)))
    (fun _ _ _ _ _ _ _ _ pl => by exact pts_one (pt_cmpR (r := rInRp) (op_inRp (by have := pl.room.un; omega)) (pe_tup (pa_cons pe_str (pa_cons (pv 1) pa_nil))) (pv 3) (by rfl)))
    (fun _ _ _ _ _ _ _ _ _ => by exact pv 2))), ?_⟩
  obtain ⟨a, xs, rfl, na, ha, hx⟩ := id hd.get_tup
  match xs, hx with
  | [x0, x1], .cons r0 (.cons r1 .nil) =>
  obtain ⟨b, ys, rfl, nb, hb, hy⟩ := id r1.get_tup
  have ly := hy.len
  rw [List.length_map] at ly
  refine ⟨_, rfl, a, _, _, _, rfl, rfl, SqT.of ha, rfl, b, ys, rfl, SqT.of hb, tb, fun H2 tb2 => ?_⟩
  have av2 : ∀ z o, ¬ av z → H z = some o → H2 z = some o := fun z o n h => (tb2.2 z fun e => n (e ▸ avT)).trans h
  have hb2 : H2 b = some (.tup ys) := av2 _ _ nb hb
  have hy2 : RpAll av H2 ys (ws.map wayD) := hy.mono av2
  refine ⟨fun i m zs H' => m = ws.length - i ∧ i ≤ ws.length ∧ Same H2 H' ∧ zs = (usersL ws r i).map V.int, ⟨_, rfl, Nat.zero_le _, Same.refl _, rfl⟩, ?_⟩
  rintro i m zs H3 ⟨rfl, hi, s3, rfl⟩
  have wk := walk_enumT (K := K) (a := b) (xs := ys)
  have sq3 : SqT K H3 b ys := SqT.of (s3 _ _ hb2)
  by_cases lt : i < ws.length
  · refine .inr ⟨wk.goes i H3 (by omega) sq3, fun zs' H' => Same H2 H' ∧ zs' = (usersL ws r (i + 1)).map V.int, fun zs' H' h => ⟨ws.length - (i + 1), by omega, rfl, lt, h.1, h.2⟩, fun x H' yl => ?_⟩
    obtain ⟨T1, x1, y, rfl, hT1, rfl, e1, hyi⟩ := wk.yields i H3 x H' (by omega) sq3 yl
    cases (Option.some.inj e1)
    have s4 := same_new hT1 (.tup [.int (i : Nat), y])
    obtain ⟨dy, hdy, ry⟩ := hy2.at hyi
    have edy : dy = wayD (nth ws i) := by
      rw [List.getElem?_map, nth_at lt] at hdy
      exact (Option.some.inj hdy).symm
    subst edy
    have len5 := usersL_len ws r i
    refine ⟨T1, _, rfl, SqT.of upd_same, rfl, _, _, rfl, _, _, rfl, rfl, rfl, ?_⟩
    refine ⟨_, rfl, (by show 2 ≤ sizeLine; decide), fun p hp => ?_⟩
    have s5 := same_new hp (.tup [.str "in", .int r])
    have s25 := s3.trans (s4.trans s5)
    refine ⟨_, rfl, av, fun _ => False, .tuple [.str "in", .int r], (nth ws i).map stepD, ?_, ry.mono (Ext.of_same s25), lay_in r, lay_steps _, by simp only [PyData.depth, PyData.depthAll]; decide, _, rfl, ?_⟩
    · exact .tup (fun z => z) upd_same (.cons (.str _) (.cons (.int _) .nil))
    · rw [any_steps]
      by_cases c : hasIn (nth ws i) r = true
      · refine iteY c ⟨_, rfl, ?_, s25, ?_⟩
        · rw [List.length_map]
          exact szlt (by omega)
        · rw [usersL_step, if_pos c, List.map_append]
          rfl
      · refine iteZ c ⟨s25, ?_⟩
        rw [usersL_step, if_neg c, List.append_nil]
  · have ei : i = ws.length := by omega
    subst ei
    refine .inl ⟨?_, fun _ p hp => q H2 H3 p tb2 s3 hp⟩
    have st := wk.stops H3 sq3
    rw [ly] at st
    exact st
end
end Rw
namespace Rw
open PySem L2
/-! ### the weight of a house, closer -/
theorem w_room {x : Int} (h : rOk x) : (PyData.int x).weight ≤ 10 := by
  obtain ⟨a, b⟩ := h
  simp only [PyData.weight]
  split
  · omega
  · rename_i h0
    have n0 : x.natAbs ≠ 0 := fun e => h0 (by simp [Int.natAbs_eq_zero.mp e])
    have : x.natAbs.log2 < 10 := (Nat.log2_lt n0).mpr (by omega)
    omega
theorem ords_w {n : Nat} {tab : List (List Str)} {ords : List (List Int)} (h : DoorOk n tab ords) : (PyData.tuple (ords.map ordD)).weight ≤ 280 := by
  have w := w_all (c := 55) (ds := ords.map ordD) fun d hd => by
    obtain ⟨ns, hz, rfl⟩ := List.mem_map.mp hd
    obtain ⟨l5, ok⟩ := h.oo ns hz
    have w2 := w_all (c := 10) (ds := ns.map PyData.int) fun d hd => by
      obtain ⟨z, hz, rfl⟩ := List.mem_map.mp hd
      exact w_room (ok z hz)
    rw [List.length_map] at w2
    unfold ordD
    simp only [PyData.weight]
    omega
  rw [List.length_map] at w
  have := h.ol
  simp only [PyData.weight]
  omega
theorem door_w {n : Nat} {tab : List (List Str)} {ords : List (List Int)} (h : DoorOk n tab ords) : (doorD tab ords).weight ≤ 2070 := by
  have a := (tab_ok h).2
  have b := ords_w h
  unfold doorD
  rw [PyData.weight]
  rw [PyData.weightAll, PyData.weightAll, PyData.weightAll]
  omega
theorem way_w {st : List (Bool × Int)} (h : WayOk st) : (wayD st).weight ≤ 448 := by
  have w := w_all (c := 15) (ds := st.map stepD) fun d hd => by
    obtain ⟨p, hp, rfl⟩ := List.mem_map.mp hd
    have r := w_room (h.rooms p hp)
    have z : (PyData.str (if p.1 then "in" else "out")).weight ≤ 3 := by
      cases p.1 <;> decide +kernel
    unfold stepD
    rw [PyData.weight]
    rw [PyData.weightAll, PyData.weightAll, PyData.weightAll]
    omega
  have l := h.len
  rw [List.length_map] at w
  show (PyData.tuple (st.map stepD)).weight ≤ 448
  rw [PyData.weight]
  omega
theorem room_w {n : Nat} {d : PyData} (h : RoomOk n d) : d.weight ≤ 2070 := by
  rcases h with rfl | ⟨tab, ords, rfl, h⟩
  · decide
  · exact door_w h
theorem rooms_w {n r : Nat} {ds : List PyData} {ws : List (List (Bool × Int))} (h : HouseOk n r ds ws) (r6 : r ≤ 6) : PyData.weightAll ds ≤ 12426 := by
  have w := w_all fun d hd => room_w (h.dd d hd)
  have l := h.dl
  omega
theorem ways_w {n r : Nat} {ds : List PyData} {ws : List (List (Bool × Int))} (h : HouseOk n r ds ws) (n5 : n ≤ 5) : PyData.weightAll (ws.map wayD) ≤ 2245 := by
  have w := w_all (c := 448) (ds := ws.map wayD) fun d hd => by
    obtain ⟨st, hs, rfl⟩ := List.mem_map.mp hd
    exact way_w (h.ww st hs)
  have l := h.wl
  rw [List.length_map] at w
  omega
theorem house_w {n r : Nat} {ds : List PyData} {ws : List (List (Bool × Int))} (h : HouseOk n r ds ws) (n5 : n ≤ 5) (r6 : r ≤ 6) : (houseD ds ws).weight ≤ 14700 := by
  have a := rooms_w h r6
  have b := ways_w h n5
  unfold houseD
  rw [PyData.weight]
  rw [PyData.weightAll, PyData.weightAll, PyData.weightAll]
  rw [PyData.weight, PyData.weight]
  omega
theorem house_nc {n r : Nat} {ds : List PyData} {ws : List (List (Bool × Int))} (h : HouseOk n r ds ws) : NcAll 3 ds ∧ NcAll 2 (ws.map wayD) := by
  refine ⟨NcAll.iff.mpr fun d hd => (room_ok2 (h.dd d hd)).1, NcAll.iff.mpr fun d hd => ?_⟩
  obtain ⟨st, hs, rfl⟩ := List.mem_map.mp hd
  exact (way_ok2 (h.ww st hs)).1
/-! ### parts of a row -/
theorem cut_part {av : Addr → Prop} {H : Hp} {xs : List V} {ds : List PyData} {k m : Nat} (h : RpAll av H xs ds) (nc : NcAll k ds) (w : PyData.weightAll ds ≤ m) (lo hi : Option Int) : ∃ es, RpAll av H (cutV xs lo hi) es ∧ NcAll k es ∧ PyData.weightAll es ≤ m := by
  refine ⟨_, (h.drop (HT.sIx xs.length 0 lo)).take (HT.sIx xs.length xs.length hi - HT.sIx xs.length 0 lo), nc.sub fun d hd => List.mem_of_mem_drop (List.mem_of_mem_take hd), ?_⟩
  have a := wA_take (HT.sIx xs.length xs.length hi - HT.sIx xs.length 0 lo) (ds.drop (HT.sIx xs.length 0 lo))
  have b := wA_drop (HT.sIx xs.length 0 lo) ds
  omega
theorem rep_part {av : Addr → Prop} {H : Hp} {xs : List V} {ds : List PyData} {k m : Nat} (h : RpAll av H xs ds) (nc : NcAll k ds) (w : PyData.weightAll ds ≤ m) : ∀ j : Nat, ∃ es, RpAll av H (List.replicate j xs).flatten es ∧ NcAll k es ∧ PyData.weightAll es ≤ j * m
  | 0 => ⟨[], .nil, .nil, Nat.le_of_eq (by rw [Nat.zero_mul]; rfl)⟩
  | j + 1 => by
    obtain ⟨es, a, b, c⟩ := rep_part h nc w j
    refine ⟨ds ++ es, ?_, nc.app b, ?_⟩
    · rw [List.replicate_succ, List.flatten_cons]
      exact h.app a
    · rw [wA_app, Nat.succ_mul]
      omega
theorem GivesAny.pair {dk gl : Addr} {k n : Nat} {H H1 : Hp} {Q : VK} (q : GivesAny dk gl k n H Q) (e : Ext (avD dk gl) H H1) (D : DeckAt dk gl H1) {x y : V} {a b : PyData} {j : Nat} (rx : Rp (avD dk gl) H1 x a) (ry : Rp (avD dk gl) H1 y b) (na : Nc j a) (nb : Nc j b) (hj : j + 1 ≤ k) (hw : a.weight + b.weight + 2 ≤ n) {p : Addr} (hp : H1 p = none) : Q (.ref p) (upd H1 p (.tup [x, y])) := by
  have s := same_new hp (.tup [x, y])
  refine q _ _ _ (e.trans (Ext.of_same s)) (D.same s) (.tup (D.new hp) upd_same (.cons (rx.mono (Ext.of_same s)) (.cons (ry.mono (Ext.of_same s)) .nil))) ((Nc.tup (.cons na (.cons nb .nil))).up hj) ?_
  rw [PyData.weight, PyData.weightAll, PyData.weightAll, PyData.weightAll]
  omega
end Rw
namespace Rw
open PySem L2
abbrev sValue : Stmt := top 44
def spValue : Sp := fun vs H Q _ => ∃ (dk gl : Addr) (v : V) (ds : List PyData) (ws : List (List (Bool × Int))) (n r : Nat), vs = [.ref dk, v] ∧ DeckAt dk gl H ∧ Rp (avD dk gl) H v (houseD ds ws) ∧ HouseOk n r ds ws ∧ 1 ≤ n ∧ n ≤ 5 ∧ 1 ≤ r ∧ r ≤ 6 ∧ GivesAny dk gl 9 535000 H Q
theorem wAny4 : wAny 4 = 6190 := rfl
theorem last_at {xs : List V} (h : xs ≠ []) : ∃ x, atI xs (-1) = some x ∧ xs[xs.length - 1]? = some x := by
  have l : 0 < xs.length := List.length_pos_iff.mpr h
  refine ⟨xs[xs.length - 1], ?_, List.getElem?_eq_getElem _⟩
  unfold atI ixN
  rw [if_neg (by decide), if_pos (by omega)]
  have e : ((-1 : Int) + ((xs.length : Nat) : Int)).toNat = xs.length - 1 := by omega
  rw [e]
  exact List.getElem?_eq_getElem _
section
variable {P : Program} {w : World} {K : PySem.W.Frag} {mg : Str → Option Value} {base : Heap} {f : Addr} {fd : FuncData}
theorem scValue : FnScope ["deck", "house", "rooms", "ways", "sort", "value"] ["deck", "house"] (defScope sValue) := ⟨rfl, rfl, rfl, by decide +kernel, rfl, by decide +kernel, by decide +kernel⟩
theorem ok_value (F : Fun K "_law_value" "_law_value" sValue f fd) (B : Blt mg) (DD : Dfn P w K mg base "_law_draw" ["deck", "many"] 1 spDraw) (DP : Dfn P w K mg base "_law_pick" ["deck", "items"] 2 spPick) (DA : Dfn P w K mg base "_law_any" ["deck", "deep"] 7 (spAny 5)) (DO : Dfn P w K mg base "_law_door" ["deck", "hands"] 3 spDoor)
    (DB : Dfn P w K mg base "_law_bent" ["deck", "value", "deep"] 11 (spBent 5)) : FnOk P w K mg base CX0 12 f fd ["deck", "house"] spValue := by
  refine F.ok scValue (fun vs H Q E h => ?_) (fun cdv A outer s H vs Q E hr h => ?_)
  · obtain ⟨_, _, _, _, _, _, _, rfl, _⟩ := h
    rfl
  obtain ⟨dk, gl, v, ds, ws, n, r, rfl, hD, rp, ok, n1, n5, r1, r6, q⟩ := h
  have nd := scValue.nd
  have hr1 : Room 1 (A.deeper (PyProof.Rows.envOfC "_law_value" (defScope sValue) s.heap.objs.size f cdv)) := hr.mono (by omega)
  have hr2 : Room 2 (A.deeper (PyProof.Rows.envOfC "_law_value" (defScope sValue) s.heap.objs.size f cdv)) := hr.mono (by omega)
  have hr3 : Room 3 (A.deeper (PyProof.Rows.envOfC "_law_value" (defScope sValue) s.heap.objs.size f cdv)) := hr.mono (by omega)
  have hr7 : Room 7 (A.deeper (PyProof.Rows.envOfC "_law_value" (defScope sValue) s.heap.objs.size f cdv)) := hr.mono (by omega)
  refine ⟨_, pss_cons (ps_asg (pv 1) (pg_tup rfl (pgs_cons (pg_name (i := 2) nd rfl (Or.inl rfl)) (pgs_cons (pg_name (i := 3) nd rfl (Or.inl rfl)) pgs_nil))))
    (pss_cons (ps_set (i := 4) nd rfl (Or.inl rfl) (pe_own DD hr1 (pa_cons (pv 0) (pa_cons pe_int pa_nil))))
    (pss_cons (ps_if (pt_cmpR op_eq (pv 4) pe_int (nomark _)) (pss_one (ps_ret (pe_own DA hr7 (pa_cons (pv 0) (pa_cons pe_int pa_nil))))) pss_nil)
    (pss_cons (ps_if (pt_cmpR op_lt (pv 4) pe_int (nomark _)) (pss_one (ps_ret (pv 1))) pss_nil)
    (pss_cons (ps_if (pt_cmpR op_eq (pv 4) pe_int (nomark _)) (pss_one (ps_ret (pe_tup (pa_cons (pe_slice sl_tupB (pe_op op_repT (pv 2) pe_int) po_none (po_some (pe_own DP hr2 (pa_cons (pv 0) (pa_cons (pe_lst (pa_cons pe_int (pa_cons pe_int (pa_cons pe_int (pa_cons (pe_op op_add (pe_callB call_len_seq (by rfl) B.len PySem.boot_len (pa_cons (pv 2) pa_nil)) pe_int) pa_nil))))) pa_nil))))) (pa_cons (pv 3) pa_nil))))) pss_nil)
    (pss_cons (ps_if (pt_cmpR op_eq (pv 4) pe_int (nomark _)) (pss_one (ps_ret (pe_tup (pa_cons (pv 2) (pa_cons (pe_slice sl_tupB (pe_op op_repT (pv 3) pe_int) po_none (po_some (pe_own DP hr2 (pa_cons (pv 0) (pa_cons (pe_lst (pa_cons pe_int (pa_cons pe_int (pa_cons pe_int (pa_cons (pe_op op_add (pe_callB call_len_seq (by rfl) B.len PySem.boot_len (pa_cons (pv 3) pa_nil)) pe_int) pa_nil))))) pa_nil))))) pa_nil))))) pss_nil)
    (pss_cons (ps_if (pt_cmpR op_eq (pv 4) pe_int (nomark _)) (pss_one (ps_ret (pe_tup (pa_cons (pe_op op_catB (pe_slice sl_tupB (pv 2) po_none (po_some (pe_un un_neg pe_int))) (pe_tup (pa_cons (pe_own DO hr3 (pa_cons (pv 0) (pa_cons (pe_op op_add pe_int (pe_own DD hr1 (pa_cons (pv 0) (pa_cons pe_int pa_nil)))) pa_nil))) pa_nil))) (pa_cons (pv 3) pa_nil))))) pss_nil)
    (pss_cons (ps_if (pt_cmpR op_eq (pv 4) pe_int (nomark _)) (pss_one (ps_ret (pe_tup (pa_cons (pv 2) (pa_cons (pe_op op_catB (pe_slice sl_tupB (pv 3) po_none (po_some (pe_un un_neg pe_int))) (pe_tup (pa_cons (pe_own DB hr (pa_cons (pv 0) (pa_cons (pe_ix ix_tup (pv 3) (pe_un un_neg pe_int) (fun _ _ => rfl)) (pa_cons pe_int pa_nil)))) pa_nil))) pa_nil))))) pss_nil)
    (pss_cons (ps_set (i := 5) nd rfl (Or.inl rfl) (pe_own DB hr (pa_cons (pv 0) (pa_cons (pv 1) (pa_cons pe_int pa_nil)))))
    (pss_one (ps_ret (pe_ifExp (pt_cmpR op_eq (pv 4) pe_int (nomark _)) (pe_own DB hr (pa_cons (pv 0) (pa_cons (pv 5) (pa_cons pe_int pa_nil)))) (pv 5)))))))))))), ?_⟩
  obtain ⟨t, xs, rfl, nt, ht, hx⟩ := id rp.get_tup
  match xs, hx with
  | [_, _], .cons ra0 (.cons rb0 .nil) =>
  obtain ⟨a, xs, rfl, na, ha, hxs⟩ := id ra0.get_tup
  obtain ⟨b, ys, rfl, nb, hb, hys⟩ := id rb0.get_tup
  obtain ⟨ncd, ncw⟩ := house_nc ok
  have wd := rooms_w ok r6
  have ww := ways_w ok n5
  have wh := house_w ok n5 r6
  have nch := (house_ok2 ok n5 r6).1
  have lx := hxs.len
  have ly := hys.len
  rw [ok.dl] at lx
  rw [List.length_map, ok.wl] at ly
  refine ⟨_, rfl, t, _, rfl, SqT.of ht, rfl, _, _, rfl, _, _, rfl, rfl, ?_⟩
  refine ⟨_, rfl, dk, gl, _, rfl, hD, by decide, fun sort H1 e1 D1 s0 s1 => ?_⟩
  replace q := q.ext e1
  have rp1 := rp.mono e1
  have ra1 := ra0.mono e1
  have rb1 := rb0.mono e1
  have ha1 := e1 _ _ na ha
  have hb1 := e1 _ _ nb hb
  have hxs1 := hxs.mono e1
  have hys1 := hys.mono e1
  refine ⟨_, rfl, rfl, _, rfl, ?_⟩
  refine ite2 (fun _ => ?_) (fun _ => ?_)
  · refine ⟨_, rfl, dk, gl, 4, rfl, D1, by decide, by decide, fun v d H2 e2 D2 rv nv wv => ?_⟩
    refine q v d H2 e2 D2 (rv.weak fun b h => dom_deck D1 h) (nv.up (by decide)) (Nat.le_trans wv ?_)
    show wAny 4 ≤ 535000
    rw [wAny4]
    decide
  refine ⟨_, rfl, _, _, rfl, rfl, _, rfl, ?_⟩
  refine ite2 (fun _ => ?_) (fun _ => ?_)
  · exact ⟨_, rfl, q _ _ H1 Ext.refl D1 rp1 (nch.up (by decide)) (by omega)⟩
  have xne : xs ≠ [] := fun z => by
    rw [z] at lx
    simp at lx
    omega
  have yne : ys ≠ [] := fun z => by
    rw [z] at ly
    simp at ly
    omega
  refine ⟨_, rfl, rfl, _, rfl, ?_⟩
  refine ite2 (fun _ => ?_) (fun _ => ?_)
  · refine ⟨_, rfl, a, _, _, rfl, rfl, SqT.of ha1, xne, by decide, by decide, by omega, fun p hp => ?_⟩
    have s2 := same_new hp (.tup (List.replicate (7 : Int).toNat xs).flatten)
    have D2 := D1.same s2
    have nP : ¬ avD dk gl p := D1.new hp
    obtain ⟨es, res, nces, wes⟩ := rep_part hxs1 ncd wd 7
    have hP : upd H1 p (.tup (List.replicate (7 : Int).toNat xs).flatten) p = some (.tup (List.replicate 7 xs).flatten) := upd_same
    generalize upd H1 p (.tup (List.replicate (7 : Int).toNat xs).flatten) = H2 at s2 D2 hP
    have ha2 := s2 _ _ ha1
    refine ⟨_, rfl, _, rfl, a, xs, rfl, .inr (SqT.of ha2), _, _, rfl, rfl, (by show 4 ≤ sizeLine; decide), fun L hL => ?_⟩
    have s3 := same_new hL (.lst [.int 0, .int 6, .int 7, .int ((xs.length : Nat) + 1)])
    have D3 := D2.same s3
    refine ⟨dk, gl, L, _, rfl, D3, upd_same, D2.new hL, Nat.succ_pos _, by show 4 < 1000; decide, fun v4 H4 hv e4 D4 => ?_⟩
    obtain ⟨m, rfl⟩ : ∃ m : Int, v4 = .int m := by
      simp only [List.mem_cons, List.not_mem_nil, or_false] at hv
      rcases hv with rfl | rfl | rfl | rfl <;> exact ⟨_, rfl⟩
    have e14 := (Ext.of_same (av := avD dk gl) (s2.trans s3)).trans e4
    have hP4 := e4 _ _ nP (s3 _ _ hP)
    refine ⟨m, rfl, p, _, rfl, hP4, fun r0 H5 s5 h5 hr0 => ?_⟩
    have e15 := e14.trans (Ext.of_same s5)
    have D5 := D4.same s5
    have nr0 : ¬ avD dk gl r0 := by
      rcases hr0 with e | e
      · rw [e]
        exact nP
      · exact D4.new e
    obtain ⟨gs, rgs, ncg, wgs⟩ := cut_part (res.mono e15) nces wes none (some m)
    refine ⟨_, rfl, (by show 2 ≤ sizeLine; decide), fun pp hpp => ?_⟩
    refine q.pair e15 D5 (.tup nr0 h5 rgs) (rb1.mono e15) (Nc.tup ncg) ((Nc.tup ncw).up (by decide)) (by decide) ?_ hpp
    rw [PyData.weight, PyData.weight]
    omega
  refine ⟨_, rfl, rfl, _, rfl, ?_⟩
  refine ite2 (fun _ => ?_) (fun _ => ?_)
  · refine ⟨_, rfl, _, rfl, b, _, _, rfl, rfl, SqT.of hb1, yne, by decide, by decide, by omega, fun p hp => ?_⟩
    have s2 := same_new hp (.tup (List.replicate (6 : Int).toNat ys).flatten)
    have D2 := D1.same s2
    have nP : ¬ avD dk gl p := D1.new hp
    obtain ⟨es, res, nces, wes⟩ := rep_part hys1 ncw ww 6
    have hP : upd H1 p (.tup (List.replicate (6 : Int).toNat ys).flatten) p = some (.tup (List.replicate 6 ys).flatten) := upd_same
    generalize upd H1 p (.tup (List.replicate (6 : Int).toNat ys).flatten) = H2 at s2 D2 hP
    have hb2 := s2 _ _ hb1
    refine ⟨_, rfl, _, rfl, b, ys, rfl, .inr (SqT.of hb2), _, _, rfl, rfl, (by show 4 ≤ sizeLine; decide), fun L hL => ?_⟩
    have s3 := same_new hL (.lst [.int 0, .int 5, .int 6, .int ((ys.length : Nat) + 1)])
    have D3 := D2.same s3
    refine ⟨dk, gl, L, _, rfl, D3, upd_same, D2.new hL, Nat.succ_pos _, by show 4 < 1000; decide, fun v4 H4 hv e4 D4 => ?_⟩
    obtain ⟨m, rfl⟩ : ∃ m : Int, v4 = .int m := by
      simp only [List.mem_cons, List.not_mem_nil, or_false] at hv
      rcases hv with rfl | rfl | rfl | rfl <;> exact ⟨_, rfl⟩
    have e14 := (Ext.of_same (av := avD dk gl) (s2.trans s3)).trans e4
    have hP4 := e4 _ _ nP (s3 _ _ hP)
    refine ⟨m, rfl, p, _, rfl, hP4, fun r0 H5 s5 h5 hr0 => ?_⟩
    have e15 := e14.trans (Ext.of_same s5)
    have D5 := D4.same s5
    have nr0 : ¬ avD dk gl r0 := by
      rcases hr0 with e | e
      · rw [e]
        exact nP
      · exact D4.new e
    obtain ⟨gs, rgs, ncg, wgs⟩ := cut_part (res.mono e15) nces wes none (some m)
    refine ⟨(by show 2 ≤ sizeLine; decide), fun pp hpp => ?_⟩
    refine q.pair e15 D5 (ra1.mono e15) (.tup nr0 h5 rgs) (Nc.tup ncd) ((Nc.tup ncg).up (by decide)) (by decide) ?_ hpp
    rw [PyData.weight, PyData.weight]
    omega
  refine ⟨_, rfl, rfl, _, rfl, ?_⟩
  refine ite2 (fun _ => ?_) (fun _ => ?_)
  · refine ⟨_, rfl, _, rfl, _, rfl, a, _, rfl, ha1, fun r0 H2 s2 h2 hr0 => ?_⟩
    have D2 := D1.same s2
    have nr0 : ¬ avD dk gl r0 := by
      rcases hr0 with e | e
      · rw [e]
        exact na
      · exact D1.new e
    obtain ⟨gs, rgs, ncg, wgs⟩ := cut_part (hxs1.mono (Ext.of_same s2)) ncd wd none (some (-1))
    refine ⟨_, rfl, _, rfl, dk, gl, _, rfl, D2, by decide, fun z H3 e3 D3 z0 z1 => ?_⟩
    obtain ⟨j, rfl⟩ := Int.eq_ofNat_of_zero_le z0
    have ej : (1 : Int) + (j : Int) = ((1 + j : Nat) : Int) := by omega
    refine ⟨_, _, rfl, rfl, dk, gl, 1 + j, congrArg (fun z => [V.ref dk, V.int z]) ej, D3, by omega, by omega, fun dv tab ords H4 e4 D4 rdv okd => ?_⟩
    have rd : Rp (avD dk gl) H4 dv (doorD tab ords) := rdv.weak fun b h => dom_deck D3 h
    refine ⟨(by show 1 ≤ sizeLine; decide), fun t1 ht1 => ?_⟩
    have s5 := same_new ht1 (.tup [dv])
    have D5 := D4.same s5
    have nt1 : ¬ avD dk gl t1 := D4.new ht1
    have e24 := e3.trans e4
    have e25 := e24.trans (Ext.of_same s5)
    have h25 := e25 _ _ nr0 h2
    have lg : (cutV xs none (some (-1))).length ≤ 600000 := by
      have := cutV_length xs none (some (-1))
      omega
    refine ⟨r0, t1, _, _, rfl, rfl, h25, upd_same, sz (by show (cutV xs none (some (-1))).length + 1 ≤ 600000; have := cutV_length xs none (some (-1)); omega), fun c0 H6 s6 h6 hc0 => ?_⟩
    have e15 := ((Ext.of_same s2).trans e25).trans (Ext.of_same s6)
    have D6 := D5.same s6
    have nc0 : ¬ avD dk gl c0 := by
      rcases hc0 with e | e | e
      · rw [e]
        exact nr0
      · rw [e]
        exact nt1
      · exact D5.new e
    have rrow : RpAll (avD dk gl) H6 (cutV xs none (some (-1)) ++ [dv]) (gs ++ [doorD tab ords]) := ((rgs.mono (e25.trans (Ext.of_same s6))).snoc (rd.mono ((Ext.of_same s5).trans (Ext.of_same s6))))
    refine ⟨_, rfl, (by show 2 ≤ sizeLine; decide), fun pp hpp => ?_⟩
    refine q.pair e15 D6 (.tup nc0 h6 rrow) (rb1.mono e15) (Nc.tup (ncg.app (.cons (door_ok okd).1 .nil))) ((Nc.tup ncw).up (by decide)) (by decide) ?_ hpp
    have wdr := door_w okd
    rw [PyData.weight, PyData.weight, wA_app, PyData.weightAll, PyData.weightAll]
    omega
  refine ⟨_, rfl, rfl, _, rfl, ?_⟩
  refine ite2 (fun _ => ?_) (fun _ => ?_)
  · refine ⟨_, rfl, _, rfl, _, rfl, _, rfl, b, _, rfl, hb1, fun r0 H2 s2 h2 hr0 => ?_⟩
    have D2 := D1.same s2
    have nr0 : ¬ avD dk gl r0 := by
      rcases hr0 with e | e
      · rw [e]
        exact nb
      · exact D1.new e
    obtain ⟨gs, rgs, ncg, wgs⟩ := cut_part (hys1.mono (Ext.of_same s2)) ncw ww none (some (-1))
    obtain ⟨lastv, hlast, hlast2⟩ := last_at yne
    obtain ⟨dl, hdl, rl⟩ := hys1.at hlast2
    obtain ⟨st, hst, edl⟩ : ∃ st ∈ ws, dl = wayD st := by
      have m := List.mem_of_getElem? hdl
      obtain ⟨st, hs, e⟩ := List.mem_map.mp m
      exact ⟨st, hs, e.symm⟩
    subst edl
    have okw := ok.ww st hst
    refine ⟨_, rfl, _, rfl, _, rfl, b, _, _, _, rfl, rfl, SqT.of (s2 _ _ hb1), hlast, dk, gl, lastv, wayD st, 2, 6, 448, rfl, D2, rl.mono (Ext.of_same s2), (way_ok2 okw).1.up (by decide), by decide, way_w okw, by decide, by decide, by decide, fun wv d H4 e4 D4 rw_ nw ww_ => ?_⟩
    have ww4 : d.weight ≤ 2494 := ww_
    refine ⟨(by show 1 ≤ sizeLine; decide), fun t1 ht1 => ?_⟩
    have s5 := same_new ht1 (.tup [wv])
    have D5 := D4.same s5
    have nt1 : ¬ avD dk gl t1 := D4.new ht1
    have e25 := e4.trans (Ext.of_same s5)
    have h25 := e25 _ _ nr0 h2
    refine ⟨r0, t1, _, _, rfl, rfl, h25, upd_same, sz (by show (cutV ys none (some (-1))).length + 1 ≤ 600000; have := cutV_length ys none (some (-1)); omega), fun c0 H6 s6 h6 hc0 => ?_⟩
    have e15 := ((Ext.of_same s2).trans e25).trans (Ext.of_same s6)
    have D6 := D5.same s6
    have nc0 : ¬ avD dk gl c0 := by
      rcases hc0 with e | e | e
      · rw [e]
        exact nr0
      · rw [e]
        exact nt1
      · exact D5.new e
    have rrow : RpAll (avD dk gl) H6 (cutV ys none (some (-1)) ++ [wv]) (gs ++ [d]) := ((rgs.mono (e25.trans (Ext.of_same s6))).snoc (rw_.mono ((Ext.of_same s5).trans (Ext.of_same s6))))
    refine ⟨(by show 2 ≤ sizeLine; decide), fun pp hpp => ?_⟩
    refine q.pair e15 D6 (ra1.mono e15) (.tup nc0 h6 rrow) ((Nc.tup ncd).up (by decide)) (Nc.tup ((ncg.up (show 2 ≤ 6 by decide)).app (.cons nw .nil))) (by decide) ?_ hpp
    rw [PyData.weight, PyData.weight, wA_app, PyData.weightAll, PyData.weightAll]
    omega
  refine ⟨_, rfl, _, rfl, dk, gl, _, _, 4, 8, 14700, rfl, D1, rp1, nch.up (by decide), by decide, wh, by decide, by decide, by decide, fun v2 d2 H4 e4 D4 r4 n4 w4 => ?_⟩
  replace q := q.ext e4
  have w4' : d2.weight ≤ 88904 := w4
  refine ⟨_, rfl, rfl, _, rfl, ?_⟩
  refine ite2 (fun _ => ?_) (fun _ => ?_)
  · refine ⟨_, rfl, _, rfl, dk, gl, v2, d2, 4, 8, 88904, rfl, D4, r4, n4, by decide, w4', by decide, by decide, by decide, fun v3 d3 H5 e5 D5 r5 n5 w5 => ?_⟩
    have w5' : d3.weight ≤ 534128 := w5
    exact q v3 d3 H5 e5 D5 r5 (n5.up (by decide)) (by omega)
  · exact ⟨_, rfl, q v2 d2 H4 Ext.refl D4 r4 (n4.up (by decide)) (by omega)⟩
end
end Rw
namespace Rw
open PySem L2 PySem.Spec PyProof.Rows GxR
theorem small_pair (z : Str) (i : Int) : plainT (.tuple [.str z, .int i]) = true ∧ (PyData.tuple [.str z, .int i]).depth < 2 := ⟨rfl, by
  simp only [PyData.depth, PyData.depthAll]
  decide⟩
theorem nest_small : ∀ (ds : List PyData) (i : Nat) (rs : List Int), plainT (nestE i rs ds) = true ∧ (nestE i rs ds).depth < 2
  | [], i, rs => by
    rw [nestE_nil]
    split
    · exact ⟨rfl, by simp only [PyData.depth]; decide⟩
    · exact ⟨rfl, by simp only [PyData.depth]; decide⟩
  | d :: ds, i, rs => by
    rw [nestE_cons]
    split
    · split
      · exact small_pair _ _
      · exact nest_small ds _ _
    · split
      · exact nest_small ds _ _
      · exact small_pair _ _
theorem way_small (m : Int) (d : PyData) : plainT (wayE m d) = true ∧ (wayE m d).depth < 2 := by
  have st : ∀ z : Str, plainT (.str z) = true ∧ (PyData.str z).depth < 2 := fun z => ⟨rfl, by simp only [PyData.depth]; decide⟩
  cases d with
  | tuple ds =>
    show plainT (if 2 ≤ ds.length ∧ ds.length ≤ 24 then _ else _) = true ∧ (if 2 ≤ ds.length ∧ ds.length ≤ 24 then _ else _ : PyData).depth < 2
    split
    · split
      · exact small_pair _ _
      · exact nest_small _ _ _
    · exact st _
  | _ => exact st _
theorem small_three (z : Str) (i j : Int) : plainT (.tuple [.str z, .int i, .int j]) = true ∧ (PyData.tuple [.str z, .int i, .int j]).depth < 2 := ⟨rfl, by
  simp only [PyData.depth, PyData.depthAll]
  decide⟩
theorem small_str (z : Str) : plainT (.str z) = true ∧ (PyData.str z).depth < 2 := ⟨rfl, by simp only [PyData.depth]; decide⟩
theorem small_non : plainT .none = true ∧ (PyData.none).depth < 2 := ⟨rfl, by simp only [PyData.depth]; decide⟩
theorem even_small (ts : List PyData) : plainT (evenE ts) = true ∧ (evenE ts).depth < 2 := by
  unfold evenE
  cases evOut ts ts.length ts.length 0 with
  | none => exact small_non
  | some p => exact small_three _ _ _
theorem table_small (n : Nat) (ts : List PyData) : plainT (tableE n ts) = true ∧ (tableE n ts).depth < 2 := by
  unfold tableE
  split
  · split
    · exact small_pair _ _
    · exact even_small _
  · exact small_str _
theorem orders_small (n : Nat) (os : List PyData) : plainT (ordersE n os) = true ∧ (ordersE n os).depth < 2 := by
  unfold ordersE
  split
  · split
    · exact small_pair _ _
    · exact small_non
  · exact small_str _
theorem door_small (n : Nat) (d : PyData) : plainT (doorE n d) = true ∧ (doorE n d).depth < 2 := by
  unfold doorE
  split
  · split
    · exact orders_small _ _
    · exact table_small _ _
  · exact small_str _
theorem deep_pair {x : Str} {i : Int} {e : PyData} (h : plainT e = true ∧ e.depth < 2) : plainT (.tuple [.str x, .int i, e]) = true ∧ (PyData.tuple [.str x, .int i, e]).depth < 3 := by
  obtain ⟨a, b⟩ := h
  refine ⟨?_, ?_⟩
  · show (plainAll [.str x, .int i, e]) = true
    rw [plainAll, plainAll, plainAll, a]
    rfl
  · simp only [PyData.depth, PyData.depthAll]
    omega
theorem ways_small (m : Int) : ∀ (ws : List PyData) (i : Nat), plainT (waysE m i ws) = true ∧ (waysE m i ws).depth < 3
  | [], i => ⟨rfl, by rw [waysE_nil]; simp only [PyData.depth]; decide⟩
  | d :: r, i => by
    rw [waysE_cons]
    split
    · exact ways_small m r _
    · exact deep_pair (way_small m d)
theorem rooms_small (n : Nat) : ∀ (ws : List PyData) (i : Nat), plainT (roomsE n i ws) = true ∧ (roomsE n i ws).depth < 3
  | [], i => ⟨rfl, by rw [roomsE_nil]; simp only [PyData.depth]; decide⟩
  | d :: r, i => by
    rw [roomsE_cons]
    split
    · exact rooms_small n r _
    · refine deep_pair ?_
      unfold roomE
      split
      · exact small_non
      · exact door_small n d
theorem house_small (d : PyData) : plainT (houseE d) = true ∧ (houseE d).depth < 3 := by
  have st : ∀ z : Str, plainT (.str z) = true ∧ (PyData.str z).depth < 3 := fun z => ⟨rfl, by simp only [PyData.depth]; decide⟩
  by_cases h : pairT d = true
  · obtain ⟨rs, ws, rfl⟩ := pairT_of h
    rw [houseE_pair]
    split
    · split
      · split
        · exact ways_small _ _ _
        · exact rooms_small _ _ _
      · exact st _
    · exact st _
  · rw [houseE_form h]
    exact st _
theorem small_ints (ns : List Int) : plainT (.tuple (ns.map PyData.int)) = true ∧ (PyData.tuple (ns.map PyData.int)).depth < 3 := by
  have h1 : ∀ l : List Int, plainAll (l.map PyData.int) = true := by
    intro l
    induction l with
    | nil => rfl
    | cons a l ih =>
      rw [List.map_cons, plainAll, ih]
      rfl
  have h2 : ∀ l : List Int, PyData.depthAll (l.map PyData.int) = 0 := by
    intro l
    induction l with
    | nil => rfl
    | cons a l ih =>
      rw [List.map_cons, PyData.depthAll, ih]
      rfl
  refine ⟨h1 ns, ?_⟩
  rw [PyData.depth, h2]
  decide
section
variable {P : Program} {w : World} {K : PySem.W.Frag} {mg : Str → Option Value} {base : Heap}
/-- a def called from one place A only (what guards A bears is known there) -/
theorem at_caller {x : Str} {st : Stmt} {f : Addr} {fd : FuncData} {N ps : List Str} {Ao : Around} {fr : List Env} {s0 : Shared} {Hq : Hp} {gs : Args} {us : List Value} {vs : List V} {Q : VK}
    (F : Fun K x x st f fd) (S : FnScope N ps (defScope st)) (room : Room 1 Ao) (en : Env0 P w K mg base Ao fr s0 Hq) (bt : BindsTo s0 fd gs (ps.zip us)) (rv : Vals vs us) (hl : vs.length = ps.length)
    (go : ∀ cd : Value, ∃ t, PSs (cxOf CX0 P w K mg base N x (defScope st) f cd Ao fr s0 Hq E0).nox (defBody st) t ∧ t { nx := fun _ H2 => Q V.non H2, rt := Q } (L2.start N vs) Hq) :
    codeAny (model P w) Ao (.call (.ref f) gs) (CR CX0 fr P w Hq s0 Q E0) s0 := by
  obtain ⟨c1, c2, c3, c4, c5, c6, c7, c8, c9, rfl, look, code⟩ := F.ex
  have kin : K.In s0.heap := en.mod.kin.keeps fun z o e => (en.bs z o e).1
  refine codeAny_call_function room.depth (kin _ _ look) rfl S.co S.gen rfl (PySem.W.codeRec_of kin code) (bt _ _ _ _ ?_)
  refine wpAny_newFunctionEnv_cells S.kind (fun y m => ?_) fun en1 same s1 there => ?_
  · have m1 := (List.of_mem_zip (show (y.1, y.2) ∈ ps.zip us from m)).1
    exact (S.par y.1 m1).elim .inl fun z => .inr ⟨z, PySem.W.cellsFrom_some _ _ _ (.inl z)⟩
  subst same
  refine ⟨(en.mod.nolimit.keeps fun z o e => (en.bs z o e).1).keeps there.toInCall.keep, codeAny_func ?_⟩
  obtain ⟨t, run, q⟩ := go c7
  have inv := inv_start (CX := CX0) (E := E0) S room.hd en hl rv there
  refine wpAny_mono (run.nox.run [] s1 (L2.start N vs) Hq _ inv q) (fun fl s2 h => ?_) fun _ _ h => h
  cases fl with
  | ret u =>
    obtain ⟨v, σ2, H2, J, r2, q2⟩ := h
    exact ⟨v, H2, J.os, J.bare, J.base, J.hok, r2, q2⟩
  | next =>
    obtain ⟨σ2, H2, J, q2⟩ := h
    exact ⟨V.non, H2, J.os, J.bare, J.base, J.hok, rfl, q2⟩
  | brk => exact absurd h fun ⟨_, _, _, z⟩ => z
  | cont => exact absurd h fun ⟨_, _, _, z⟩ => z
end
theorem TabG.off {dk gl T : Addr} {H : Hp} (D : DeckAt dk gl H) (t : TabG H T) : ¬ avD dk gl T := by
  obtain ⟨ps, hp, _⟩ := t
  obtain ⟨g, s, k, h1, h2, _⟩ := D.ex
  rintro (e | e)
  · rw [e, h1] at hp
    cases hp
  · rw [e, h2] at hp
    cases hp
theorem TabG.ext {dk gl T : Addr} {H H2 : Hp} (t : TabG H T) (D : DeckAt dk gl H) (e : Ext (avD dk gl) H H2) : TabG H2 T := by
  have n := TabG.off D t
  obtain ⟨ps, hp, r⟩ := t
  exact ⟨ps, e _ _ n hp, r⟩
theorem TabG.same {T : Addr} {H H2 : Hp} (t : TabG H T) (e : Same H H2) : TabG H2 T := by
  obtain ⟨ps, hp, r⟩ := t
  exact ⟨ps, e _ _ hp, r⟩
theorem DeckAt.tab {dk gl T : Addr} {H H2 : Hp} (D : DeckAt dk gl H) (t : TabG H T) (e : Tabbed T H H2) : DeckAt dk gl H2 := by
  have n := TabG.off D t
  obtain ⟨g, s, k, h1, h2, h3⟩ := D.ex
  exact ⟨g, s, k, (e.2 _ fun z => n (.inl z.symm)).trans h1, (e.2 _ fun z => n (.inr z.symm)).trans h2, h3⟩
theorem Rp.tabbed {T : Addr} {H H2 : Hp} {av : Addr → Prop} {v : V} {d : PyData} (r : Rp av H v d) (t : av T) (e : Tabbed T H H2) : Rp av H2 v d := r.mono fun b o n h => (e.2 b fun z => n (z ▸ t)).trans h
def gHeld {α : Type} : List α → List α → List α
  | [], [a, b] => [b, a]
  | _, _ => []
def gOne {α : Type} : List α → List α → List α
  | [], [a] => [a]
  | _, _ => []
structure KD (P : Program) (w : World) (K : PySem.W.Frag) (mg : Str → Option Value) (base : Heap) (x : Str) (ps ks : List Str) (k : Nat) (sp : Sp) (g : ∀ {α : Type}, List α → List α → List α) : Prop where
  ex : ∃ (f : Addr) (fd : FuncData), FnOk P w K mg base CX0 k f fd ps sp ∧ mg x = some (.ref f) ∧ PySem.W.keepIn K (.ref f) = true ∧ KBinds K fd ps ks g g
theorem kb_two {K : PySem.W.Frag} {fd : FuncData} {p1 p2 : Str} (h : ∀ (s : Shared) (a b : Value), BindsTo s fd ⟨[], [(p2, a), (p1, b)]⟩ [(p1, b), (p2, a)]) : KBinds K fd [p1, p2] [p2, p1] gHeld gHeld := by
  refine ⟨fun s us ws _ hl => ?_, fun {vs us zs ws} r1 r2 => ?_⟩
  · match us, ws, hl with
    | [], [a, b], _ => exact h s a b
  · cases r1 with
    | cons _ _ => exact .nil
    | nil =>
      cases r2 with
      | nil => exact .nil
      | cons a r =>
        cases r with
        | nil => exact .nil
        | cons b r =>
          cases r with
          | nil => exact .cons b (.cons a .nil)
          | cons _ _ => exact .nil
theorem kb_one {K : PySem.W.Frag} {fd : FuncData} {p1 : Str} (h : ∀ (s : Shared) (a : Value), BindsTo s fd ⟨[], [(p1, a)]⟩ [(p1, a)]) : KBinds K fd [p1] [p1] gOne gOne := by
  refine ⟨fun s us ws _ hl => ?_, fun {vs us zs ws} r1 r2 => ?_⟩
  · match us, ws, hl with
    | [], [a], _ => exact h s a
  · cases r1 with
    | cons _ _ => exact .nil
    | nil =>
      cases r2 with
      | nil => exact .nil
      | cons a r =>
        cases r with
        | nil => exact .cons a .nil
        | cons b r => exact .nil
mutual
theorem Rp.offT {av : Addr → Prop} {H : Hp} {T : Addr} (t : TabG H T) : ∀ {v : V} {d : PyData}, Rp av H v d → Rp (fun b => av b ∨ b = T) H v d
  | _, _, .non => .non
  | _, _, .bl b => .bl b
  | _, _, .int i => .int i
  | _, _, .str x => .str x
  | _, _, .lst n h r => .lst (fun z => z.elim n fun e => by
      obtain ⟨ps, hp, _⟩ := t
      rw [e, hp] at h
      cases h) h (RpAll.offT t r)
  | _, _, .tup n h r => .tup (fun z => z.elim n fun e => by
      obtain ⟨ps, hp, _⟩ := t
      rw [e, hp] at h
      cases h) h (RpAll.offT t r)
  | _, _, .dct n h r => .dct (fun z => z.elim n fun e => by
      obtain ⟨ps, hp, _⟩ := t
      rw [e, hp] at h
      cases h) h (Rp.offT t r)
theorem RpAll.offT {av : Addr → Prop} {H : Hp} {T : Addr} (t : TabG H T) : ∀ {vs : List V} {ds : List PyData}, RpAll av H vs ds → RpAll (fun b => av b ∨ b = T) H vs ds
  | _, _, .nil => .nil
  | _, _, .cons a b => .cons (Rp.offT t a) (RpAll.offT t b)
end
end Rw
section
namespace Rw
open PySem L2 PyProof.Rows GxR
abbrev sLaw : Stmt := top 45
/-- what stands: the deck, the table, the house and the value -/
structure Std (dk gl T : Addr) (hv v : V) (ds : List PyData) (ws : List (List (Bool × Int))) (d : PyData) (H : Hp) : Prop where
  de : DeckAt dk gl H
  tb : TabG H T
  rh : Rp (fun b => avD dk gl b ∨ b = T) H hv (houseD ds ws)
  rv : Rp (fun b => avD dk gl b ∨ b = T) H v d
section
variable {dk gl T : Addr} {hv v : V} {ds : List PyData} {ws : List (List (Bool × Int))} {d : PyData} {H H2 : Hp}
theorem Std.same (s : Std dk gl T hv v ds ws d H) (e : Same H H2) : Std dk gl T hv v ds ws d H2 := ⟨s.de.same e, TabG.same s.tb e, s.rh.mono (Ext.of_same e), s.rv.mono (Ext.of_same e)⟩
theorem Std.tab (s : Std dk gl T hv v ds ws d H) (e : Tabbed T H H2) : Std dk gl T hv v ds ws d H2 := ⟨s.de.tab s.tb e, e.1, s.rh.tabbed (.inr rfl) e, s.rv.tabbed (.inr rfl) e⟩
end
theorem RpAll.two {av : Addr → Prop} {H : Hp} {xs : List V} {a b : PyData} (h : RpAll av H xs [a, b]) : ∃ x y, xs = [x, y] ∧ Rp av H x a ∧ Rp av H y b := by
  cases h with
  | cons r0 h =>
    cases h with
    | cons r1 h =>
      cases h
      exact ⟨_, _, rfl, r0, r1⟩
theorem both_ok {h d : PyData} (nh : Nc 9 h) (nd : Nc 9 d) (wh : h.weight ≤ 14700) (wd : d.weight ≤ 535000) : Nc 10 (.list [h, d]) ∧ (PyData.list [h, d]).weight ≤ 620000 := by
  refine ⟨Nc.lst (.cons nh (.cons nd .nil)), ?_⟩
  rw [PyData.weight, PyData.weightAll, PyData.weightAll, PyData.weightAll]
  omega
set_option hygiene false
local macro_rules | `(tactic| walk_at "law4 room") => `(tactic| (
  have S19 := ((S16.tab t17).same s18).same (same_new hp18 (.tup ((usersL ws (0 + (k : Nat)) ws.length).map V.int)))
  have du19 := ((du.tabbed rfl t17).mono (Ext.of_same s18)).mono (Ext.of_same (same_new hp18 (.tup ((usersL ws (0 + (k : Nat)) ws.length).map V.int))))
  refine ⟨_, rfl, _, rfl, fun _ => False, _, _, _, _, rfl, .tup (fun z => z) upd_same (RpAll.ints _), du19, (small_ints _).1, (small_ints _).2, fun H20 s20 => ⟨_, rfl, ?_⟩⟩
  refine iteF (A := True) ?_
  have S20 := S19.same s20
  have du20 := du19.mono (Ext.of_same s20)
  refine ⟨_, rfl, _, rfl, _, _, ds, ws, _, rfl, S20.rh, .inr rfl, l5, S20.tb, fun H21 H22 p22 t21 s22 hp22 => ?_⟩
  have S23 := ((S20.tab t21).same s22).same (same_new hp22 (.tup ((usersL ws (0 + (k : Nat)) ws.length).map V.int)))
  have du23 := ((du20.tabbed rfl t21).mono (Ext.of_same s22)).mono (Ext.of_same (same_new hp22 (.tup ((usersL ws (0 + (k : Nat)) ws.length).map V.int))))
  refine ⟨_, rfl, fun _ => False, _, _, _, _, rfl, .tup (fun z => z) upd_same (RpAll.ints _), du23, (small_ints _).1, (small_ints _).2, fun H24 s24 => ⟨_, rfl, ?_⟩⟩
  refine iteF (A := True) ?_
  exact ⟨⟨_, _, _, _, _, rfl⟩, S23.same s24⟩))
local macro_rules | `(tactic| walk_at "law4 rest") => `(tactic| (
  have S9 := S8.same s9
  have due9 := rdue8.mono (Ext.of_same s9)
  refine ⟨_, rfl, _, rfl, _, _, told, due, _, rfl, rtold, due9, (house_small d).1, (house_small d).2, fun H10 s10 => ⟨_, rfl, ?_⟩⟩
  refine iteF (A := True) ?_
  have S10 := S9.same s10
  have due10 := due9.mono (Ext.of_same s10)
  refine ⟨_, rfl, _, v, d, rfl, S10.rv, by omega, fun told2 H11 s11 rtold2 => ?_⟩
  have S11 := S10.same s11
  have due11 := due10.mono (Ext.of_same s11)
  refine ⟨_, rfl, _, _, told2, due, _, rfl, rtold2, due11, (house_small d).1, (house_small d).2, fun H12 s12 => ⟨_, rfl, ?_⟩⟩
  refine iteF (A := True) ?_
  have S12 := S11.same s12
  clear S11 S10 S9 due11 due10 due9 rtold rtold2 s9 s10 s11 s12
  refine ⟨_, rfl, _, rfl, by omega, by omega, for_it (walk_range (lo := 0) (n := r)) (fun k σ H' => (∃ (v8 v10 v11 v12 v13 : Option V), σ = [some (.ref a), some (.ref dk), some (.int (0 + (i : Nat))), some (.int (h : Nat)), some (.int (r : Nat)), some (.int (m : Nat)), some hv, some v, v8, some (.str (PyData.list [houseD ds ws, d]).shown), v10, v11, v12, v13]) ∧ Std dk gl T hv v ds ws d H') ⟨⟨_, _, _, _, _, rfl⟩, S12⟩ (fun _ _ _ _ _ => trivial) ?_ ?_⟩
  · rintro k y σ H13 H14 hk ⟨⟨_, _, _, _, _, rfl⟩, S13⟩ ⟨rfl, rfl⟩
    obtain ⟨t, xs, ehv, nt, ht, hx⟩ := id S13.rh.get_tup
    obtain ⟨x0, x1, rfl, r0, r1'⟩ := hx.two
    obtain ⟨b, ys, rfl, nbT, hb, hy⟩ := id r1'.get_tup
    have ly := hy.len
    rw [List.length_map] at ly
    refine ⟨_, rfl, t, _, _, _, ehv, rfl, SqT.of ht, rfl, b, ys, rfl, SqT.of hb, fun D hD => ?_⟩
    refine lc_it (walk_enumT (K := K) (a := b) (xs := ys)) (fun j H' => Same H14 H' ∧ H' D = some (.lst ((usersL ws (0 + (k : Nat)) j).map V.int))) ⟨same_new hD _, upd_same⟩ ?_ ?_ ?_
    · rintro j H' _ ⟨e, _⟩
      exact SqT.of (e _ _ hb)
    · rintro j x H' H'' hj ⟨e, hl⟩ ⟨T1, x1, y, rfl, hT1, rfl, e1, hyj⟩
      cases (Option.some.inj e1)
      have s5 := same_new hT1 (.tup [.int (j : Nat), y])
      obtain ⟨dy, hdy, ry⟩ := hy.at hyj
      have ljw : j < ws.length := by omega
      have edy : dy = wayD (nth ws j) := by
        rw [List.getElem?_map, nth_at ljw] at hdy
        exact (Option.some.inj hdy).symm
      subst edy
      refine ⟨T1, _, rfl, SqT.of upd_same, rfl, _, _, rfl, _, _, rfl, rfl, rfl, ?_⟩
      refine ⟨_, rfl, (by show 2 ≤ sizeLine; decide), fun p hp => ?_⟩
      have s6 := same_new hp (.tup [.str "in", .int (0 + (k : Nat))])
      have s46 := e.trans (s5.trans s6)
      refine ⟨_, rfl, _, fun _ => False, .tuple [.str "in", .int (0 + (k : Nat))], (nth ws j).map stepD, .tup (fun z => z) upd_same (.cons (.str _) (.cons (.int _) .nil)), ry.mono (Ext.of_same s46), lay_in _, lay_steps _, by simp only [PyData.depth, PyData.depthAll]; decide, _, rfl, ?_⟩
      rw [any_steps]
      have ul := usersL_len ws (0 + (k : Nat)) j
      by_cases c : hasIn (nth ws j) (0 + (k : Nat)) = true
      · refine iteY c ?_
        refine ⟨_, rfl, _, (s5.trans s6) _ _ hl, szlt (by rw [List.length_map]; omega), same_upd s46 hD _, ?_⟩
        rw [upd_same, usersL_step, if_pos c, List.map_append]
        rfl
      · refine iteZ c ?_
        refine ⟨s46, ?_⟩
        rw [usersL_step, if_neg c, List.append_nil]
        exact (s5.trans s6) _ _ hl
    rintro H15 ⟨e15, hl15⟩
    rw [ly] at hl15
    refine ⟨D, _, rfl, .inl ⟨SqL.of hl15, fun dp hdp => ?_⟩⟩
    have s16 := same_new hdp (.tup ((usersL ws (0 + (k : Nat)) ws.length).map V.int))
    have S16 := S13.same (e15.trans s16)
    have nT : dp ≠ T := fun z => by
      obtain ⟨ps, hps, _⟩ := (S13.same e15).tb
      rw [z, hps] at hdp
      cases hdp
    have du : Rp (fun b => b = T) (upd H15 dp (.tup ((usersL ws (0 + (k : Nat)) ws.length).map V.int))) (.ref dp) (.tuple ((usersL ws (0 + (k : Nat)) ws.length).map PyData.int)) := .tup nT upd_same (RpAll.ints _)
    generalize upd H15 dp (.tup ((usersL ws (0 + (k : Nat)) ws.length).map V.int)) = H16 at S16 du
    refine ⟨_, rfl, rfl, _, rfl, ?_⟩
    refine ite2 (fun _ => ?_) (fun _ => ?_)
    · refine ⟨_, rfl, _, rfl, _, _, ds, ws, _, rfl, S16.rh, .inr rfl, l5, S16.tb, fun H17 H18 p18 t17 s18 hp18 => ?_⟩
      walk_at "law4 room"
    · refine ⟨_, rfl, _, rfl, _, _, ds, ws, _, rfl, S16.rh, .inr rfl, l5, S16.tb, fun H17 H18 p18 t17 s18 hp18 => ?_⟩
      walk_at "law4 room"
  · rintro σ H13 ⟨⟨_, _, _, _, _, rfl⟩, S13⟩
    refine ⟨_, rfl, _, rfl, (by show 2 ≤ sizeLine; decide), fun L2 hL2 => ?_⟩
    have s14 := same_new hL2 (.lst [hv, v])
    have S14 := S13.same s14
    have rL2 : Rp (fun _ => False) (upd H13 L2 (.lst [hv, v])) (.ref L2) (.list [houseD ds ws, d]) := .lst (fun z => z) upd_same (.cons (S14.rh.weak fun _ z => z.elim) (.cons (S14.rv.weak fun _ z => z.elim) .nil))
    refine ⟨_, _, _, rfl, rL2, nb.sw, nb.fits wb, Nat.le_trans nb.dp (by decide), _, rfl, rfl, _, rfl, ?_⟩
    refine iteZ (by simp) ?_
    exact ⟨⟨_, _, _, _, _, _, _, _, _, _, _, _, rfl⟩, S14.de, S14.tb⟩))
section
variable {P : Program} {w : World} {K : PySem.W.Frag} {mg : Str → Option Value} {base : Heap} {f : Addr} {fd : FuncData}
theorem scLaw : FnScope ["script", "deck", "turn", "hands", "rooms", "most", "house", "value", "due", "kept", "told", "room", "hand", "way"] ["script"] (defScope sLaw) := ⟨rfl, rfl, rfl, by decide +kernel, rfl, by decide +kernel, by decide +kernel⟩
theorem law_ok {a T : Addr} {ns : List Int} {H : Hp} {s0 : Shared} (F : Fun K "law" "law" sLaw f fd) (B : Blt mg) (sys : ∃ o, base.get? sysModules = some o) (DC : Dfn P w K mg base "_law_deck" ["script"] 1 (spDeck K)) (DZ : Dfn P w K mg base "_law_sizes" ["deck"] 3 spSizes)
    (DH : Dfn P w K mg base "_law_house" ["deck", "hands", "rooms", "most"] 4 spHouse) (DV : Dfn P w K mg base "_law_value" ["deck", "house"] 12 spValue) (DF : Dfn P w K mg base "_law_house_fault" ["value"] 4 spHouseE) (DW : Dfn P w K mg base "house_error" ["value"] 6 spHouseE) (DWk : KD P w K mg base "house_error" ["value"] ["value"] 6 spHouseE gOne)
    (DS : Dfn P w K mg base "_law_same" ["found", "due"] 3 (spSame 3)) (DU : DfG P w K mg base "users" ["house", "room"] ["room", "house"] 13 (spUsers T) gHeld)
    (len : ns.length ≤ 63) (en : Env0 P w K mg base callerA [] s0 H) (hS : SqL K H a (ns.map V.int)) (hT0 : H T = some (.tbl #[])) : codeAny (model P w) callerA (.call (.ref f) ⟨[.ref a], []⟩) (CR CX0 [] P w H s0 (fun v _ => v = V.bl true) E0) s0 := by
  have room : Room 14 callerA := ⟨rfl, by decide, by decide⟩
  refine at_caller (ps := ["script"]) (us := [.ref a]) (vs := [.ref a]) F scLaw (room.mono (by decide)) en ?_ (.cons rfl .nil) rfl fun cd => ?_
  · obtain ⟨c1, c2, c3, c4, c5, c6, c7, c8, c9, rfl, look, code⟩ := F.ex
    exact .of_eq rfl
  have nd := scLaw.nd
  have hr : Room 13 (callerA.deeper (PyProof.Rows.envOfC "law" (defScope sLaw) s0.heap.objs.size f cd)) := room.deeper _
  have hr1 : Room 1 (callerA.deeper (PyProof.Rows.envOfC "law" (defScope sLaw) s0.heap.objs.size f cd)) := hr.mono (by decide)
  have hr3 : Room 3 (callerA.deeper (PyProof.Rows.envOfC "law" (defScope sLaw) s0.heap.objs.size f cd)) := hr.mono (by decide)
  have hr4 : Room 4 (callerA.deeper (PyProof.Rows.envOfC "law" (defScope sLaw) s0.heap.objs.size f cd)) := hr.mono (by decide)
  have hr6 : Room 6 (callerA.deeper (PyProof.Rows.envOfC "law" (defScope sLaw) s0.heap.objs.size f cd)) := hr.mono (by decide)
  have hr12 : Room 12 (callerA.deeper (PyProof.Rows.envOfC "law" (defScope sLaw) s0.heap.objs.size f cd)) := hr.mono (by decide)
  have gd : (callerA.deeper (PyProof.Rows.envOfC "law" (defScope sLaw) s0.heap.objs.size f cd)).guards = some [] := rfl
  have un : (callerA.deeper (PyProof.Rows.envOfC "law" (defScope sLaw) s0.heap.objs.size f cd)).units + 102 < cLine := by
    have := hr.un
    omega
  have un2 : (callerA.deeper (PyProof.Rows.envOfC "law" (defScope sLaw) s0.heap.objs.size f cd)).units + 65 < cLine := by
    have := hr.un
    omega
  obtain ⟨fw, fdw, Fw, mw, kw, bw⟩ := DWk.ex
  refine ⟨_, pss_cons (ps_set (i := 1) nd rfl (Or.inl rfl) (pe_own DC hr1 (pa_cons (pv 0) pa_nil)))
    (pss_cons (ps_for PassesOwn.never rfl (pi_range1 (by rfl) B.rng (pa_cons pe_int pa_nil)) (pg_name (i := 2) nd rfl (Or.inl rfl))
      (pss_cons (ps_asg (pe_own DZ hr3 (pa_cons (pv 1) pa_nil)) (pg_tup rfl (pgs_cons (pg_name (i := 3) nd rfl (Or.inl rfl)) (pgs_cons (pg_name (i := 4) nd rfl (Or.inl rfl)) (pgs_cons (pg_name (i := 5) nd rfl (Or.inl rfl)) pgs_nil)))))
      (pss_cons (ps_set (i := 6) nd rfl (Or.inl rfl) (pe_own DH hr4 (pa_cons (pv 1) (pa_cons (pv 3) (pa_cons (pv 4) (pa_cons (pv 5) pa_nil))))))
      (pss_cons (ps_set (i := 7) nd rfl (Or.inl rfl) (pe_own DV hr12 (pa_cons (pv 1) (pa_cons (pv 6) pa_nil))))
      (pss_cons (ps_par (i := 8) (j := 9) (by rfl) nd rfl rfl (by decide) rfl rfl (pa_cons (pe_own DF hr4 (pa_cons (pv 7) pa_nil)) (pa_cons (pe_callB (call_reprB gd un sys) (by rfl) B.repr (by decide +kernel) (pa_cons (pe_lst (pa_cons (pv 6) (pa_cons (pv 7) pa_nil))) pa_nil)) pa_nil)) (by rfl))
      (pss_cons (ps_set (i := 10) nd rfl (Or.inl rfl) (pe_ifExp (pt_cmpR op_eq (pv 2) pe_int (nomark _)) (pe_callK0 (ks := ["value"]) Fw hr6 (by rfl) mw kw bw pass0 (pk_cons (pv 7) pk_nil)) (pe_own DW hr6 (pa_cons (pv 7) pa_nil))))
      (pss_cons (ps_if (PW.pt (pw_or (pt_not (pt_val (pe_own DS hr3 (pa_cons (pv 10) (pa_cons (pv 8) pa_nil))))) (pw_or1 (pt_not (pt_val (pe_own DS hr3 (pa_cons (pe_own DW hr6 (pa_cons (pv 7) pa_nil)) (pa_cons (pv 8) pa_nil)))))))) (pss_one (ps_ret pe_bl)) pss_nil)
      (pss_cons (ps_for PassesOwn.never rfl (pi_range1 (by rfl) B.rng (pa_cons (pv 4) pa_nil)) (pg_name (i := 11) nd rfl (Or.inr rfl))
        (pss_cons (ps_set (i := 8) nd rfl (Or.inl rfl) (pe_callTy call_tuple_of (by rfl) B.tup (by decide +kernel) (pa_cons (pe_lc (own := [("hand", 12), ("way", 13)]) (g := gTup K 2 (gCons (gName 12) (gCons (gName 13) gNil))) (tt := tTest (tOp rInRp (tTup (tCons (tC (.str "in")) (tCons (tVar 11) tNil))) (tVar 13))) rfl nd (pi_enumT (by rfl) B.enu (pa_cons (pe_ix ix_tup (pv 6) pe_int (fun _ _ => rfl)) pa_nil))
          (blkOk_by (N := ["script", "deck", "turn", "hands", "rooms", "most", "house", "value", "due", "kept", "told", "room", "hand", "way"]) (sc := defScope sLaw) (by decide +kernel)) (fun _ _ _ _ _ => by exact pg_tup rfl (pgs_cons (pg_name (i := 12) nd rfl (Or.inl rfl)) (pgs_cons (pg_name (i := 13) nd rfl (Or.inl rfl)) pgs_nil)))
          (fun _ _ _ _ _ => by exact pts_one (pt_cmpR (r := rInRp) (op_inRp un2) (pe_tup (pa_cons pe_str (pa_cons (pv 11) pa_nil))) (pv 13) (by rfl))) (fun _ _ _ _ _ => pv 12)) pa_nil)))
        (pss_cons (ps_set (i := 10) nd rfl (Or.inl rfl) (pe_ifExp (pt_cmpR op_eq (pv 2) pe_int (nomark _)) (pe_ownKG DU hr gd (pk_cons (pv 11) (pk_cons (pv 6) pk_nil))) (pe_ownG DU hr gd (pa_cons (pv 6) (pa_cons (pv 11) pa_nil)))))
        (pss_one (ps_if (PW.pt (pw_or (pt_not (pt_val (pe_own DS hr3 (pa_cons (pv 10) (pa_cons (pv 8) pa_nil))))) (pw_or1 (pt_not (pt_val (pe_own DS hr3 (pa_cons (pe_ownG DU hr gd (pa_cons (pv 6) (pa_cons (pv 11) pa_nil))) (pa_cons (pv 8) pa_nil)))))))) (pss_one (ps_ret pe_bl)) pss_nil)))))
      (pss_one (ps_if (pt_cmpR op_ne (pe_callB (call_reprB gd un sys) (by rfl) B.repr (by decide +kernel) (pa_cons (pe_lst (pa_cons (pv 6) (pa_cons (pv 7) pa_nil))) pa_nil)) (pv 9) (nomark _)) (pss_one (ps_ret pe_bl)) pss_nil))))))))))
    (pss_one (ps_ret pe_bl))), ?_⟩
  refine ⟨_, rfl, a, ns, rfl, hS, len, fun dk gl H1 s1 D1 => ?_⟩
  have tb1 : TabG H1 T := ⟨#[], s1 _ _ hT0, by constructor⟩
  refine ⟨_, rfl, by decide, by decide, for_it (walk_range (lo := 0) (n := 20)) (fun i σ H2 => (∃ (v2 v3 v4 v5 v6 v7 v8 v9 v10 v11 v12 v13 : Option V), σ = [some (.ref a), some (.ref dk), v2, v3, v4, v5, v6, v7, v8, v9, v10, v11, v12, v13]) ∧ DeckAt dk gl H2 ∧ TabG H2 T) ⟨⟨_, _, _, _, _, _, _, _, _, _, _, _, rfl⟩, D1, tb1⟩ (fun _ _ _ _ _ => trivial) ?_ ?_⟩
  rotate_left
  · rintro σ H2 ⟨⟨_, _, _, _, _, _, _, _, _, _, _, _, rfl⟩, D2, _⟩
    exact rfl
  rintro i y σ H2 H3 hi ⟨⟨_, _, _, _, _, _, _, _, _, _, _, _, rfl⟩, D2, tb2⟩ ⟨rfl, rfl⟩
  refine ⟨_, rfl, dk, gl, rfl, D2, fun p h r m H4 e4 D4 hp h1 h5 r1 r6 m2 m24 => ?_⟩
  refine ⟨p, _, rfl, SqT.of hp, rfl, _, _, rfl, _, _, rfl, _, _, rfl, rfl, ?_⟩
  have tb4 : TabG H4 T := TabG.ext tb2 D2 e4
  refine ⟨_, rfl, _, rfl, _, rfl, _, rfl, dk, gl, h, r, m, rfl, D4, h1, h5, r1, r6, m2, m24, fun hv ds ws H5 e5 D5 rh0 ok => ?_⟩
  have tb5 : TabG H5 T := TabG.ext tb4 D4 e5
  have rhA : Rp (avD dk gl) H5 hv (houseD ds ws) := rh0.weak fun b z => dom_deck D4 z
  refine ⟨_, rfl, _, rfl, dk, gl, hv, ds, ws, h, r, rfl, D5, rhA, ok, h1, h5, r1, r6, fun v d H6 e6 D6 rvA nv wv => ?_⟩
  have S6 : Std dk gl T hv v ds ws d H6 := ⟨D6, TabG.ext tb5 D5 e6, Rp.offT (TabG.ext tb5 D5 e6) (rhA.mono e6), Rp.offT (TabG.ext tb5 D5 e6) rvA⟩
  have nh := (house_ok2 ok h5 r6).1
  have wh := house_w ok h5 r6
  obtain ⟨nb, wb⟩ := both_ok (nh.up (show 5 ≤ 9 by decide)) nv wh wv
  have l5 : ws.length ≤ 5 := by have := ok.wl; omega
  clear rhA rh0 rvA e6 e5 e4 tb2 tb4 tb5 D2 D4 D5
  refine ⟨_, rfl, _, v, d, rfl, S6.rv, by omega, fun due H7 s7 rdue => ?_⟩
  have S7 := S6.same s7
  refine ⟨_, rfl, _, rfl, (by show 2 ≤ sizeLine; decide), fun L hL => ?_⟩
  have s8 := same_new hL (.lst [hv, v])
  have S8 := S7.same s8
  have rdue8 := rdue.mono (Ext.of_same s8)
  have rL : Rp (fun _ => False) (upd H7 L (.lst [hv, v])) (.ref L) (.list [houseD ds ws, d]) := .lst (fun z => z) upd_same (.cons (S8.rh.weak fun _ z => z.elim) (.cons (S8.rv.weak fun _ z => z.elim) .nil))
  generalize upd H7 L (.lst [hv, v]) = H8 at S8 rdue8 rL
  refine ⟨_, _, _, rfl, rL, nb.sw, nb.fits wb, Nat.le_trans nb.dp (by decide), _, _, rfl, ?_⟩
  refine ⟨_, rfl, rfl, _, rfl, ?_⟩
  refine ite2 (fun _ => ?_) (fun _ => ?_)
  all_goals refine ⟨_, rfl, _, v, d, rfl, S8.rv, by omega, fun told H9 s9 rtold => ?_⟩
  · walk_at "law4 rest"
  · walk_at "law4 rest"
end
end Rw
end
namespace Rw
open PySem L2 PyProof.Rows
theorem def_of {K : PySem.W.Frag} {h : Heap} {mg : Str → Option Value} {x : Str} {st : Stmt} {f : Addr} {c1 : Value} {o1 o2 : Option Addr} {sl : Array (Option Value)} {c2 c3 c4 c5 c6 : Value} {ps : List Str} (X : K.In h) (G : h.Ns mainGlobals mg)
    (a : PySem.W.nsIn K mainGlobals x = some (some (.ref f))) (look : K.lookup f = some ⟨c1, o1, .func (PySem.W.fnOf x x (defArgs st) (defBody st) (defScope st) .none c2 c3 c4 o2 c5 c6), sl⟩) (code : PySem.W.codeIn K c5 x = true) (keep : PySem.W.keepIn K (.ref f) = true)
    (bind : ∀ (kV doc pm : Value) (an : Option Addr) (cdv ct : Value) (us : List Value), us.length = ps.length → bindArgs (PySem.W.fnOf x x (defArgs st) (defBody st) (defScope st) .none kV doc pm an cdv ct) ⟨us, []⟩ = pure (ps.zip us)) : Def K mg x st ps :=
  ⟨_, _, fun_mk look code keep, PySem.W.mg_of X G a, (fun_mk look code keep).binds bind⟩

theorem all_mk {l : PySem.W.OpenLaw} {w : World} {K : PySem.W.Frag} {h : Heap} {mg : Str → Option Value} {fa : Addr} (X : K.In h) (G : h.Ns mainGlobals mg) (hfa : mg "law" = some (.ref fa))
    {f1 f2 f3 f4 f5 f6 f7 f8 f9 f10 f11 f12 f13 f14 f15 f16 f17 f18 f19 f20 f21 f22 f23 f24 f25 f26 f27 f28 f29 f30 f31 f32 f33 f34 f35 f36 f37 : Addr} {od1 an1 od2 an2 od3 an3 od4 an4 od5 an5 od6 an6 od7 an7 od8 an8 od9 an9 od10 an10 od11 an11 od12 an12 od13 an13 od14 an14 od15 an15 od16 an16 od17 an17 od18 an18 od19 an19 od20 an20 od21 an21 od22 an22 od23 an23 od24 an24 od25 an25 od26 an26 od27 an27 od28 an28 od29 an29 od30 an30 od31 an31 od32 an32 od33 an33 od34 an34 od35 an35 od36 an36 od37 an37 : Option Addr} {sl1 sl2 sl3 sl4 sl5 sl6 sl7 sl8 sl9 sl10 sl11 sl12 sl13 sl14 sl15 sl16 sl17 sl18 sl19 sl20 sl21 sl22 sl23 sl24 sl25 sl26 sl27 sl28 sl29 sl30 sl31 sl32 sl33 sl34 sl35 sl36 sl37 : Array (Option Value)} {oc1 kV1 dc1 pm1 cd1 ct1 oc2 kV2 dc2 pm2 cd2 ct2 oc3 kV3 dc3 pm3 cd3 ct3 oc4 kV4 dc4 pm4 cd4 ct4 oc5 kV5 dc5 pm5 cd5 ct5 oc6 kV6 dc6 pm6 cd6 ct6 oc7 kV7 dc7 pm7 cd7 ct7 oc8 kV8 dc8 pm8 cd8 ct8 oc9 kV9 dc9 pm9 cd9 ct9 oc10 kV10 dc10 pm10 cd10 ct10 oc11 kV11 dc11 pm11 cd11 ct11 oc12 kV12 dc12 pm12 cd12 ct12 oc13 kV13 dc13 pm13 cd13 ct13 oc14 kV14 dc14 pm14 cd14 ct14 oc15 kV15 dc15 pm15 cd15 ct15 oc16 kV16 dc16 pm16 cd16 ct16 oc17 kV17 dc17 pm17 ct17 oc18 kV18 dc18 pm18 cd18 ct18 oc19 kV19 dc19 pm19 cd19 ct19 oc20 kV20 dc20 pm20 cd20 ct20 oc21 kV21 dc21 pm21 cd21 ct21 oc22 kV22 dc22 pm22 cd22 ct22 oc23 kV23 dc23 pm23 cd23 ct23 oc24 kV24 dc24 pm24 cd24 ct24 oc25 kV25 dc25 pm25 cd25 ct25 oc26 kV26 dc26 pm26 cd26 ct26 oc27 kV27 dc27 pm27 cd27 ct27 oc28 kV28 dc28 pm28 cd28 ct28 oc29 kV29 dc29 pm29 cd29 ct29 oc30 kV30 dc30 pm30 cd30 ct30 oc31 kV31 dc31 pm31 cd31 ct31 oc32 kV32 dc32 pm32 cd32 ct32 oc33 kV33 dc33 pm33 cd33 ct33 oc34 kV34 dc34 pm34 cd34 ct34 oc35 kV35 dc35 pm35 cd35 ct35 oc36 kV36 dc36 pm36 cd36 ct36 oc37 kV37 dc37 pm37 cd37 ct37 : Value}
    {wa cE tE : Addr} {dW dE : Option Addr} {nW t1 t2 t3 tmin tmax tro tha : Nat} {slW slE : Array (Option Value)} {eE : Value} {vsE : Array Value}
    (a1 : PySem.W.nsIn K mainGlobals "is_integer" = some (some (.ref f1))) (l1 : K.lookup f1 = some ⟨oc1, od1, .func (PySem.W.fnOf "is_integer" "is_integer" (defArgs sInteger) (defBody sInteger) (defScope sInteger) .none kV1 dc1 pm1 an1 cd1 ct1), sl1⟩) (c1 : PySem.W.codeIn K cd1 "is_integer" = true) (k1 : PySem.W.keepIn K (.ref f1) = true)
    (a2 : PySem.W.nsIn K mainGlobals "is_below" = some (some (.ref f2))) (l2 : K.lookup f2 = some ⟨oc2, od2, .func (PySem.W.fnOf "is_below" "is_below" (defArgs sBelow) (defBody sBelow) (defScope sBelow) .none kV2 dc2 pm2 an2 cd2 ct2), sl2⟩) (c2 : PySem.W.codeIn K cd2 "is_below" = true) (k2 : PySem.W.keepIn K (.ref f2) = true)
    (a3 : PySem.W.nsIn K mainGlobals "is_tuple_of" = some (some (.ref f3))) (l3 : K.lookup f3 = some ⟨oc3, od3, .func (PySem.W.fnOf "is_tuple_of" "is_tuple_of" (defArgs sTupleOf) (defBody sTupleOf) (defScope sTupleOf) .none kV3 dc3 pm3 an3 cd3 ct3), sl3⟩) (c3 : PySem.W.codeIn K cd3 "is_tuple_of" = true) (k3 : PySem.W.keepIn K (.ref f3) = true)
    (a4 : PySem.W.nsIn K mainGlobals "is_pair_of_tuples" = some (some (.ref f4))) (l4 : K.lookup f4 = some ⟨oc4, od4, .func (PySem.W.fnOf "is_pair_of_tuples" "is_pair_of_tuples" (defArgs sPairT) (defBody sPairT) (defScope sPairT) .none kV4 dc4 pm4 an4 cd4 ct4), sl4⟩) (c4 : PySem.W.codeIn K cd4 "is_pair_of_tuples" = true) (k4 : PySem.W.keepIn K (.ref f4) = true)
    (a5 : PySem.W.nsIn K mainGlobals "is_step" = some (some (.ref f5))) (l5 : K.lookup f5 = some ⟨oc5, od5, .func (PySem.W.fnOf "is_step" "is_step" (defArgs sStep) (defBody sStep) (defScope sStep) .none kV5 dc5 pm5 an5 cd5 ct5), sl5⟩) (c5 : PySem.W.codeIn K cd5 "is_step" = true) (k5 : PySem.W.keepIn K (.ref f5) = true)
    (a6 : PySem.W.nsIn K mainGlobals "nesting_error" = some (some (.ref f6))) (l6 : K.lookup f6 = some ⟨oc6, od6, .func (PySem.W.fnOf "nesting_error" "nesting_error" (defArgs sNest) (defBody sNest) (defScope sNest) .none kV6 dc6 pm6 an6 cd6 ct6), sl6⟩) (c6 : PySem.W.codeIn K cd6 "nesting_error" = true) (k6 : PySem.W.keepIn K (.ref f6) = true)
    (a7 : PySem.W.nsIn K mainGlobals "way_error" = some (some (.ref f7))) (l7 : K.lookup f7 = some ⟨oc7, od7, .func (PySem.W.fnOf "way_error" "way_error" (defArgs sWayError) (defBody sWayError) (defScope sWayError) .none kV7 dc7 pm7 an7 cd7 ct7), sl7⟩) (c7 : PySem.W.codeIn K cd7 "way_error" = true) (k7 : PySem.W.keepIn K (.ref f7) = true)
    (a8 : PySem.W.nsIn K mainGlobals "is_row" = some (some (.ref f8))) (l8 : K.lookup f8 = some ⟨oc8, od8, .func (PySem.W.fnOf "is_row" "is_row" (defArgs sRow) (defBody sRow) (defScope sRow) .none kV8 dc8 pm8 an8 cd8 ct8), sl8⟩) (c8 : PySem.W.codeIn K cd8 "is_row" = true) (k8 : PySem.W.keepIn K (.ref f8) = true)
    (a9 : PySem.W.nsIn K mainGlobals "evenness_error" = some (some (.ref f9))) (l9 : K.lookup f9 = some ⟨oc9, od9, .func (PySem.W.fnOf "evenness_error" "evenness_error" (defArgs sEven) (defBody sEven) (defScope sEven) .none kV9 dc9 pm9 an9 cd9 ct9), sl9⟩) (c9 : PySem.W.codeIn K cd9 "evenness_error" = true) (k9 : PySem.W.keepIn K (.ref f9) = true)
    (a10 : PySem.W.nsIn K mainGlobals "table_error" = some (some (.ref f10))) (l10 : K.lookup f10 = some ⟨oc10, od10, .func (PySem.W.fnOf "table_error" "table_error" (defArgs sTable) (defBody sTable) (defScope sTable) .none kV10 dc10 pm10 an10 cd10 ct10), sl10⟩) (c10 : PySem.W.codeIn K cd10 "table_error" = true) (k10 : PySem.W.keepIn K (.ref f10) = true)
    (a11 : PySem.W.nsIn K mainGlobals "is_order" = some (some (.ref f11))) (l11 : K.lookup f11 = some ⟨oc11, od11, .func (PySem.W.fnOf "is_order" "is_order" (defArgs sOrder) (defBody sOrder) (defScope sOrder) .none kV11 dc11 pm11 an11 cd11 ct11), sl11⟩) (c11 : PySem.W.codeIn K cd11 "is_order" = true) (k11 : PySem.W.keepIn K (.ref f11) = true)
    (a12 : PySem.W.nsIn K mainGlobals "orders_error" = some (some (.ref f12))) (l12 : K.lookup f12 = some ⟨oc12, od12, .func (PySem.W.fnOf "orders_error" "orders_error" (defArgs sOrders) (defBody sOrders) (defScope sOrders) .none kV12 dc12 pm12 an12 cd12 ct12), sl12⟩) (c12 : PySem.W.codeIn K cd12 "orders_error" = true) (k12 : PySem.W.keepIn K (.ref f12) = true)
    (a13 : PySem.W.nsIn K mainGlobals "door_error" = some (some (.ref f13))) (l13 : K.lookup f13 = some ⟨oc13, od13, .func (PySem.W.fnOf "door_error" "door_error" (defArgs sDoorE) (defBody sDoorE) (defScope sDoorE) .none kV13 dc13 pm13 an13 cd13 ct13), sl13⟩) (c13 : PySem.W.codeIn K cd13 "door_error" = true) (k13 : PySem.W.keepIn K (.ref f13) = true)
    (a14 : PySem.W.nsIn K mainGlobals "rooms_error" = some (some (.ref f14))) (l14 : K.lookup f14 = some ⟨oc14, od14, .func (PySem.W.fnOf "rooms_error" "rooms_error" (defArgs sRoomsE) (defBody sRoomsE) (defScope sRoomsE) .none kV14 dc14 pm14 an14 cd14 ct14), sl14⟩) (c14 : PySem.W.codeIn K cd14 "rooms_error" = true) (k14 : PySem.W.keepIn K (.ref f14) = true)
    (a15 : PySem.W.nsIn K mainGlobals "ways_error" = some (some (.ref f15))) (l15 : K.lookup f15 = some ⟨oc15, od15, .func (PySem.W.fnOf "ways_error" "ways_error" (defArgs sWaysE) (defBody sWaysE) (defScope sWaysE) .none kV15 dc15 pm15 an15 cd15 ct15), sl15⟩) (c15 : PySem.W.codeIn K cd15 "ways_error" = true) (k15 : PySem.W.keepIn K (.ref f15) = true)
    (a16 : PySem.W.nsIn K mainGlobals "house_error" = some (some (.ref f16))) (l16 : K.lookup f16 = some ⟨oc16, od16, .func (PySem.W.fnOf "house_error" "house_error" (defArgs sHouseE) (defBody sHouseE) (defScope sHouseE) .none kV16 dc16 pm16 an16 cd16 ct16), sl16⟩) (c16 : PySem.W.codeIn K cd16 "house_error" = true) (k16 : PySem.W.keepIn K (.ref f16) = true)
    (a17 : PySem.W.nsIn K mainGlobals "users" = some (some (.ref f17))) (l17 : K.lookup f17 = some ⟨oc17, od17, .func (PySem.W.fnOf "users" "users" (defArgs sUsers) (defBody sUsers) (defScope sUsers) .none kV17 dc17 pm17 an17 (.ref cE) ct17), sl17⟩) (c17 : PySem.W.codeIn K (.ref cE) "users" = true) (k17 : PySem.W.keepIn K (.ref f17) = true)
    (a18 : PySem.W.nsIn K mainGlobals "_law_deck" = some (some (.ref f18))) (l18 : K.lookup f18 = some ⟨oc18, od18, .func (PySem.W.fnOf "_law_deck" "_law_deck" (defArgs sDeck) (defBody sDeck) (defScope sDeck) .none kV18 dc18 pm18 an18 cd18 ct18), sl18⟩) (c18 : PySem.W.codeIn K cd18 "_law_deck" = true) (k18 : PySem.W.keepIn K (.ref f18) = true)
    (a19 : PySem.W.nsIn K mainGlobals "_law_draw" = some (some (.ref f19))) (l19 : K.lookup f19 = some ⟨oc19, od19, .func (PySem.W.fnOf "_law_draw" "_law_draw" (defArgs sDraw) (defBody sDraw) (defScope sDraw) .none kV19 dc19 pm19 an19 cd19 ct19), sl19⟩) (c19 : PySem.W.codeIn K cd19 "_law_draw" = true) (k19 : PySem.W.keepIn K (.ref f19) = true)
    (a20 : PySem.W.nsIn K mainGlobals "_law_pick" = some (some (.ref f20))) (l20 : K.lookup f20 = some ⟨oc20, od20, .func (PySem.W.fnOf "_law_pick" "_law_pick" (defArgs sPick) (defBody sPick) (defScope sPick) .none kV20 dc20 pm20 an20 cd20 ct20), sl20⟩) (c20 : PySem.W.codeIn K cd20 "_law_pick" = true) (k20 : PySem.W.keepIn K (.ref f20) = true)
    (a21 : PySem.W.nsIn K mainGlobals "_law_mixed" = some (some (.ref f21))) (l21 : K.lookup f21 = some ⟨oc21, od21, .func (PySem.W.fnOf "_law_mixed" "_law_mixed" (defArgs sMixed) (defBody sMixed) (defScope sMixed) .none kV21 dc21 pm21 an21 cd21 ct21), sl21⟩) (c21 : PySem.W.codeIn K cd21 "_law_mixed" = true) (k21 : PySem.W.keepIn K (.ref f21) = true)
    (a22 : PySem.W.nsIn K mainGlobals "_law_whole" = some (some (.ref f22))) (l22 : K.lookup f22 = some ⟨oc22, od22, .func (PySem.W.fnOf "_law_whole" "_law_whole" (defArgs sWhole) (defBody sWhole) (defScope sWhole) .none kV22 dc22 pm22 an22 cd22 ct22), sl22⟩) (c22 : PySem.W.codeIn K cd22 "_law_whole" = true) (k22 : PySem.W.keepIn K (.ref f22) = true)
    (a23 : PySem.W.nsIn K mainGlobals "_law_same" = some (some (.ref f23))) (l23 : K.lookup f23 = some ⟨oc23, od23, .func (PySem.W.fnOf "_law_same" "_law_same" (defArgs sSame) (defBody sSame) (defScope sSame) .none kV23 dc23 pm23 an23 cd23 ct23), sl23⟩) (c23 : PySem.W.codeIn K cd23 "_law_same" = true) (k23 : PySem.W.keepIn K (.ref f23) = true)
    (a24 : PySem.W.nsIn K mainGlobals "_law_any" = some (some (.ref f24))) (l24 : K.lookup f24 = some ⟨oc24, od24, .func (PySem.W.fnOf "_law_any" "_law_any" (defArgs sAny) (defBody sAny) (defScope sAny) .none kV24 dc24 pm24 an24 cd24 ct24), sl24⟩) (c24 : PySem.W.codeIn K cd24 "_law_any" = true) (k24 : PySem.W.keepIn K (.ref f24) = true)
    (a25 : PySem.W.nsIn K mainGlobals "_law_other" = some (some (.ref f25))) (l25 : K.lookup f25 = some ⟨oc25, od25, .func (PySem.W.fnOf "_law_other" "_law_other" (defArgs sOther) (defBody sOther) (defScope sOther) .none kV25 dc25 pm25 an25 cd25 ct25), sl25⟩) (c25 : PySem.W.codeIn K cd25 "_law_other" = true) (k25 : PySem.W.keepIn K (.ref f25) = true)
    (a26 : PySem.W.nsIn K mainGlobals "_law_bent" = some (some (.ref f26))) (l26 : K.lookup f26 = some ⟨oc26, od26, .func (PySem.W.fnOf "_law_bent" "_law_bent" (defArgs sBent) (defBody sBent) (defScope sBent) .none kV26 dc26 pm26 an26 cd26 ct26), sl26⟩) (c26 : PySem.W.codeIn K cd26 "_law_bent" = true) (k26 : PySem.W.keepIn K (.ref f26) = true)
    (a27 : PySem.W.nsIn K mainGlobals "_law_way" = some (some (.ref f27))) (l27 : K.lookup f27 = some ⟨oc27, od27, .func (PySem.W.fnOf "_law_way" "_law_way" (defArgs sWay) (defBody sWay) (defScope sWay) .none kV27 dc27 pm27 an27 cd27 ct27), sl27⟩) (c27 : PySem.W.codeIn K cd27 "_law_way" = true) (k27 : PySem.W.keepIn K (.ref f27) = true)
    (a28 : PySem.W.nsIn K mainGlobals "_law_door" = some (some (.ref f28))) (l28 : K.lookup f28 = some ⟨oc28, od28, .func (PySem.W.fnOf "_law_door" "_law_door" (defArgs sDoor) (defBody sDoor) (defScope sDoor) .none kV28 dc28 pm28 an28 cd28 ct28), sl28⟩) (c28 : PySem.W.codeIn K cd28 "_law_door" = true) (k28 : PySem.W.keepIn K (.ref f28) = true)
    (a29 : PySem.W.nsIn K mainGlobals "_law_house" = some (some (.ref f29))) (l29 : K.lookup f29 = some ⟨oc29, od29, .func (PySem.W.fnOf "_law_house" "_law_house" (defArgs sHouse) (defBody sHouse) (defScope sHouse) .none kV29 dc29 pm29 an29 cd29 ct29), sl29⟩) (c29 : PySem.W.codeIn K cd29 "_law_house" = true) (k29 : PySem.W.keepIn K (.ref f29) = true)
    (a30 : PySem.W.nsIn K mainGlobals "_law_sizes" = some (some (.ref f30))) (l30 : K.lookup f30 = some ⟨oc30, od30, .func (PySem.W.fnOf "_law_sizes" "_law_sizes" (defArgs sSizes) (defBody sSizes) (defScope sSizes) .none kV30 dc30 pm30 an30 cd30 ct30), sl30⟩) (c30 : PySem.W.codeIn K cd30 "_law_sizes" = true) (k30 : PySem.W.keepIn K (.ref f30) = true)
    (a31 : PySem.W.nsIn K mainGlobals "_law_way_fault" = some (some (.ref f31))) (l31 : K.lookup f31 = some ⟨oc31, od31, .func (PySem.W.fnOf "_law_way_fault" "_law_way_fault" (defArgs sWayFault) (defBody sWayFault) (defScope sWayFault) .none kV31 dc31 pm31 an31 cd31 ct31), sl31⟩) (c31 : PySem.W.codeIn K cd31 "_law_way_fault" = true) (k31 : PySem.W.keepIn K (.ref f31) = true)
    (a32 : PySem.W.nsIn K mainGlobals "_law_is_row" = some (some (.ref f32))) (l32 : K.lookup f32 = some ⟨oc32, od32, .func (PySem.W.fnOf "_law_is_row" "_law_is_row" (defArgs sLawRow) (defBody sLawRow) (defScope sLawRow) .none kV32 dc32 pm32 an32 cd32 ct32), sl32⟩) (c32 : PySem.W.codeIn K cd32 "_law_is_row" = true) (k32 : PySem.W.keepIn K (.ref f32) = true)
    (a33 : PySem.W.nsIn K mainGlobals "_law_is_order" = some (some (.ref f33))) (l33 : K.lookup f33 = some ⟨oc33, od33, .func (PySem.W.fnOf "_law_is_order" "_law_is_order" (defArgs sLawOrder) (defBody sLawOrder) (defScope sLawOrder) .none kV33 dc33 pm33 an33 cd33 ct33), sl33⟩) (c33 : PySem.W.codeIn K cd33 "_law_is_order" = true) (k33 : PySem.W.keepIn K (.ref f33) = true)
    (a34 : PySem.W.nsIn K mainGlobals "_law_door_fault" = some (some (.ref f34))) (l34 : K.lookup f34 = some ⟨oc34, od34, .func (PySem.W.fnOf "_law_door_fault" "_law_door_fault" (defArgs sFault) (defBody sFault) (defScope sFault) .none kV34 dc34 pm34 an34 cd34 ct34), sl34⟩) (c34 : PySem.W.codeIn K cd34 "_law_door_fault" = true) (k34 : PySem.W.keepIn K (.ref f34) = true)
    (a35 : PySem.W.nsIn K mainGlobals "_law_house_fault" = some (some (.ref f35))) (l35 : K.lookup f35 = some ⟨oc35, od35, .func (PySem.W.fnOf "_law_house_fault" "_law_house_fault" (defArgs sHouseF) (defBody sHouseF) (defScope sHouseF) .none kV35 dc35 pm35 an35 cd35 ct35), sl35⟩) (c35 : PySem.W.codeIn K cd35 "_law_house_fault" = true) (k35 : PySem.W.keepIn K (.ref f35) = true)
    (a36 : PySem.W.nsIn K mainGlobals "_law_value" = some (some (.ref f36))) (l36 : K.lookup f36 = some ⟨oc36, od36, .func (PySem.W.fnOf "_law_value" "_law_value" (defArgs sValue) (defBody sValue) (defScope sValue) .none kV36 dc36 pm36 an36 cd36 ct36), sl36⟩) (c36 : PySem.W.codeIn K cd36 "_law_value" = true) (k36 : PySem.W.keepIn K (.ref f36) = true)
    (a37 : PySem.W.nsIn K mainGlobals "law" = some (some (.ref f37))) (l37 : K.lookup f37 = some ⟨oc37, od37, .func (PySem.W.fnOf "law" "law" (defArgs sLaw) (defBody sLaw) (defScope sLaw) .none kV37 dc37 pm37 an37 cd37 ct37), sl37⟩) (c37 : PySem.W.codeIn K cd37 "law" = true) (k37 : PySem.W.keepIn K (.ref f37) = true)
    (lE : K.lookup cE = some ⟨eE, dE, .fields vsE, slE⟩) (xE : vsE[11]? = some (.ref tE)) (nE : K.lookup tE = none)
    (cW : PySem.W.nsIn K mainGlobals "WORDS" = some (some (.ref wa))) (lW : K.lookup wa = some ⟨.type "tuple", dW, .seq #[.str "stand" t1, .str "bow" t2, .str "even" t3] nW, slW⟩)
    (cMin : PySem.W.nsIn K mainGlobals "MIN_STEPS" = some (some (.int 2 tmin))) (cMax : PySem.W.nsIn K mainGlobals "MAX_STEPS" = some (some (.int 24 tmax))) (cRo : PySem.W.nsIn K mainGlobals "MAX_ROOMS" = some (some (.int 6 tro))) (cHa : PySem.W.nsIn K mainGlobals "MAX_HANDS" = some (some (.int 5 tha)))
    (y_all : PySem.W.nsIn K mainGlobals "all" = some none) (y_sorted : PySem.W.nsIn K mainGlobals "sorted" = some none) (z_abs : PySem.W.nsIn K mainGlobals "abs" = some none) (z_int : PySem.W.nsIn K mainGlobals "int" = some none) (z_bool : PySem.W.nsIn K mainGlobals "bool" = some none) (z_str : PySem.W.nsIn K mainGlobals "str" = some none) (z_len : PySem.W.nsIn K mainGlobals "len" = some none) (z_isi : PySem.W.nsIn K mainGlobals "isinstance" = some none) (z_enu : PySem.W.nsIn K mainGlobals "enumerate" = some none) (z_rng : PySem.W.nsIn K mainGlobals "range" = some none) (z_list : PySem.W.nsIn K mainGlobals "list" = some none) (z_tup : PySem.W.nsIn K mainGlobals "tuple" = some none) (z_repr : PySem.W.nsIn K mainGlobals "repr" = some none) :
    ∃ cs : List (Addr × Addr), (∀ p ∈ cs, ∃ x ∈ (["users"] : List Str), TabOf K mg x p) ∧ ∀ (a : Addr) (ns : List Int), ns.length ≤ 63 → RunsG l.prog w K mg fa cs a ns := by
  have e := hfa.symm.trans (PySem.W.mg_of X G a37)
  cases e
  have B : Blt mg := ⟨PySem.W.mg_none_of X G z_abs, PySem.W.mg_none_of X G z_int, PySem.W.mg_none_of X G z_bool, PySem.W.mg_none_of X G z_str, PySem.W.mg_none_of X G z_len, PySem.W.mg_none_of X G z_isi, PySem.W.mg_none_of X G z_enu, PySem.W.mg_none_of X G z_rng, PySem.W.mg_none_of X G z_list, PySem.W.mg_none_of X G z_tup, PySem.W.mg_none_of X G z_repr⟩
  have D1 : Def K mg "is_integer" sInteger ["value"] := def_of X G a1 l1 c1 k1 fun _ _ _ _ _ _ us hl => match us, hl with | [_], _ => rfl
  have D2 : Def K mg "is_below" sBelow ["value", "many"] := def_of X G a2 l2 c2 k2 fun _ _ _ _ _ _ us hl => match us, hl with | [_, _], _ => rfl
  have D3 : Def K mg "is_tuple_of" sTupleOf ["value", "many"] := def_of X G a3 l3 c3 k3 fun _ _ _ _ _ _ us hl => match us, hl with | [_, _], _ => rfl
  have D4 : Def K mg "is_pair_of_tuples" sPairT ["value"] := def_of X G a4 l4 c4 k4 fun _ _ _ _ _ _ us hl => match us, hl with | [_], _ => rfl
  have D5 : Def K mg "is_step" sStep ["many", "value"] := def_of X G a5 l5 c5 k5 fun _ _ _ _ _ _ us hl => match us, hl with | [_, _], _ => rfl
  have D6 : Def K mg "nesting_error" sNest ["steps"] := def_of X G a6 l6 c6 k6 fun _ _ _ _ _ _ us hl => match us, hl with | [_], _ => rfl
  have D7 : Def K mg "way_error" sWayError ["many", "value"] := def_of X G a7 l7 c7 k7 fun _ _ _ _ _ _ us hl => match us, hl with | [_, _], _ => rfl
  have D8 : Def K mg "is_row" sRow ["hands", "hand", "value"] := def_of X G a8 l8 c8 k8 fun _ _ _ _ _ _ us hl => match us, hl with | [_, _, _], _ => rfl
  have D9 : Def K mg "evenness_error" sEven ["table"] := def_of X G a9 l9 c9 k9 fun _ _ _ _ _ _ us hl => match us, hl with | [_], _ => rfl
  have D10 : Def K mg "table_error" sTable ["hands", "table"] := def_of X G a10 l10 c10 k10 fun _ _ _ _ _ _ us hl => match us, hl with | [_, _], _ => rfl
  have D11 : Def K mg "is_order" sOrder ["hands", "hand", "value"] := def_of X G a11 l11 c11 k11 fun _ _ _ _ _ _ us hl => match us, hl with | [_, _, _], _ => rfl
  have D12 : Def K mg "orders_error" sOrders ["hands", "orders"] := def_of X G a12 l12 c12 k12 fun _ _ _ _ _ _ us hl => match us, hl with | [_, _], _ => rfl
  have D13 : Def K mg "door_error" sDoorE ["hands", "value"] := def_of X G a13 l13 c13 k13 fun _ _ _ _ _ _ us hl => match us, hl with | [_, _], _ => rfl
  have D14 : Def K mg "rooms_error" sRoomsE ["rooms", "hands"] := def_of X G a14 l14 c14 k14 fun _ _ _ _ _ _ us hl => match us, hl with | [_, _], _ => rfl
  have D15 : Def K mg "ways_error" sWaysE ["many", "ways"] := def_of X G a15 l15 c15 k15 fun _ _ _ _ _ _ us hl => match us, hl with | [_, _], _ => rfl
  have D16 : Def K mg "house_error" sHouseE ["value"] := def_of X G a16 l16 c16 k16 fun _ _ _ _ _ _ us hl => match us, hl with | [_], _ => rfl
  have D18 : Def K mg "_law_deck" sDeck ["script"] := def_of X G a18 l18 c18 k18 fun _ _ _ _ _ _ us hl => match us, hl with | [_], _ => rfl
  have D19 : Def K mg "_law_draw" sDraw ["deck", "many"] := def_of X G a19 l19 c19 k19 fun _ _ _ _ _ _ us hl => match us, hl with | [_, _], _ => rfl
  have D20 : Def K mg "_law_pick" sPick ["deck", "items"] := def_of X G a20 l20 c20 k20 fun _ _ _ _ _ _ us hl => match us, hl with | [_, _], _ => rfl
  have D21 : Def K mg "_law_mixed" sMixed ["deck", "items"] := def_of X G a21 l21 c21 k21 fun _ _ _ _ _ _ us hl => match us, hl with | [_, _], _ => rfl
  have D22 : Def K mg "_law_whole" sWhole ["value", "least", "most"] := def_of X G a22 l22 c22 k22 fun _ _ _ _ _ _ us hl => match us, hl with | [_, _, _], _ => rfl
  have D23 : Def K mg "_law_same" sSame ["found", "due"] := def_of X G a23 l23 c23 k23 fun _ _ _ _ _ _ us hl => match us, hl with | [_, _], _ => rfl
  have D24 : Def K mg "_law_any" sAny ["deck", "deep"] := def_of X G a24 l24 c24 k24 fun _ _ _ _ _ _ us hl => match us, hl with | [_, _], _ => rfl
  have D25 : Def K mg "_law_other" sOther ["deck", "item"] := def_of X G a25 l25 c25 k25 fun _ _ _ _ _ _ us hl => match us, hl with | [_, _], _ => rfl
  have D26 : Def K mg "_law_bent" sBent ["deck", "value", "deep"] := def_of X G a26 l26 c26 k26 fun _ _ _ _ _ _ us hl => match us, hl with | [_, _, _], _ => rfl
  have D27 : Def K mg "_law_way" sWay ["deck", "rooms", "most"] := def_of X G a27 l27 c27 k27 fun _ _ _ _ _ _ us hl => match us, hl with | [_, _, _], _ => rfl
  have D28 : Def K mg "_law_door" sDoor ["deck", "hands"] := def_of X G a28 l28 c28 k28 fun _ _ _ _ _ _ us hl => match us, hl with | [_, _], _ => rfl
  have D29 : Def K mg "_law_house" sHouse ["deck", "hands", "rooms", "most"] := def_of X G a29 l29 c29 k29 fun _ _ _ _ _ _ us hl => match us, hl with | [_, _, _, _], _ => rfl
  have D30 : Def K mg "_law_sizes" sSizes ["deck"] := def_of X G a30 l30 c30 k30 fun _ _ _ _ _ _ us hl => match us, hl with | [_], _ => rfl
  have D31 : Def K mg "_law_way_fault" sWayFault ["many", "value"] := def_of X G a31 l31 c31 k31 fun _ _ _ _ _ _ us hl => match us, hl with | [_, _], _ => rfl
  have D32 : Def K mg "_law_is_row" sLawRow ["hands", "i", "row"] := def_of X G a32 l32 c32 k32 fun _ _ _ _ _ _ us hl => match us, hl with | [_, _, _], _ => rfl
  have D33 : Def K mg "_law_is_order" sLawOrder ["hands", "i", "row"] := def_of X G a33 l33 c33 k33 fun _ _ _ _ _ _ us hl => match us, hl with | [_, _, _], _ => rfl
  have D34 : Def K mg "_law_door_fault" sFault ["hands", "value"] := def_of X G a34 l34 c34 k34 fun _ _ _ _ _ _ us hl => match us, hl with | [_, _], _ => rfl
  have D35 : Def K mg "_law_house_fault" sHouseF ["value"] := def_of X G a35 l35 c35 k35 fun _ _ _ _ _ _ us hl => match us, hl with | [_], _ => rfl
  have D36 : Def K mg "_law_value" sValue ["deck", "house"] := def_of X G a36 l36 c36 k36 fun _ _ _ _ _ _ us hl => match us, hl with | [_, _], _ => rfl
  refine ⟨[(cE, tE)], fun p hp => ?_, ?_⟩
  · rw [List.mem_singleton.mp hp]
    exact ⟨"users", List.mem_singleton.mpr rfl, ⟨f17, _, _, eE, dE, vsE, slE, PySem.W.mg_of X G a17, l17, rfl, rfl, lE, xE, nE⟩⟩
  intro a ns len base H s0 en hS hT0 hTB sys
  have hT := hT0 (cE, tE) (List.mem_singleton.mpr rfl)
  have TB := hTB (cE, tE) (List.mem_singleton.mpr rfl)
  have hmin : ∃ t, mg "MIN_STEPS" = some (.int 2 t) := ⟨_, PySem.W.mg_of X G cMin⟩
  have hmax : ∃ t, mg "MAX_STEPS" = some (.int 24 t) := ⟨_, PySem.W.mg_of X G cMax⟩
  have hro : ∃ t, mg "MAX_ROOMS" = some (.int 6 t) := ⟨_, PySem.W.mg_of X G cRo⟩
  have hha : ∃ t, mg "MAX_HANDS" = some (.int 5 t) := ⟨_, PySem.W.mg_of X G cHa⟩
  have C : Blt2 mg := ⟨PySem.W.mg_none_of X G y_all, PySem.W.mg_none_of X G y_sorted, _, PySem.W.mg_of X G cW⟩
  have hW : ∀ (b : Addr) (H : Hp), mg "WORDS" = some (.ref b) → SqT K H b (zsW.map V.str) := fun b H e => by
    have z := (PySem.W.mg_of X G cW).symm.trans e
    cases z
    exact .inr ⟨_, _, _, lW, rfl, rfl, by show 3 ≤ sizeLine; decide, .cons ⟨t1, rfl⟩ (.cons ⟨t2, rfl⟩ (.cons ⟨t3, rfl⟩ .nil))⟩
  have Ei : Dfn l.prog w K mg base "is_integer" ["value"] 1 spInteger := D1.ok fun f fd F => ok_integer F B
  have Eb : Dfn l.prog w K mg base "is_below" ["value", "many"] 2 spBelow := D2.ok fun f fd F => ok_below F Ei
  have Et : Dfn l.prog w K mg base "is_tuple_of" ["value", "many"] 1 spTupleOf := D3.ok fun f fd F => ok_tupleOf F B
  have Ep : Dfn l.prog w K mg base "is_pair_of_tuples" ["value"] 2 spPairT := D4.ok fun f fd F => ok_pairT F B Et
  have Es : Dfn l.prog w K mg base "is_step" ["many", "value"] 3 spStep := D5.ok fun f fd F => ok_step F Et Eb
  have En : Dfn l.prog w K mg base "nesting_error" ["steps"] 1 spNest := D6.ok fun f fd F => ok_nest F B
  have Ew : Dfn l.prog w K mg base "way_error" ["many", "value"] 4 spWayError := D7.ok fun f fd F => ok_wayError F B hmin hmax Es En
  have Er : Dfn l.prog w K mg base "is_row" ["hands", "hand", "value"] 2 spRow := D8.ok fun f fd F => ok_row F C hW Et
  have Ee : Dfn l.prog w K mg base "evenness_error" ["table"] 1 spEven := D9.ok fun f fd F => ok_even F B
  have Eta : Dfn l.prog w K mg base "table_error" ["hands", "table"] 3 spTable := D10.ok fun f fd F => ok_table F B Er Ee
  have Eo : Dfn l.prog w K mg base "is_order" ["hands", "hand", "value"] 2 spOrder := D11.ok fun f fd F => ok_order F B C Et Ei
  have Eos : Dfn l.prog w K mg base "orders_error" ["hands", "orders"] 3 spOrders := D12.ok fun f fd F => ok_orders F B Eo
  have Ed : Dfn l.prog w K mg base "door_error" ["hands", "value"] 4 spDoorE := D13.ok fun f fd F => ok_doorE F Ep Eta Eos
  have Ero : Dfn l.prog w K mg base "rooms_error" ["rooms", "hands"] 5 spRoomsE := D14.ok fun f fd F => ok_roomsE F B Ed
  have Ewa : Dfn l.prog w K mg base "ways_error" ["many", "ways"] 5 spWaysE := D15.ok fun f fd F => ok_waysE F B Ew
  have Eh : Dfn l.prog w K mg base "house_error" ["value"] 6 spHouseE := D16.ok fun f fd F => ok_houseE F B hro hha Ep Ero Ewa
  have L1 : Dfn l.prog w K mg base "_law_deck" ["script"] 1 (spDeck K) := D18.ok fun f fd F => ok_deck F B
  have L2 : Dfn l.prog w K mg base "_law_draw" ["deck", "many"] 1 spDraw := D19.ok fun f fd F => ok_draw F B
  have L3 : Dfn l.prog w K mg base "_law_pick" ["deck", "items"] 2 spPick := D20.ok fun f fd F => ok_pick F B L2
  have L4 : Dfn l.prog w K mg base "_law_mixed" ["deck", "items"] 2 spMixed := D21.ok fun f fd F => ok_mixed F B L2
  have L5 : Dfn l.prog w K mg base "_law_whole" ["value", "least", "most"] 1 spWhole := D22.ok fun f fd F => ok_whole F B
  have L6 : Dfn l.prog w K mg base "_law_same" ["found", "due"] 3 (spSame 3) := same_all D23 B 3
  have L7 : Dfn l.prog w K mg base "_law_any" ["deck", "deep"] 5 (spAny 3) := any_all D24 B L2 L3 3
  have L7b : Dfn l.prog w K mg base "_law_any" ["deck", "deep"] 7 (spAny 5) := any_all D24 B L2 L3 5
  have L8 : Dfn l.prog w K mg base "_law_other" ["deck", "item"] 6 spOther := D25.ok fun f fd F => ok_other F B L2 L3 L5 L7
  have L9 : Dfn l.prog w K mg base "_law_bent" ["deck", "value", "deep"] 11 (spBent 5) := bent_all D26 B L2 L8 5
  have L10 : Dfn l.prog w K mg base "_law_way" ["deck", "rooms", "most"] 3 spWay := D27.ok fun f fd F => ok_way F B L2 L3
  have L11 : Dfn l.prog w K mg base "_law_door" ["deck", "hands"] 3 spDoor := D28.ok fun f fd F => ok_door F B L3 L4
  have L12 : Dfn l.prog w K mg base "_law_house" ["deck", "hands", "rooms", "most"] 4 spHouse := D29.ok fun f fd F => ok_house F B L2 L11 L10
  have L13 : Dfn l.prog w K mg base "_law_sizes" ["deck"] 3 spSizes := D30.ok fun f fd F => ok_sizes F B L2 L3
  have L14 : Dfn l.prog w K mg base "_law_way_fault" ["many", "value"] 2 spWayError := D31.ok fun f fd F => ok_wayFault F B L5
  have L15 : Dfn l.prog w K mg base "_law_is_row" ["hands", "i", "row"] 1 spRow := D32.ok fun f fd F => ok_lawRow F B
  have L16 : Dfn l.prog w K mg base "_law_is_order" ["hands", "i", "row"] 2 spOrder := D33.ok fun f fd F => ok_lawOrder F B C L5
  have L17 : Dfn l.prog w K mg base "_law_door_fault" ["hands", "value"] 3 spDoorE := D34.ok fun f fd F => ok_fault F B L15 L16
  have L18 : Dfn l.prog w K mg base "_law_house_fault" ["value"] 4 spHouseE := D35.ok fun f fd F => ok_houseF F B L17 L14
  have L19 : Dfn l.prog w K mg base "_law_value" ["deck", "house"] 12 spValue := D36.ok fun f fd F => ok_value F B L2 L3 L7b L11 L9
  have KH : KD l.prog w K mg base "house_error" ["value"] ["value"] 6 spHouseE gOne := by
    obtain ⟨fw, fdw, Fw, mw, bw⟩ := D16.ex
    refine ⟨fw, fdw, ok_houseE Fw B hro hha Ep Ero Ewa, mw, Fw.kp, kb_one fun s a => ?_⟩
    obtain ⟨c1, c2, c3, c4, c5, c6, c7, c8, c9, rfl, look, code⟩ := Fw.ex
    exact .of_eq rfl
  have U : DfG l.prog w K mg base "users" ["house", "room"] ["room", "house"] 13 (spUsers tE) gHeld :=
    ⟨_, _, ok_users l17 c17 B TB, PySem.W.mg_of X G a17, k17, (fun_mk (st := sUsers) l17 c17 k17).binds fun _ _ _ _ _ _ us hl => match us, hl with | [_, _], _ => rfl, kb_two fun s a b => .of_eq rfl⟩
  exact law_ok (fun_mk (st := sLaw) l37 c37 k37) B sys L1 L13 L12 L19 L18 Eh KH L6 U len en hS hT
end Rw


open PySem PySem.W PyProof.Rows in
set_option maxRecDepth 100000 in
set_option maxHeartbeats 0 in
theorem PySem.Challenge.cw_roomways_k04_what_houses_are_holds : PySem.Challenge.rw_roomways_k04_what_houses_are.Holds := by
  w_on; o_law; k_head; (case hw => w_witness2)
  k_fill
  refine Rw.walksG (n := 63) (xs := ["users"]) (l := PySem.Challenge.rw_roomways_k04_what_houses_are) rfl (by decide) rfl (by decide +kernel) (by decide +kernel) (fun w h Y => PySem.W.kIn_of Y) ?F
  case F =>
    intro w mg fa h X G hmg
    refine' Rw.all_mk X G hmg ?a1 ?l1 ?c1 ?k1 ?a2 ?l2 ?c2 ?k2 ?a3 ?l3 ?c3 ?k3 ?a4 ?l4 ?c4 ?k4 ?a5 ?l5 ?c5 ?k5 ?a6 ?l6 ?c6 ?k6 ?a7 ?l7 ?c7 ?k7 ?a8 ?l8 ?c8 ?k8 ?a9 ?l9 ?c9 ?k9 ?a10 ?l10 ?c10 ?k10 ?a11 ?l11 ?c11 ?k11 ?a12 ?l12 ?c12 ?k12 ?a13 ?l13 ?c13 ?k13 ?a14 ?l14 ?c14 ?k14 ?a15 ?l15 ?c15 ?k15 ?a16 ?l16 ?c16 ?k16 ?a17 ?l17 ?c17 ?k17 ?a18 ?l18 ?c18 ?k18 ?a19 ?l19 ?c19 ?k19 ?a20 ?l20 ?c20 ?k20 ?a21 ?l21 ?c21 ?k21 ?a22 ?l22 ?c22 ?k22 ?a23 ?l23 ?c23 ?k23 ?a24 ?l24 ?c24 ?k24 ?a25 ?l25 ?c25 ?k25 ?a26 ?l26 ?c26 ?k26 ?a27 ?l27 ?c27 ?k27 ?a28 ?l28 ?c28 ?k28 ?a29 ?l29 ?c29 ?k29 ?a30 ?l30 ?c30 ?k30 ?a31 ?l31 ?c31 ?k31 ?a32 ?l32 ?c32 ?k32 ?a33 ?l33 ?c33 ?k33 ?a34 ?l34 ?c34 ?k34 ?a35 ?l35 ?c35 ?k35 ?a36 ?l36 ?c36 ?k36 ?a37 ?l37 ?c37 ?k37 ?lE ?xE ?nE ?cW ?lW ?cMin ?cMax ?cRo ?cHa ?y_all ?y_sorted ?z_abs ?z_int ?z_bool ?z_str ?z_len ?z_isi ?z_enu ?z_rng ?z_list ?z_tup ?z_repr
    (case a1 => first | k_is | rfl | decide +kernel)
    (case l1 => first | k_is | rfl | decide +kernel)
    (case c1 => first | k_is | rfl | decide +kernel)
    (case k1 => first | k_is | rfl | decide +kernel)
    (case a2 => first | k_is | rfl | decide +kernel)
    (case l2 => first | k_is | rfl | decide +kernel)
    (case c2 => first | k_is | rfl | decide +kernel)
    (case k2 => first | k_is | rfl | decide +kernel)
    (case a3 => first | k_is | rfl | decide +kernel)
    (case l3 => first | k_is | rfl | decide +kernel)
    (case c3 => first | k_is | rfl | decide +kernel)
    (case k3 => first | k_is | rfl | decide +kernel)
    (case a4 => first | k_is | rfl | decide +kernel)
    (case l4 => first | k_is | rfl | decide +kernel)
    (case c4 => first | k_is | rfl | decide +kernel)
    (case k4 => first | k_is | rfl | decide +kernel)
    (case a5 => first | k_is | rfl | decide +kernel)
    (case l5 => first | k_is | rfl | decide +kernel)
    (case c5 => first | k_is | rfl | decide +kernel)
    (case k5 => first | k_is | rfl | decide +kernel)
    (case a6 => first | k_is | rfl | decide +kernel)
    (case l6 => first | k_is | rfl | decide +kernel)
    (case c6 => first | k_is | rfl | decide +kernel)
    (case k6 => first | k_is | rfl | decide +kernel)
    (case a7 => first | k_is | rfl | decide +kernel)
    (case l7 => first | k_is | rfl | decide +kernel)
    (case c7 => first | k_is | rfl | decide +kernel)
    (case k7 => first | k_is | rfl | decide +kernel)
    (case a8 => first | k_is | rfl | decide +kernel)
    (case l8 => first | k_is | rfl | decide +kernel)
    (case c8 => first | k_is | rfl | decide +kernel)
    (case k8 => first | k_is | rfl | decide +kernel)
    (case a9 => first | k_is | rfl | decide +kernel)
    (case l9 => first | k_is | rfl | decide +kernel)
    (case c9 => first | k_is | rfl | decide +kernel)
    (case k9 => first | k_is | rfl | decide +kernel)
    (case a10 => first | k_is | rfl | decide +kernel)
    (case l10 => first | k_is | rfl | decide +kernel)
    (case c10 => first | k_is | rfl | decide +kernel)
    (case k10 => first | k_is | rfl | decide +kernel)
    (case a11 => first | k_is | rfl | decide +kernel)
    (case l11 => first | k_is | rfl | decide +kernel)
    (case c11 => first | k_is | rfl | decide +kernel)
    (case k11 => first | k_is | rfl | decide +kernel)
    (case a12 => first | k_is | rfl | decide +kernel)
    (case l12 => first | k_is | rfl | decide +kernel)
    (case c12 => first | k_is | rfl | decide +kernel)
    (case k12 => first | k_is | rfl | decide +kernel)
    (case a13 => first | k_is | rfl | decide +kernel)
    (case l13 => first | k_is | rfl | decide +kernel)
    (case c13 => first | k_is | rfl | decide +kernel)
    (case k13 => first | k_is | rfl | decide +kernel)
    (case a14 => first | k_is | rfl | decide +kernel)
    (case l14 => first | k_is | rfl | decide +kernel)
    (case c14 => first | k_is | rfl | decide +kernel)
    (case k14 => first | k_is | rfl | decide +kernel)
    (case a15 => first | k_is | rfl | decide +kernel)
    (case l15 => first | k_is | rfl | decide +kernel)
    (case c15 => first | k_is | rfl | decide +kernel)
    (case k15 => first | k_is | rfl | decide +kernel)
    (case a16 => first | k_is | rfl | decide +kernel)
    (case l16 => first | k_is | rfl | decide +kernel)
    (case c16 => first | k_is | rfl | decide +kernel)
    (case k16 => first | k_is | rfl | decide +kernel)
    (case a17 => first | k_is | rfl | decide +kernel)
    (case l17 => first | k_is | rfl | decide +kernel)
    (case c17 => first | k_is | rfl | decide +kernel)
    (case k17 => first | k_is | rfl | decide +kernel)
    (case a18 => first | k_is | rfl | decide +kernel)
    (case l18 => first | k_is | rfl | decide +kernel)
    (case c18 => first | k_is | rfl | decide +kernel)
    (case k18 => first | k_is | rfl | decide +kernel)
    (case a19 => first | k_is | rfl | decide +kernel)
    (case l19 => first | k_is | rfl | decide +kernel)
    (case c19 => first | k_is | rfl | decide +kernel)
    (case k19 => first | k_is | rfl | decide +kernel)
    (case a20 => first | k_is | rfl | decide +kernel)
    (case l20 => first | k_is | rfl | decide +kernel)
    (case c20 => first | k_is | rfl | decide +kernel)
    (case k20 => first | k_is | rfl | decide +kernel)
    (case a21 => first | k_is | rfl | decide +kernel)
    (case l21 => first | k_is | rfl | decide +kernel)
    (case c21 => first | k_is | rfl | decide +kernel)
    (case k21 => first | k_is | rfl | decide +kernel)
    (case a22 => first | k_is | rfl | decide +kernel)
    (case l22 => first | k_is | rfl | decide +kernel)
    (case c22 => first | k_is | rfl | decide +kernel)
    (case k22 => first | k_is | rfl | decide +kernel)
    (case a23 => first | k_is | rfl | decide +kernel)
    (case l23 => first | k_is | rfl | decide +kernel)
    (case c23 => first | k_is | rfl | decide +kernel)
    (case k23 => first | k_is | rfl | decide +kernel)
    (case a24 => first | k_is | rfl | decide +kernel)
    (case l24 => first | k_is | rfl | decide +kernel)
    (case c24 => first | k_is | rfl | decide +kernel)
    (case k24 => first | k_is | rfl | decide +kernel)
    (case a25 => first | k_is | rfl | decide +kernel)
    (case l25 => first | k_is | rfl | decide +kernel)
    (case c25 => first | k_is | rfl | decide +kernel)
    (case k25 => first | k_is | rfl | decide +kernel)
    (case a26 => first | k_is | rfl | decide +kernel)
    (case l26 => first | k_is | rfl | decide +kernel)
    (case c26 => first | k_is | rfl | decide +kernel)
    (case k26 => first | k_is | rfl | decide +kernel)
    (case a27 => first | k_is | rfl | decide +kernel)
    (case l27 => first | k_is | rfl | decide +kernel)
    (case c27 => first | k_is | rfl | decide +kernel)
    (case k27 => first | k_is | rfl | decide +kernel)
    (case a28 => first | k_is | rfl | decide +kernel)
    (case l28 => first | k_is | rfl | decide +kernel)
    (case c28 => first | k_is | rfl | decide +kernel)
    (case k28 => first | k_is | rfl | decide +kernel)
    (case a29 => first | k_is | rfl | decide +kernel)
    (case l29 => first | k_is | rfl | decide +kernel)
    (case c29 => first | k_is | rfl | decide +kernel)
    (case k29 => first | k_is | rfl | decide +kernel)
    (case a30 => first | k_is | rfl | decide +kernel)
    (case l30 => first | k_is | rfl | decide +kernel)
    (case c30 => first | k_is | rfl | decide +kernel)
    (case k30 => first | k_is | rfl | decide +kernel)
    (case a31 => first | k_is | rfl | decide +kernel)
    (case l31 => first | k_is | rfl | decide +kernel)
    (case c31 => first | k_is | rfl | decide +kernel)
    (case k31 => first | k_is | rfl | decide +kernel)
    (case a32 => first | k_is | rfl | decide +kernel)
    (case l32 => first | k_is | rfl | decide +kernel)
    (case c32 => first | k_is | rfl | decide +kernel)
    (case k32 => first | k_is | rfl | decide +kernel)
    (case a33 => first | k_is | rfl | decide +kernel)
    (case l33 => first | k_is | rfl | decide +kernel)
    (case c33 => first | k_is | rfl | decide +kernel)
    (case k33 => first | k_is | rfl | decide +kernel)
    (case a34 => first | k_is | rfl | decide +kernel)
    (case l34 => first | k_is | rfl | decide +kernel)
    (case c34 => first | k_is | rfl | decide +kernel)
    (case k34 => first | k_is | rfl | decide +kernel)
    (case a35 => first | k_is | rfl | decide +kernel)
    (case l35 => first | k_is | rfl | decide +kernel)
    (case c35 => first | k_is | rfl | decide +kernel)
    (case k35 => first | k_is | rfl | decide +kernel)
    (case a36 => first | k_is | rfl | decide +kernel)
    (case l36 => first | k_is | rfl | decide +kernel)
    (case c36 => first | k_is | rfl | decide +kernel)
    (case k36 => first | k_is | rfl | decide +kernel)
    (case a37 => first | k_is | rfl | decide +kernel)
    (case l37 => first | k_is | rfl | decide +kernel)
    (case c37 => first | k_is | rfl | decide +kernel)
    (case k37 => first | k_is | rfl | decide +kernel)
    (case lE => first | k_is | rfl | decide +kernel)
    (case xE => first | k_is | rfl | decide +kernel)
    (case nE => first | k_is | rfl | decide +kernel)
    (case cW => first | k_is | rfl | decide +kernel)
    (case lW => first | k_is | rfl | decide +kernel)
    (case cMin => first | k_is | rfl | decide +kernel)
    (case cMax => first | k_is | rfl | decide +kernel)
    (case cRo => first | k_is | rfl | decide +kernel)
    (case cHa => first | k_is | rfl | decide +kernel)
    (case y_all => first | k_is | rfl | decide +kernel)
    (case y_sorted => first | k_is | rfl | decide +kernel)
    (case z_abs => first | k_is | rfl | decide +kernel)
    (case z_int => first | k_is | rfl | decide +kernel)
    (case z_bool => first | k_is | rfl | decide +kernel)
    (case z_str => first | k_is | rfl | decide +kernel)
    (case z_len => first | k_is | rfl | decide +kernel)
    (case z_isi => first | k_is | rfl | decide +kernel)
    (case z_enu => first | k_is | rfl | decide +kernel)
    (case z_rng => first | k_is | rfl | decide +kernel)
    (case z_list => first | k_is | rfl | decide +kernel)
    (case z_tup => first | k_is | rfl | decide +kernel)
    (case z_repr => first | k_is | rfl | decide +kernel)
