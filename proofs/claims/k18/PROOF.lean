import PyProof.Rows.All
import Wide.All
import OpenK.AllK
import Wide.FinOn
import HandS.ForMost
import HandS.IsInst
import HandS.TupAny
import HandS.Walk
import HandS.Style
import HandS.Conv
import HandS.Wide
import HandS.Flow
import HandS.Defaults
import KE.GoesEnum
import HandS.ForExc
import HandS.CallSlots
import HandS.AnyAll
import HandS.TupMul
import PyProof.NeKinds
import PyProof.P3Eq
import HandS.Rev
import HandS.Zip
import HandS.GenList
import PyProof.TupleOfGen
import PyProof.GenCompT
import HandS.NoneIn
import HandS.More
import HandS.Text
import HandS.Deep
import HandS.Dict
import HandS.Small
import HandS.ExcInit
import HandS.ExcField
import HandS.ExcIs
import HandS.TryOnly
import KE.KExcIs
import KE.GoesMore
import PyProof.StrBlockL
import PyProof.MeetsStr2
import PyProof.StrOps2
import PyProof.ReprLen
import PyProof.StrLawsIn
import PySem.Challenge.RW_roomways_k18_whole_texts_of_runs
set_option Elab.async false
set_option linter.all false
set_option maxRecDepth 100000
set_option maxHeartbeats 4000000
namespace Rw
open PySem PySem.Spec PyProof.Rows L2 PySem.SeqAt

/-! ### a text beside a dict: never equal -/
theorem str_declines_dict (b : Str) (u : Tok) (l : Addr) (c : Value) (es : Array DictEntry) (n : Nat) (dd : Option Addr) (sl : Array (Option Value)) :
    Meets (Builtin.«str.__eq__» ⟨[.str b u, .ref l], []⟩) (fun _ R s => s.heap.get? l = some { cls := c, dict := dd, data := .dict es n, slots := sl } ∧ R (.ok (.ret .notImplemented)) s) :=
  .of_wp fun prog w A R s h => by
    obtain ⟨hp, g, d, tk, os⟩ := s
    obtain ⟨hl, h⟩ := h
    wp_walk using AutoSeq1.wpAny_loadPart' hl, wpAny_load hl
    exact ⟨_, rfl, h⟩
theorem dict_declines_str (l : Addr) (es : Array DictEntry) (n : Nat) (dd : Option Addr) (sl : Array (Option Value)) (b : Str) (u : Tok) :
    Meets (Builtin.«dict.__eq__» ⟨[.ref l, .str b u], []⟩) (fun _ R s => s.heap.get? l = some { cls := .type "dict", dict := dd, data := .dict es n, slots := sl } ∧ R (.ok (.ret .notImplemented)) s) :=
  .of_wp fun prog w A R s h => by
    obtain ⟨hp, g, d, tk, os⟩ := s
    obtain ⟨hl, h⟩ := h
    have f1 : isSubtype (.type "str") (.type "dict") = pure false := by rw [isSubtype_type]; kernel_rfl
    wp_walk using AutoSeq1.wpAny_loadPart' hl, wpAny_load hl
    exact ⟨_, rfl, h⟩
theorem sub_dict_str : isSubtype (.type "dict") (.type "str") = pure false := by rw [isSubtype_type]; kernel_rfl
section
variable {A : Around} {s : Shared}
theorem rc_str_dict {l : Addr} {o : Obj} {es : Array DictEntry} {n : Nat} (b : Str) (u : Tok) (ho : s.heap.get? l = some o) (hc : o.cls = .type "dict") (hd : o.data = .dict es n) (hu : A.units < cLine) : RcAt A s (.str b u) (.ref l) false := fun prog w E Q h => by
  obtain ⟨cls, dd, data, sl⟩ := o
  simp only at hc hd
  subst hc hd
  refine rc_eq_decline_or (k := false) (typeIs_str s b u) ⟨_, ho, rfl⟩ (by decide) sub_dict_str F.slot_str_eq F.slot_dict_eq_refl
    (fun _ hq => ?_) (fun _ hq => ?_) (fun _ hq => wpAny_of_eq (rfl : isSame (.str b u) (.ref l) = pure false) hq) (.inr hu) h
  · exact call_meets F.slot_str_eq (typeIs_str s b u) F.entry_str_eq (F.args_str_eq_2 _ _) (str_declines_dict b u l (.type "dict") es n dd sl) ⟨ho, hq⟩
  · exact call_meets F.slot_dict_eq_refl ⟨_, ho, rfl⟩ F.entry_dict_eq (F.args_dict_eq_2 _ _) (dict_declines_str l es n dd sl b u) ⟨ho, hq⟩
theorem eq_str_dict {l : Addr} {o : Obj} {es : Array DictEntry} {n : Nat} (b : Str) (u : Tok) (ho : s.heap.get? l = some o) (hc : o.cls = .type "dict") (hd : o.data = .dict es n) (hu : A.units < cLine) : EqAt A s (.str b u) (.ref l) false := fun prog w E Q h => by
  unfold eqBool
  refine wpAny_holding ?_
  refine wpAny_ite_split (fun hab => absurd (eq_of_beq hab) nofun) (fun _ => ?_)
  exact wpAny_bind (rc_str_dict b u ho hc hd hu prog w E _ (wpAny_truthy_bool h))
end
end Rw
namespace Rw
open PySem PySem.Spec PyProof.Rows L2 PySem.SeqAt

/-! ### a value as data, all of whose objects stand, none of them at a place that av forbids -/
mutual
inductive Rp (av : Addr → Prop) (H : Hp) : V → PyData → Prop
  | non : Rp av H .non .none
  | bl (b : Bool) : Rp av H (.bl b) (.bool b)
  | int (i : Int) : Rp av H (.int i) (.int i)
  | str (x : Str) : Rp av H (.str x) (.str x)
  | lst {a : Addr} {xs : List V} {ds : List PyData} : ¬ av a → H a = some (.lst xs) → RpAll av H xs ds → Rp av H (.ref a) (.list ds)
  | tup {a : Addr} {xs : List V} {ds : List PyData} : ¬ av a → H a = some (.tup xs) → RpAll av H xs ds → Rp av H (.ref a) (.tuple ds)
  | dct {a : Addr} {k : Str} {v : V} {d : PyData} : ¬ av a → H a = some (.dK [(.inr k, v)]) → Rp av H v d → Rp av H (.ref a) (.dict [(.str k, d)])
inductive RpAll (av : Addr → Prop) (H : Hp) : List V → List PyData → Prop
  | nil : RpAll av H [] []
  | cons {v : V} {vs : List V} {d : PyData} {ds : List PyData} : Rp av H v d → RpAll av H vs ds → RpAll av H (v :: vs) (d :: ds)
end
/-- what stood at places that av does not name stands -/
def Ext (av : Addr → Prop) (H H' : Hp) : Prop := ∀ b o, ¬ av b → H b = some o → H' b = some o
section
variable {av : Addr → Prop} {H H' : Hp}
theorem Ext.refl : Ext av H H := fun _ _ _ h => h
theorem Ext.trans {H1 H2 H3 : Hp} (a : Ext av H1 H2) (b : Ext av H2 H3) : Ext av H1 H3 := fun c o n h => b c o n (a c o n h)
theorem Ext.of_same {H1 H2 : Hp} (a : Same H1 H2) : Ext av H1 H2 := fun c o _ h => a c o h
theorem same_new {p : Addr} (h : H p = none) (o : HO) : Same H (upd H p o) := fun b u q => by
  rw [upd_ne (ne_of_none q h)]
  exact q
theorem Ext.new {p : Addr} (h : H p = none) (o : HO) : Ext av H (upd H p o) := Ext.of_same (same_new h o)
theorem Ext.put {p : Addr} (h : av p) (o : HO) : Ext av H (upd H p o) := fun b u n q => by
  rw [upd_ne (fun e => n (by rw [e]; exact h))]
  exact q
mutual
theorem Rp.mono (e : Ext av H H') : ∀ {v : V} {d : PyData}, Rp av H v d → Rp av H' v d
  | _, _, .non => .non
  | _, _, .bl b => .bl b
  | _, _, .int i => .int i
  | _, _, .str x => .str x
  | _, _, .lst n h r => .lst n (e _ _ n h) (RpAll.mono e r)
  | _, _, .tup n h r => .tup n (e _ _ n h) (RpAll.mono e r)
  | _, _, .dct n h r => .dct n (e _ _ n h) (Rp.mono e r)
theorem RpAll.mono (e : Ext av H H') : ∀ {v : List V} {d : List PyData}, RpAll av H v d → RpAll av H' v d
  | _, _, .nil => .nil
  | _, _, .cons a b => .cons (Rp.mono e a) (RpAll.mono e b)
end
theorem RpAll.len : ∀ {vs : List V} {ds : List PyData}, RpAll av H vs ds → vs.length = ds.length
  | _, _, .nil => rfl
  | _, _, .cons _ b => by rw [List.length_cons, List.length_cons, RpAll.len b]
theorem RpAll.at : ∀ {vs : List V} {ds : List PyData} {i : Nat} {v : V}, RpAll av H vs ds → vs[i]? = some v → ∃ d, ds[i]? = some d ∧ Rp av H v d
  | _, _, _, _, .nil, h => by simp at h
  | _, _, 0, _, .cons a _, h => by
    have e := Option.some.inj h
    subst e
    exact ⟨_, rfl, a⟩
  | _, _, i + 1, _, .cons _ b, h => RpAll.at (i := i) b h
theorem RpAll.app : ∀ {vs ws : List V} {ds es : List PyData}, RpAll av H vs ds → RpAll av H ws es → RpAll av H (vs ++ ws) (ds ++ es)
  | _, _, _, _, .nil, q => q
  | _, _, _, _, .cons a b, q => .cons a (RpAll.app b q)
theorem RpAll.take : ∀ {vs : List V} {ds : List PyData} (n : Nat), RpAll av H vs ds → RpAll av H (vs.take n) (ds.take n)
  | _, _, 0, _ => .nil
  | _, _, _ + 1, .nil => .nil
  | _, _, n + 1, .cons a b => .cons a (RpAll.take n b)
theorem RpAll.drop : ∀ {vs : List V} {ds : List PyData} (n : Nat), RpAll av H vs ds → RpAll av H (vs.drop n) (ds.drop n)
  | _, _, 0, q => q
  | _, _, _ + 1, .nil => .nil
  | _, _, n + 1, .cons _ b => RpAll.drop n b
theorem RpAll.set {v : V} {d : PyData} (r : Rp av H v d) : ∀ {vs : List V} {ds : List PyData} (n : Nat), RpAll av H vs ds → RpAll av H (vs.set n v) (ds.set n d)
  | _, _, _, .nil => .nil
  | _, _, 0, .cons _ b => .cons r b
  | _, _, n + 1, .cons a b => .cons a (RpAll.set r n b)
theorem RpAll.snoc {vs : List V} {ds : List PyData} {v : V} {d : PyData} (a : RpAll av H vs ds) (b : Rp av H v d) : RpAll av H (vs ++ [v]) (ds ++ [d]) := a.app (.cons b .nil)
theorem RpAll.ints : ∀ ns : List Int, RpAll av H (ns.map V.int) (ns.map PyData.int)
  | [] => .nil
  | n :: r => .cons (.int n) (RpAll.ints r)
end

/-! ### what it reads as -/
section
variable {X : Cx} {pins : List (Addr × Obj)} {σ : L2.St} {H : Hp} {s : Shared} {av : Addr → Prop}
theorem no_sys (I : Inv X pins σ H s) {o : Obj} (hk : X.K.lookup sysModules = some o) {a : Addr} {u : HO} (h : H a = some u) : a ≠ sysModules := fun e => by
  have q := (I.bs sysModules o (I.mod.kin _ _ hk)).2
  rw [← e, h] at q
  cases q
mutual
theorem Rp.reads (I : Inv X pins σ H s) : ∀ (d : PyData) (v : V) (u : Value), Rp av H v d → RelV v u → ∃ as, Reads s.heap u d as ∧ ∀ b ∈ as, ∃ o, H b = some o
  | .none, _, _, h, r => by
    cases h
    cases r
    exact ⟨_, Reads.none, fun b hb => absurd hb (by simp)⟩
  | .bool b, _, _, h, r => by
    cases h
    cases r
    exact ⟨_, Reads.bool b, fun b hb => absurd hb (by simp)⟩
  | .int i, _, _, h, r => by
    cases h
    obtain ⟨t, rfl⟩ := r
    exact ⟨_, Reads.int i t, fun b hb => absurd hb (by simp)⟩
  | .str x, _, _, h, r => by
    cases h
    obtain ⟨t, rfl⟩ := r
    exact ⟨_, Reads.str x t, fun b hb => absurd hb (by simp)⟩
  | .list ds, _, _, h, r => by
    cases h with
    | lst n hs ha =>
      cases r
      obtain ⟨its, rv, ⟨o, n, ho, hc, _, hd⟩, _⟩ := I.list (SqL.of hs)
      obtain ⟨as, hr, hk⟩ := RpAll.reads I ds _ its ha rv
      refine ⟨_, Reads.list ho hc hd hr, fun b hb => ?_⟩
      rcases List.mem_cons.mp hb with e | e
      · rw [e]
        exact ⟨_, hs⟩
      · exact hk b e
  | .tuple ds, _, _, h, r => by
    cases h with
    | tup n hs ha =>
      cases r
      obtain ⟨its, rv, ⟨o, ho, hc, n, hd⟩, _⟩ := I.tuple (SqT.of hs)
      obtain ⟨as, hr, hk⟩ := RpAll.reads I ds _ its ha rv
      exact ⟨_, Reads.tuple ho hc hd hr, hk⟩
  | .dict kds, _, _, h, r => by
    cases h with
    | @dct a k v d n hs ha =>
      cases r
      obtain ⟨_, _, vs, kv, o, es, ep, ho, hx, hd, hks, hp, _⟩ := (show ObjOk X.prog X.w H s.heap a (.dK [(.inr k, v)]) from I.hok a _ hs)
      cases vs with
      | nil => cases kv
      | cons q0 qt =>
        cases kv with
        | cons r1 rt =>
        cases rt
        obtain ⟨k2, u2⟩ := q0
        obtain ⟨e1, r2⟩ := r1
        simp only at e1 r2
        subst e1
        obtain ⟨as, hr, hk⟩ := Rp.reads I d v u2 ha r2
        generalize hl : es.toList = el at hp
        cases el with
        | nil => cases hp
        | cons e0 et =>
          cases hp with
          | cons i1 i2 i3 =>
          cases i3
          obtain ⟨t, ek⟩ := Value.isStrOf_shape (x := k) (v := e0.key) i1
          refine ⟨a :: ([] ++ []) ++ (as ++ []), Reads.dict ho hx.1 hd ?_ ?_, fun b hb => ?_⟩
          · rw [hl]
            show ReadsAll s.heap [e0.key] [.str k] ([] ++ [])
            rw [ek]
            exact .cons (.str k t) .nil
          · rw [hl]
            show ReadsAll s.heap [e0.val] [d] (as ++ [])
            rw [show e0.val = u2 from i2]
            exact .cons hr .nil
          · simp only [List.append_nil, List.cons_append, List.nil_append, List.mem_cons] at hb
            rcases hb with e | e
            · rw [e]
              exact ⟨_, hs⟩
            · exact hk b e
theorem RpAll.reads (I : Inv X pins σ H s) : ∀ (ds : List PyData) (vs : List V) (us : List Value), RpAll av H vs ds → Vals vs us → ∃ as, ReadsAll s.heap us ds as ∧ ∀ b ∈ as, ∃ o, H b = some o
  | [], _, _, h, r => by
    cases h
    cases r
    exact ⟨_, ReadsAll.nil, fun b hb => absurd hb (by simp)⟩
  | d :: ds, _, _, h, r => by
    cases h with
    | cons h1 h2 =>
      cases r with
      | cons r1 r2 =>
        obtain ⟨as, q1, k1⟩ := Rp.reads I d _ _ h1 r1
        obtain ⟨bs, q2, k2⟩ := RpAll.reads I ds _ _ h2 r2
        refine ⟨_, ReadsAll.cons q1 q2, fun b hb => ?_⟩
        rcases List.mem_append.mp hb with e | e
        · exact k1 b e
        · exact k2 b e
end
/-- repr(value) -/
def rRepr (K : PySem.W.Frag) : List V → Hp → VK → Prop := fun xs H Q => ∃ (av : Addr → Prop) (v : V) (d : PyData), xs = [v] ∧ Rp av H v d ∧ d.showable = true ∧ d.shown.length ≤ sizeLine ∧ d.depth ≤ 100 ∧ Q (.str d.shown) H
theorem call_repr (hg : X.A.guards = some []) (hu : X.A.units + 102 < cLine) (hk : ∃ o, X.K.lookup sysModules = some o) : CallR X (.builtin "repr") (rRepr X.K) := by
  intro pins s σ H xs us Q I r h
  obtain ⟨av, v, d, rfl, rp, hs, hz, hd, q⟩ := h
  obtain ⟨u, rfl, r1⟩ := vals1 r
  obtain ⟨o, hk⟩ := hk
  obtain ⟨as, rd, ht⟩ := rp.reads I d v u r1
  cases rd with
  | none => exact PySem.P.repr_of_none ⟨.str _, H, I.tok _, ⟨_, rfl⟩, q⟩
  | bool b => exact PySem.P.repr_of_bool ⟨.str _, H, I.tok _, ⟨_, rfl⟩, q⟩
  | int i t => exact PySem.P.repr_of_int (of_decide_eq_true hs) ⟨.str _, H, I.tok _, ⟨_, rfl⟩, q⟩
  | str x t => exact PySem.P.repr_of_str ⟨.str _, H, I.tok _, ⟨_, rfl⟩, q⟩ hz
  | list h1 h2 h3 h4 =>
    refine repr_of_reads' (.list h1 h2 h3 h4) hs (fun _ hm => ?_) hg (by omega) (fun _ _ e => e) (fun h' u tk hk2 => ⟨.str _, H, I.kept hk2, ⟨_, rfl⟩, q⟩) hz
    obtain ⟨w, hw⟩ := ht _ hm
    exact no_sys I hk hw rfl
  | tuple h1 h2 h3 h4 =>
    refine repr_of_reads' (.tuple h1 h2 h3 h4) hs (fun _ hm => ?_) hg (by omega) (fun _ _ e => e) (fun h' u tk hk2 => ⟨.str _, H, I.kept hk2, ⟨_, rfl⟩, q⟩) hz
    obtain ⟨w, hw⟩ := ht _ hm
    exact no_sys I hk hw rfl
  | dict h1 h2 h3 h4 h5 =>
    refine repr_of_reads' (.dict h1 h2 h3 h4 h5) hs (fun _ hm => ?_) hg (by omega) (fun _ _ e => e) (fun h' u tk hk2 => ⟨.str _, H, I.kept hk2, ⟨_, rfl⟩, q⟩) hz
    obtain ⟨w, hw⟩ := ht _ hm
    exact no_sys I hk hw rfl
end
end Rw
namespace Rw
open PySem PySem.Spec PyProof.Rows L2 PySem.SeqAt

/-! ### enumerate(a tuple) -/
abbrev tupIt (t : Addr) : Obj :=
  { cls := .type "tuple_iterator", data := .fields #[.ref t, .int 0 0] }
abbrev enumOb (i : Addr) : Obj :=
  { cls := .type "enumerate", data := .fields #[.none, .bool false, .ref i, rawInt 0, .none, .none] }
theorem enum_made (t : Addr) (items : Array Value) : Meets (Builtin.«enumerate.__new__» ⟨[.type "enumerate", .ref t], []⟩)
    (fun _ R s => s.heap.IsTuple t items ∧
      R (.ok (.ret (.ref (s.heap.push (tupIt t)).objs.size)))
        { s with heap := (s.heap.push (tupIt t)).push (enumOb s.heap.objs.size) }) := by
  refine .of_wp fun prog w A R s h => ?_
  cases s with
  | mk hp g d tk os =>
  have ht := h.1
  have hR := h.2
  have sub := sub_enumerate
  have begin_ : ∀ {A' : Around} {E : Value → Shared → Prop} {Q : Value → Shared → Prop}, Q (.ref hp.objs.size) ⟨hp.push (tupIt t), g, d, tk, os⟩ →
      wpAny (model prog w) A' (pyIter (.ref t)) Q E ⟨hp, g, d, tk, os⟩ := fun q => wpAny_pyIter_tuple ht q
  wp_walk using begin_
  refine wpAny_stack_any fun st => wpAny_pure ?_
  split
  · rename_i c _ _ _ _ _
    cases (c == Value.type "enumerate") <;> (wp_walk using begin_; exact ⟨_, rfl, hR⟩)
  · wp_walk using begin_
    exact ⟨_, rfl, hR⟩
section
variable {prog : Program} {w : World} {A : Around} {E : Value → Shared → Prop} {s : Shared}
theorem call_enum_tup {t : Addr} {items : Array Value} {Q : Value → Shared → Prop} (ht : s.heap.IsTuple t items)
    (h : ∀ h', IsEnum h' (s.heap.objs.size + 1) s.heap.objs.size 0 .none → h'.IsTupleIter s.heap.objs.size t 0 →
      (∀ b o, s.heap.get? b = some o → h'.get? b = some o) → Q (.ref (s.heap.objs.size + 1)) { s with heap := h' }) :
    wpAny (model prog w) A (call (.type "enumerate") [.ref t]) Q E s := by
  refine callType_new F.called_enumerate (by decide) (F.typeCall_enumerate_1 _) (F.newCall_enumerate_1 _)
    (fun obj => F.args_object_init_2 obj _) F.entry_enumerate_new (enum_made t items) ⟨ht, ?_⟩
  have size1 : (s.heap.push (tupIt t)).objs.size = s.heap.objs.size + 1 := Heap.size_push ..
  show _ ∧ _
  rw [size1]
  have at1 : IsEnum ((s.heap.push (tupIt t)).push (enumOb s.heap.objs.size)) (s.heap.objs.size + 1) s.heap.objs.size 0 .none := by
    rw [← size1]
    exact Heap.get?_push_size (s.heap.push (tupIt t)) (o := enumOb s.heap.objs.size) rfl
  have at0 : ((s.heap.push (tupIt t)).push (enumOb s.heap.objs.size)).IsTupleIter s.heap.objs.size t 0 :=
    ⟨_, Heap.get?_push_of_some _ (Heap.get?_push_size _ rfl), rfl, rfl⟩
  exact ⟨⟨_, at1, rfl⟩, h _ at1 at0 fun b o x => Heap.get?_push_of_some _ (Heap.get?_push_of_some _ x)⟩
end
/-- the tuple at a, each item in a new pair behind its place -/
def Itet (K : PySem.W.Frag) (a : Addr) : It where
  go i H := ∃ (xs : List V) (x : V), SqT K H a xs ∧ xs[i]? = some x
  yld i H v H' := ∃ T x, v = .ref T ∧ H T = none ∧ H' = upd H T (.tup [.int (i : Nat), x]) ∧ ∀ xs, SqT K H a xs → xs[i]? = some x
  stop i H := ∃ xs : List V, SqT K H a xs ∧ xs.length ≤ i
abbrev enSt (a e it : Addr) (i : Nat) (h : Heap) : Prop := (∃ old, IsEnum h e it ((i : Nat) : Int) old) ∧ h.IsTupleIter it a i ∧ e ≠ it ∧ e ≠ a ∧ it ≠ a
theorem turn_enumT {P : Program} {w : World} {K : PySem.W.Frag} {elts : List Expr} {kk : Nat} {tpos : Pos} (a e it : Addr) :
    Turn P w K (.Tuple elts kk tpos) (Itet K a) [e, it] e (enSt a e it) where
  mem := List.mem_cons_self ..
  obj := fun i h st b hb => by
    obtain ⟨⟨old, he⟩, ⟨o, ho, _, hd⟩, _⟩ := st
    simp only [List.mem_cons, List.not_mem_nil, or_false] at hb
    cases hb with
    | inl z => rw [z]; exact ⟨_, he, fun v q => nomatch q⟩
    | inr z => rw [z]; exact ⟨o, ho, fun v q => by rw [hd] at q; cases q⟩
  keep := fun i h h' st k => by
    obtain ⟨⟨old, he⟩, hi, rest⟩ := st
    exact ⟨⟨old, k e (by simp) _ he⟩, hi.at fun o q => k it (by simp) o q, rest⟩
  item := by
    intro X hP hw hK hc i pins s σ H E I hf st hg
    subst hP hw hK
    obtain ⟨⟨old, he⟩, hit, hne, hea, hia⟩ := st
    obtain ⟨xs, x, hq, hx⟩ := hg
    obtain ⟨its, rv, p, _⟩ := I.tuple hq
    obtain ⟨u, hu, ru⟩ := rv.get hx
    have p' : s.heap.IsTuple a its.toArray := p
    have el : e < s.heap.objs.size := Heap.lt_size he
    have il : it < s.heap.objs.size := by
      obtain ⟨_, q, _⟩ := hit
      exact Heap.lt_size q
    have lt : i < its.toArray.size := by
      have q := (List.getElem?_eq_some_iff.mp hu).1
      simpa using q
    have D := Draws.tuple (prog := X.prog) (w := X.w) (A := X.A.in1) (show X.A.in1.handled = none from I.ok.hd hc) it a (Ne.symm hia) its.toArray
    refine wpAny_pyNext_enum_itemD D he ⟨hit, p'⟩ lt hne (by simp [hne, hea]) fun y h' tk hy ho hst hT hsz hk => ?_
    have ey : y = u := by
      have q : its.toArray[i]? = some u := by simpa using hu
      exact Option.some.inj (hy.symm.trans q)
    subst ey
    refine ⟨_, rfl, wpAny_letOwnedTupleGo_enum (s := { s with heap := h', toks := tk + 1 }) ho fun h2 he2 sb => ?_⟩
    have hT2 : h2.get? s.heap.objs.size = some { cls := .type "tuple", data := .seq #[.int i tk, y] } := (sb.2 _ (Nat.ne_of_gt el)).trans hT
    have new : ObjOk X.prog X.w (upd H s.heap.objs.size (.tup [.int (i : Nat), x])) h2 s.heap.objs.size (.tup [.int (i : Nat), x]) := by
      refine ⟨by show 2 ≤ sizeLine; decide, [.int i tk, y], .cons ⟨_, rfl⟩ (.cons ru .nil), ?_⟩
      exact ⟨_, hT2, rfl, _, rfl⟩
    have turned : ∀ b ob, b ∉ [e, it] → s.heap.get? b = some ob → h2.get? b = some ob := fun b ob hb q => by
      have n1 : b ≠ e := fun z => hb (by simp [z])
      have n2 : b ≠ it := fun z => hb (by simp [z])
      exact (sb.2 b n1).trans (hk b ob n1 n2 q)
    have I1 : Inv X pins σ (upd H s.heap.objs.size (.tup [.int (i : Nat), x])) { s with heap := h2, toks := tk + 1 } := I.turnedNew (ch := [e, it]) turned hf (Nat.le_refl _) new
    refine ⟨.ref s.heap.objs.size, _, I1, rfl, ⟨_, x, rfl, I.hok.fresh (Nat.le_refl _), rfl, fun ys hy => ?_⟩, ⟨⟨y, ?_⟩, ?_, hne, hea, hia⟩, fun b hb => ?_⟩
    · rw [I.tuple_inj hy hq]
      exact hx
    · have e1 : ((i + 1 : Nat) : Int) = (i : Int) + 1 := by omega
      rw [e1]
      exact he2
    · exact hst.1.at fun o q => (sb.2 it (Ne.symm hne)).trans q
    · have lo : b < s.heap.objs.size := by
        simp only [List.mem_cons, List.not_mem_nil, or_false] at hb
        cases hb with
        | inl z => rw [z]; exact el
        | inr z => rw [z]; exact il
      rw [upd_ne (Nat.ne_of_lt lo)]
      exact (hf b hb).1
  done := by
    intro X hP hw hK hc i pins s σ H E I hf st hg
    subst hP hw hK
    obtain ⟨⟨old, he⟩, hit, hne, hea, hia⟩ := st
    obtain ⟨xs, hq, hx⟩ := hg
    obtain ⟨its, rv, p, _⟩ := I.tuple hq
    have p' : s.heap.IsTuple a its.toArray := p
    obtain ⟨f0, f1, f2, f3, f4, f5⟩ := hf it (by simp)
    have hl := rv.length
    unfold pyNext
    refine wpAny_bind (wpAny_attempt (wpAny_callSpecial?_slot (name := Str.ofString "__next__") ⟨_, he, rfl⟩ F.slot_enumerate_next ?_))
    refine wpAny_call_entry F.slot_enumerate_next ⟨_, he, rfl⟩ F.entry_enumerate_next ?_ (F.args_enumerate_next_1 _)
    show wpAny _ _ (field (.ref e) 2 >>= _) _ _ _
    refine wpAny_bind (wpAny_field he rfl (x := .ref it) rfl ?_)
    refine wpAny_bind (wpAny_nextOf_tuple_end (I.ok.hd hc) hit p' (by simp; omega) fun h' e2 he' hx' => ?_)
    obtain ⟨o2, ho2, hc2⟩ := hx'
    refine wpAny_bind (wpAny_isInstance (T := "StopIteration") (b := true) ⟨o2, ho2, hc2⟩ isSubtype_stop ?_)
    exact wpAny_pure ⟨rfl, I.turned (t' := s.toks) (fun b o hb q => he' b o hb q) f0 f1 f3 f4 f5⟩
  self := fun A i s Q E st h => by
    obtain ⟨⟨_, he⟩, _⟩ := st
    exact wpAny_pyIter_enum he h
def iEnumT (K : PySem.W.Frag) (ta : TA) : TI := fun σ H R => ta σ H fun vs H1 => ∃ a xs, vs = [.ref a] ∧ SqT K H1 a xs ∧ R (Itet K a) H1
theorem pi_enumT {X : Cx} {e : Expr} {ta : TA} {p pos tpos : Pos} {elts : List Expr} {kk : Nat} (hg : Gl X "enumerate") (hm : X.mg "enumerate" = none) (ha : PA X [e] ta)
    (hs : starEach [e] X.env = [(false, eval e X.env)] := by rfl) : PI X (.Tuple elts kk tpos) (.Call (.Name "enumerate" p) [e] [] pos) (iEnumT X.K ta) := by
  refine ⟨fun pins s σ H R I h => ?_⟩
  refine Call_ (ld_blt I hg hm boot_enumerate (PyProof.Rows.callWith_type1 ?_ hs rfl))
  refine thn (ha.run pos pins s σ H _ I h) fun us s1 ⟨vs, H1, I1, r1, a, xs, ex, hq, q⟩ => ?_
  subst ex
  obtain ⟨u, rfl, r⟩ := vals1 r1
  cases r
  obtain ⟨its, rv, p', hz⟩ := I1.tuple hq
  have p2 : s1.heap.IsTuple a its.toArray := p'
  have al : a < s1.heap.objs.size := by
    obtain ⟨_, q, _⟩ := p2
    exact Heap.lt_size q
  refine call_enum_tup p2 fun h' he hit hk => wpAny_pyIter_enum he ?_
  have I2 : Inv X pins σ H1 { s1 with heap := h' } := I1.kept (t' := s1.toks) hk
  have n1 : s1.heap.objs.size + 1 ≠ a := Nat.ne_of_gt (Nat.lt_succ_of_lt al)
  have n2 : s1.heap.objs.size ≠ a := Nat.ne_of_gt al
  refine ⟨s1.heap.objs.size + 1, [s1.heap.objs.size + 1, s1.heap.objs.size], _, _, H1, rfl, I2, turn_enumT a (s1.heap.objs.size + 1) s1.heap.objs.size, ⟨⟨.none, he⟩, hit, Nat.succ_ne_self _, n1, n2⟩, fun b hb => ?_, q⟩
  have hle : s1.heap.objs.size ≤ b := by
    simp only [List.mem_cons, List.not_mem_nil, or_false] at hb
    cases hb with
    | inl z => rw [z]; exact Nat.le_add_right _ _
    | inr z => rw [z]; exact Nat.le_refl _
  exact I1.fpOk hle (I1.hok.fresh hle)
theorem walk_enumT {K : PySem.W.Frag} {a : Addr} {xs : List V} : Walk (Itet K a) xs.length (fun H => SqT K H a xs) (YPair (fun i => some (.int (i : Nat))) (fun i => xs[i]?)) where
  goes := fun i _ hi q => ⟨xs, xs[i], q, by simp [hi]⟩
  stops := fun _ q => ⟨xs, q, Nat.le_refl _⟩
  yields := fun i H v H' _ q y => by
    obtain ⟨T, x, h1, h2, h3, h4⟩ := y
    exact ⟨T, .int (i : Nat), x, h1, h2, h3, rfl, h4 xs q⟩

/-! ### a def called by names alone -/
section
variable {X : Cx} {CX : CXT} {k : Nat} {f : Addr} {fd : FuncData} {ps ks : List Str} {sp : Sp} {E : XK} {x : Str} {p pos : Pos} {kws : List Keyword} {tk : TA} {g : List Value → List Value → List Value} {gV : List V → List V → List V}
theorem pe_callK0 (F : FnOk X.prog X.w X.K X.mg X.base CX k f fd ps sp) (hr : Room k X.A) (hg : Gl X x) (hm : X.mg x = some (.ref f)) (hk : PySem.W.keepIn X.K (.ref f) = true) (hb : KBinds X.K fd ps ks g gV) (hx : Passes CX X E) (hkw : PK X kws tk)
    (hall : (backToKw pos (keywordEach kws X.env)).all (·.1.isSome) = true := by rfl) (hks : (backToKw pos (keywordEach kws X.env)).filterMap (·.1) = ks := by rfl)
    (hdb : (x == ("__debug__" : Str)) = false := by decide) (hpl : ((backTo pos (starEach [] X.env)).any (·.1) || (backToKw pos (keywordEach kws X.env)).any (·.1.isNone)) = false := by rfl) :
    PE X (.Call (.Name x p) [] kws pos) (tCallK sp gV E tNil tk) := by
  refine ⟨fun pins s σ H Q I h => ?_⟩
  refine wpAny_Call_Name_kw (ld_glob I hg hm ?_ hdb)
  refine PySem.W.callWith_KW0 (h₀ := X.base) I.ok.mod.kin hk hall ?_ hpl
  refine thn (hkw.run pos pins s σ H _ I h) fun ws s2 ⟨zs, H2, I2, rz, q2⟩ => ⟨I2.kIn, ?_⟩
  rw [hks]
  exact run_fnk (vs := []) (us := []) F hr hb hx I2 .nil rz q2
end
end Rw
namespace Rw
open PySem PySem.Spec PyProof.Rows L2 PySem.SeqAt

/-! ### a value of any kind among texts -/
def eqS (d : PyData) (z : Str) : Bool := match d with
  | .str x => z == x
  | _ => false
def eqV2 (d : PyData) (y : Value) : Bool := match y with
  | .str z _ => eqS d z
  | _ => false
theorem strs_any (d : PyData) : ∀ (zs : List Str) (us : List Value), Vals (zs.map V.str) us → us.any (eqV2 d) = zs.any (eqS d)
  | [], _, r => by cases r; rfl
  | z :: zs, _, r => by
    cases r with
    | cons r1 r2 =>
      obtain ⟨t, rfl⟩ := r1
      rw [List.any_cons, List.any_cons, strs_any d zs _ r2]
      rfl
theorem strs_mem : ∀ {zs : List Str} {us : List Value}, Vals (zs.map V.str) us → ∀ y ∈ us, ∃ z t, y = .str z t
  | [], _, r, y, hy => by cases r; cases hy
  | z :: zs, _, r, y, hy => by
    cases r with
    | cons r1 r2 =>
      obtain ⟨t, rfl⟩ := r1
      rcases List.mem_cons.mp hy with e | e
      · exact ⟨z, t, e⟩
      · exact strs_mem r2 y e
theorem str_eqAt {A : Around} {s : Shared} {u : Value} {d : PyData} {as : List Addr} (hu : A.units < cLine) (rd : Reads s.heap u d as) (z : Str) (t : Tok) : EqAt A s (.str z t) u (eqS d z) := by
  cases rd with
  | none => exact EqAt.str_none z t
  | bool b => exact EqAt.str_bool z t b
  | int i k => exact EqAt.str_int z t i k
  | str x k => exact EqAt.str_str z t x k
  | list h1 h2 h3 h4 => exact EqAt.str_list z t ⟨_, h1, h2, _, h3⟩ hu
  | tuple h1 h2 h3 h4 => exact EqAt.str_tuple z t ⟨_, h1, h2, _, h3⟩ hu
  | dict h1 h2 h3 h4 h5 => exact eq_str_dict z t h1 h2 h3 hu
section
variable {X : Cx}
def rInS (K : PySem.W.Frag) (neg : Bool) : R2 := fun x y H Q => ∃ (av : Addr → Prop) (d : PyData) (p : Addr) (zs : List Str), Rp av H x d ∧ y = .ref p ∧ SqT K H p (zs.map V.str) ∧ Q (.bl (neg != zs.any (eqS d))) H
theorem op_inS (hu : X.A.units + 1 < cLine) : OpR X (compareOp .In) (rInS X.K false) := by
  intro pins s σ H x y v u Q I rx ry h
  obtain ⟨av, d, p, zs, hd, rfl, ht, q⟩ := h
  cases ry
  obtain ⟨as, rd, _⟩ := hd.reads I d x v rx
  obtain ⟨its, rv, ht2, _⟩ := I.tuple ht
  refine in_tupleAt (eqV2 d) ht2 (fun y hy => ?_) ?_
  · obtain ⟨z, t, rfl⟩ := strs_mem rv y (by simpa using hy)
    exact str_eqAt hu rd z t
  · refine ⟨.bl _, H, I, rfl, ?_⟩
    rw [← Array.any_toList, strs_any d zs its rv]
    simpa using q
theorem op_notInS (hu : X.A.units + 1 < cLine) : OpR X (compareOp .NotIn) (rInS X.K true) := by
  intro pins s σ H x y v u Q I rx ry h
  obtain ⟨av, d, p, zs, hd, rfl, ht, q⟩ := h
  cases ry
  obtain ⟨as, rd, _⟩ := hd.reads I d x v rx
  obtain ⟨its, rv, ht2, _⟩ := I.tuple ht
  refine notIn_tupleAt (eqV2 d) ht2 (fun y hy => ?_) ?_
  · obtain ⟨z, t, rfl⟩ := strs_mem rv y (by simpa using hy)
    exact str_eqAt hu rd z t
  · refine ⟨.bl _, H, I, rfl, ?_⟩
    rw [← Array.any_toList, strs_any d zs its rv]
    simpa using q
/-- t == () -/
def rEqNil (K : PySem.W.Frag) : R2 := fun x y H Q => ∃ (a b : Addr) (xs : List V), x = .ref a ∧ y = .ref b ∧ SqT K H a xs ∧ SqT K H b [] ∧ Q (.bl (decide (xs = []))) H
theorem op_eqNil (hu : X.A.units < cLine) : OpR X (compareOp .Eq) (rEqNil X.K) := by
  intro pins s σ H x y v u Q I rx ry h
  obtain ⟨a, b, xs, rfl, rfl, ha, hb, q⟩ := h
  cases rx
  cases ry
  obtain ⟨its, rv, h1, _⟩ := I.tuple ha
  obtain ⟨its2, rv2, h2, _⟩ := I.tuple hb
  cases rv2
  refine eq_tupleAt (e := fun _ => false) h1 h2 hu (fun j k1 k2 => absurd k2 (by simp)) ⟨.bl _, H, I, rfl, ?_⟩
  have e : ((List.range (min its.toArray.size ([] : List Value).toArray.size)).all (fun _ => false) && its.toArray.size == ([] : List Value).toArray.size) = decide (xs = []) := by
    have l := rv.length
    cases xs with
    | nil =>
      cases its with
      | nil => simp
      | cons _ _ => simp at l
    | cons _ _ =>
      cases its with
      | nil => simp at l
      | cons _ _ => simp
  rw [e]
  exact q
end

/-! ### isinstance of data -/
def clsOf : PyData → String
  | .none => "NoneType"
  | .bool _ => "bool"
  | .int _ => "int"
  | .str _ => "str"
  | .list _ => "list"
  | .tuple _ => "tuple"
  | .dict _ => "dict"
theorem Rp.ty {K : PySem.W.Frag} {av : Addr → Prop} {H : Hp} {v : V} {d : PyData} (h : Rp av H v d) : TyX K H v (.type (clsOf d)) := by
  cases h with
  | non => exact .base .non
  | bl b => exact .base (.bl b)
  | int i => exact .base (.int i)
  | str x => exact .base (.str x)
  | lst _ h _ => exact .base (.lst h)
  | tup _ h _ => exact .base (.tup h)
  | dct _ h _ => exact .base (.dK h)
def isC (n c : String) : Bool := c == n || (c == "bool" && n == "int")
def isT (n : String) (d : PyData) : Bool := isC n (clsOf d)
def clsAll : List String := ["NoneType", "bool", "int", "str", "list", "tuple", "dict"]
theorem clsOf_mem (d : PyData) : clsOf d ∈ clsAll := by
  cases d <;> simp [clsOf, clsAll]
theorem kit_all : ∀ c ∈ clsAll, ∀ n ∈ ["tuple", "int", "bool", "str", "list"], kitB c n = some (isC n c) := by decide +kernel
theorem kit_isT {K : PySem.W.Frag} (d : PyData) (n : String) (hn : n ∈ ["tuple", "int", "bool", "str", "list"]) : PySem.W.kitOne K (.type (clsOf d)) (.type n) = some (isT n d) :=
  kit_ty (kit_all _ (clsOf_mem d) n hn)
section
variable {X : Cx}
def rIsD (K : PySem.W.Frag) (n : String) : List V → Hp → VK → Prop := fun xs H Q => ∃ (av : Addr → Prop) (x : V) (d : PyData), xs = [x, .ty n] ∧ Rp av H x d ∧ Q (.bl (isT n d)) H
theorem call_isD {n : String} (hn : n ∈ ["tuple", "int", "bool", "str", "list"]) : CallR X (.builtin "isinstance") (rIsD X.K n) := by
  intro pins s σ H xs us Q I r h
  obtain ⟨av, x, d, rfl, hd, q⟩ := h
  exact call_isi pins s σ H _ us Q I r ⟨x, .ty n, _, _, _, rfl, .ty n, hd.ty, kit_isT d n hn, q⟩
end
end Rw
/-! values without addresses: what an expression, a statement, a def makes of them, as a function -/
namespace Dn
open PySem PySem.Spec PyProof.Rows L2 PySem.SeqAt

/-- a value: tuples by their items, a list of the outside by its items, an object that may change by its number -/
inductive PV where
  | non | bl (b : Bool) | int (i : Int) | str (x : Str) | tup (xs : List PV) | kt (xs : List PV) | fz (xs : List PV) | ref (n : Nat)
/-- an object that may change -/
inductive MO where
  | lst (xs : List PV) | dK (kvs : List (Key × PV)) | dT (kvs : List (List Key × PV))
abbrev Sl := List (Option PV)
abbrev PH := List MO
/-- an exception: its class, its field -/
structure PErr where
  cls : Str
  fld : Option (Str × PV)
inductive Out (α : Type) where
  | ok (a : α) (h : PH) | err (e : PErr) (h : PH) | no
inductive OutS where
  | nx (s : Sl) (h : PH) | rt (v : PV) (h : PH) | bk (s : Sl) (h : PH) | ct (s : Sl) (h : PH) | err (e : PErr) (s : Sl) (h : PH) | no
abbrev DE := Sl → PH → Out PV
abbrev DT := Sl → PH → Out Bool
abbrev DA := Sl → PH → Out (List PV)
abbrev DS := Sl → PH → OutS
def Out.bind {α β : Type} (o : Out α) (k : α → PH → Out β) : Out β := match o with
  | .ok a h => k a h
  | .err e h => .err e h
  | .no => .no
@[simp] theorem Out.bind_ok {α β : Type} (a : α) (h : PH) (k : α → PH → Out β) : (Out.ok a h).bind k = k a h := rfl
@[simp] theorem Out.bind_err {α β : Type} (e : PErr) (h : PH) (k : α → PH → Out β) : (Out.err e h : Out α).bind k = .err e h := rfl
@[simp] theorem Out.bind_no {α β : Type} (k : α → PH → Out β) : (Out.no : Out α).bind k = .no := rfl

/-! ### how a value without addresses lies in the heap -/
section
variable (K : PySem.W.Frag) (H : Hp) (μ : List Addr)
/-- a list that nobody changes -/
def SqF (a : Addr) (xs : List V) : Prop := (∃ o, H a = some (.frz o (.lst xs))) ∨
  ∃ (o : Obj) (its : Array Value) (n : Nat), K.lookup a = some o ∧ o.cls = .type "list" ∧ o.dict = none ∧ o.data = .seq its n ∧ its.size ≤ sizeLine ∧ Vals xs its.toList
/-- a tuple of the module -/
def SqK (a : Addr) (xs : List V) : Prop := ∃ (o : Obj) (its : Array Value) (n : Nat), K.lookup a = some o ∧ o.cls = .type "tuple" ∧ o.data = .seq its n ∧ its.size ≤ sizeLine ∧ Vals xs its.toList
mutual
inductive Rl : PV → V → Prop
  | non : Rl .non .non
  | bl (b : Bool) : Rl (.bl b) (.bl b)
  | int (i : Int) : Rl (.int i) (.int i)
  | str (x : Str) : Rl (.str x) (.str x)
  | tup {a : Addr} {vs : List V} {xs : List PV} : H a = some (.tup vs) → Rls xs vs → Rl (.tup xs) (.ref a)
  | kt {a : Addr} {vs : List V} {xs : List PV} : SqK K a vs → Rls xs vs → Rl (.kt xs) (.ref a)
  | fz {a : Addr} {vs : List V} {xs : List PV} : SqF K H a vs → Rls xs vs → Rl (.fz xs) (.ref a)
  | ref {n : Nat} {a : Addr} : μ[n]? = some a → Rl (.ref n) (.ref a)
inductive Rls : List PV → List V → Prop
  | nil : Rls [] []
  | cons {x : PV} {v : V} {xs : List PV} {vs : List V} : Rl x v → Rls xs vs → Rls (x :: xs) (v :: vs)
end
end
/-- what stays: tuples, lists of the outside; the numbers of objects -/
structure Ex (μ : List Addr) (H : Hp) (μ' : List Addr) (H' : Hp) : Prop where
  pre : ∀ (n : Nat) a, μ[n]? = some a → μ'[n]? = some a
  tup : ∀ a xs, H a = some (.tup xs) → H' a = some (.tup xs)
  frz : ∀ a o u, H a = some (.frz o u) → H' a = some (.frz o u)
section
variable {K : PySem.W.Frag} {H H' H2 : Hp} {μ μ' μ2 : List Addr}
theorem Ex.refl : Ex μ H μ H := ⟨fun _ _ h => h, fun _ _ h => h, fun _ _ _ h => h⟩
theorem Ex.trans (a : Ex μ H μ' H') (b : Ex μ' H' μ2 H2) : Ex μ H μ2 H2 := ⟨fun n x h => b.pre n x (a.pre n x h), fun n x h => b.tup n x (a.tup n x h), fun n o x h => b.frz n o x (a.frz n o x h)⟩
theorem Ex.rd (e : Ex μ H μ' H') {a : Addr} {xs : List V} (h : SqT K H a xs) : SqT K H' a xs := by
  rcases h with (h | ⟨o, h⟩) | h
  · exact .inl (.inl (e.tup _ _ h))
  · exact .inl (.inr ⟨o, e.frz _ _ _ h⟩)
  · exact .inr h
theorem Ex.sqf (e : Ex μ H μ' H') {a : Addr} {xs : List V} (h : SqF K H a xs) : SqF K H' a xs := by
  rcases h with ⟨o, h⟩ | h
  · exact .inl ⟨o, e.frz _ _ _ h⟩
  · exact .inr h
mutual
theorem Rl.mono (e : Ex μ H μ' H') : ∀ {x : PV} {v : V}, Rl K H μ x v → Rl K H' μ' x v
  | _, _, .non => .non
  | _, _, .bl b => .bl b
  | _, _, .int i => .int i
  | _, _, .str x => .str x
  | _, _, .tup h r => .tup (e.tup _ _ h) (Rls.mono e r)
  | _, _, .kt h r => .kt h (Rls.mono e r)
  | _, _, .fz h r => .fz (e.sqf h) (Rls.mono e r)
  | _, _, .ref h => .ref (e.pre _ _ h)
theorem Rls.mono (e : Ex μ H μ' H') : ∀ {x : List PV} {v : List V}, Rls K H μ x v → Rls K H' μ' x v
  | _, _, .nil => .nil
  | _, _, .cons a b => .cons (Rl.mono e a) (Rls.mono e b)
end
theorem Rls.len : ∀ {xs : List PV} {vs : List V}, Rls K H μ xs vs → xs.length = vs.length
  | _, _, .nil => rfl
  | _, _, .cons _ b => by rw [List.length_cons, List.length_cons, Rls.len b]
theorem Rls.at : ∀ {xs : List PV} {vs : List V} {i : Nat} {x : PV}, Rls K H μ xs vs → xs[i]? = some x → ∃ v, vs[i]? = some v ∧ Rl K H μ x v
  | _, _, _, _, .nil, h => by simp at h
  | _, _, 0, _, .cons a _, h => ⟨_, rfl, by have e := Option.some.inj h; subst e; exact a⟩
  | _, _, i + 1, _, .cons _ b, h => by
    obtain ⟨v, h1, h2⟩ := Rls.at (i := i) b (by simpa using h)
    exact ⟨v, by simpa using h1, h2⟩
theorem Rls.app : ∀ {xs ys : List PV} {vs ws : List V}, Rls K H μ xs vs → Rls K H μ ys ws → Rls K H μ (xs ++ ys) (vs ++ ws)
  | _, _, _, _, .nil, q => q
  | _, _, _, _, .cons a b, q => .cons a (Rls.app b q)
theorem Rls.take : ∀ {xs : List PV} {vs : List V} (n : Nat), Rls K H μ xs vs → Rls K H μ (xs.take n) (vs.take n)
  | _, _, 0, _ => .nil
  | _, _, _ + 1, .nil => .nil
  | _, _, n + 1, .cons a b => .cons a (Rls.take n b)
theorem Rls.drop : ∀ {xs : List PV} {vs : List V} (n : Nat), Rls K H μ xs vs → Rls K H μ (xs.drop n) (vs.drop n)
  | _, _, 0, q => q
  | _, _, _ + 1, .nil => .nil
  | _, _, n + 1, .cons _ b => Rls.drop n b
theorem Rls.set {x : PV} {v : V} (r : Rl K H μ x v) : ∀ {xs : List PV} {vs : List V} (n : Nat), Rls K H μ xs vs → Rls K H μ (xs.set n x) (vs.set n v)
  | _, _, _, .nil => .nil
  | _, _, 0, .cons _ b => .cons r b
  | _, _, n + 1, .cons a b => .cons a (Rls.set r n b)
theorem Rls.rev : ∀ {xs : List PV} {vs : List V}, Rls K H μ xs vs → Rls K H μ xs.reverse vs.reverse
  | _, _, .nil => .nil
  | _, _, .cons a b => by
    rw [List.reverse_cons, List.reverse_cons]
    exact (Rls.rev b).app (.cons a .nil)
theorem Rls.ints : ∀ ns : List Int, Rls K H μ (ns.map PV.int) (ns.map V.int)
  | [] => .nil
  | n :: r => .cons (.int n) (Rls.ints r)
theorem Rls.snoc {xs : List PV} {vs : List V} {x : PV} {v : V} (a : Rls K H μ xs vs) (b : Rl K H μ x v) : Rls K H μ (xs ++ [x]) (vs ++ [v]) := a.app (.cons b .nil)
end

/-! ### the whole state -/
/-- the pairs of a dict -/
inductive KRl (K : PySem.W.Frag) (H : Hp) (μ : List Addr) {κ : Type} : List (κ × PV) → List (κ × V) → Prop
  | nil : KRl K H μ [] []
  | cons {k : κ} {x : PV} {v : V} {r : List (κ × PV)} {s : List (κ × V)} : Rl K H μ x v → KRl K H μ r s → KRl K H μ ((k, x) :: r) ((k, v) :: s)
theorem KRl.mono {K : PySem.W.Frag} {H H' : Hp} {μ μ' : List Addr} {κ : Type} (e : Ex μ H μ' H') : ∀ {r : List (κ × PV)} {s : List (κ × V)}, KRl K H μ r s → KRl K H' μ' r s
  | _, _, .nil => .nil
  | _, _, .cons a b => .cons (a.mono e) (KRl.mono e b)
/-- an object that may change, at its place -/
def OR (K : PySem.W.Frag) (H : Hp) (μ : List Addr) (a : Addr) : MO → Prop
  | .lst xs => ∃ vs, H a = some (.lst vs) ∧ Rls K H μ xs vs
  | .dK kvs => ∃ r, H a = some (.dK r) ∧ KRl K H μ kvs r
  | .dT kvs => ∃ r, H a = some (.dT r) ∧ KRl K H μ kvs r
/-- the objects that may change, and the tables of code objects -/
structure Wd (K : PySem.W.Frag) (tbs : List Addr) (μ : List Addr) (ph : PH) (H : Hp) : Prop where
  len : μ.length = ph.length
  nd : ∀ (i j : Nat) a, μ[i]? = some a → μ[j]? = some a → i = j
  ob : ∀ (n : Nat) a o, μ[n]? = some a → ph[n]? = some o → OR K H μ a o
  tb : ∀ P ∈ tbs, GxR.TabG H P
structure Sr (K : PySem.W.Frag) (H : Hp) (μ : List Addr) (ps : Sl) (σ : L2.St) : Prop where
  len : ps.length = σ.length
  at_ : ∀ (i : Nat) x, ps[i]? = some (some x) → ∃ v, σ[i]? = some (some v) ∧ Rl K H μ x v
theorem Sr.mono {K : PySem.W.Frag} {H H' : Hp} {μ μ' : List Addr} {ps : Sl} {σ : L2.St} (e : Ex μ H μ' H') (h : Sr K H μ ps σ) : Sr K H' μ' ps σ := ⟨h.len, fun i x q => by
  obtain ⟨v, h1, h2⟩ := h.at_ i x q
  exact ⟨v, h1, h2.mono e⟩⟩
theorem Sr.set {K : PySem.W.Frag} {H : Hp} {μ : List Addr} {ps : Sl} {σ : L2.St} {x : PV} {v : V} (h : Sr K H μ ps σ) (i : Nat) (r : Rl K H μ x v) : Sr K H μ (ps.set i (some x)) (σ.set i (some v)) := by
  refine ⟨by rw [List.length_set, List.length_set]; exact h.len, fun j y q => ?_⟩
  by_cases e : i = j
  · subst e
    have lt : i < ps.length := by
      have := (List.getElem?_eq_some_iff.mp q).1
      simpa using this
    rw [List.getElem?_set_self lt] at q
    have lt2 : i < σ.length := by rw [← h.len]; exact lt
    rw [List.getElem?_set_self lt2]
    cases q
    exact ⟨v, rfl, r⟩
  · rw [List.getElem?_set_ne e] at q
    rw [List.getElem?_set_ne e]
    exact h.at_ j y q
/-- the exception's class and its own dict -/
def ER (K : PySem.W.Frag) (mg : Str → Option Value) (H : Hp) (μ : List Addr) (e : PErr) (cls : Value) (d : Option Addr) : Prop :=
  mg e.cls = some cls ∧ (match e.fld with
    | none => d = none
    | some (f, x) => ∃ da v, d = some da ∧ H da = some (.xd [(f, v)]) ∧ Rl K H μ x v)
theorem ER.mono_xd {K : PySem.W.Frag} {mg : Str → Option Value} {H H' : Hp} {μ μ' : List Addr} {e : PErr} {cls : Value} {d : Option Addr} (x : Ex μ H μ' H') (hx : ∀ a fs, H a = some (.xd fs) → H' a = some (.xd fs)) (h : ER K mg H μ e cls d) : ER K mg H' μ' e cls d := by
  obtain ⟨h1, h2⟩ := h
  refine ⟨h1, ?_⟩
  cases he : e.fld with
  | none => rw [he] at h2; exact h2
  | some p =>
    rw [he] at h2
    obtain ⟨da, v, e1, e2, e3⟩ := h2
    exact ⟨da, v, e1, hx _ _ e2, e3.mono x⟩

/-! ### judgements -/
/-- what stays the same for a law: the tables -/
structure Bs where
  K : PySem.W.Frag
  mg : Str → Option Value
  tbs : List Addr
section
variable (B : Bs) (W : WX)
/-- what is wanted of an outcome that came from μ, H at the slots σ -/
def OutOk {α β : Type} (rel : Hp → List Addr → α → β → Prop) (μ : List Addr) (H : Hp) (σ : L2.St) (o : Out α) (Q : β → Hp → Prop) : Prop := match o with
  | .ok x h => ∀ μ' H' v, Ex μ H μ' H' → Wd B.K B.tbs μ' h H' → rel H' μ' x v → Q v H'
  | .err e h => ∀ μ' H' cls d, Ex μ H μ' H' → Wd B.K B.tbs μ' h H' → ER B.K B.mg H' μ' e cls d → W cls d σ H'
  | .no => False
def OutSOk (μ : List Addr) (H : Hp) (o : OutS) (D : Ends) : Prop := match o with
  | .nx s h => ∀ μ' H' σ', Ex μ H μ' H' → Wd B.K B.tbs μ' h H' → Sr B.K H' μ' s σ' → D.nx σ' H'
  | .rt x h => ∀ μ' H' v, Ex μ H μ' H' → Wd B.K B.tbs μ' h H' → Rl B.K H' μ' x v → D.rt v H'
  | .bk s h => ∀ μ' H' σ', Ex μ H μ' H' → Wd B.K B.tbs μ' h H' → Sr B.K H' μ' s σ' → D.bk σ' H'
  | .ct s h => ∀ μ' H' σ', Ex μ H μ' H' → Wd B.K B.tbs μ' h H' → Sr B.K H' μ' s σ' → D.ct σ' H'
  | .err e s h => ∀ μ' H' σ' cls d, Ex μ H μ' H' → Wd B.K B.tbs μ' h H' → Sr B.K H' μ' s σ' → ER B.K B.mg H' μ' e cls d → W cls d σ' H'
  | .no => False
def tD (f : DE) : TE := fun σ H Q => ∃ μ ps ph, Sr B.K H μ ps σ ∧ Wd B.K B.tbs μ ph H ∧ OutOk B W (fun H' μ' => Rl B.K H' μ') μ H σ (f ps ph) Q
def tDT (f : DT) : TT := fun σ H Q => ∃ μ ps ph, Sr B.K H μ ps σ ∧ Wd B.K B.tbs μ ph H ∧ OutOk B W (fun _ _ (b c : Bool) => b = c) μ H σ (f ps ph) Q
def tDA (f : DA) : TA := fun σ H Q => ∃ μ ps ph, Sr B.K H μ ps σ ∧ Wd B.K B.tbs μ ph H ∧ OutOk B W (fun H' μ' => Rls B.K H' μ') μ H σ (f ps ph) Q
def tDS (f : DS) : TS := fun D σ H => ∃ μ ps ph, Sr B.K H μ ps σ ∧ Wd B.K B.tbs μ ph H ∧ OutSOk B W μ H (f ps ph) D
variable (X : Cx)
def JE (e : Expr) (f : DE) : Prop := PE X e (tD B W f)
def JT (e : Expr) (f : DT) : Prop := PT X e (tDT B W f)
def JW (e : Expr) (f : DT) : Prop := PW X e (tDT B W f)
def JA (es : List Expr) (f : DA) : Prop := PA X es (tDA B W f)
def JS (st : Stmt) (f : DS) : Prop := PS X st (tDS B W f)
def JSs (st : List Stmt) (f : DS) : Prop := PSs X st (tDS B W f)
end
section
variable {B : Bs} {W : WX} {α β : Type} {rel : Hp → List Addr → α → β → Prop} {μ μ' : List Addr} {H H' : Hp} {σ : L2.St}
theorem OutOk.ext {o : Out α} {Q : β → Hp → Prop} (h : OutOk B W rel μ H σ o Q) (e : Ex μ H μ' H') : OutOk B W rel μ' H' σ o Q := by
  cases o with
  | ok x ph => exact fun μ2 H2 v e2 => h μ2 H2 v (e.trans e2)
  | err x ph => exact fun μ2 H2 c d e2 => h μ2 H2 c d (e.trans e2)
  | no => exact h
theorem OutSOk.ext {o : OutS} {D : Ends} (h : OutSOk B W μ H o D) (e : Ex μ H μ' H') : OutSOk B W μ' H' o D := by
  cases o with
  | nx s ph => exact fun μ2 H2 v e2 => h μ2 H2 v (e.trans e2)
  | rt s ph => exact fun μ2 H2 v e2 => h μ2 H2 v (e.trans e2)
  | bk s ph => exact fun μ2 H2 v e2 => h μ2 H2 v (e.trans e2)
  | ct s ph => exact fun μ2 H2 v e2 => h μ2 H2 v (e.trans e2)
  | err x s ph => exact fun μ2 H2 v c d e2 => h μ2 H2 v c d (e.trans e2)
  | no => exact h
theorem OutOk.mono {o : Out α} {Q Q' : β → Hp → Prop} (h : OutOk B W rel μ H σ o Q) (k : ∀ v H, Q v H → Q' v H) : OutOk B W rel μ H σ o Q' := by
  cases o with
  | ok x ph => exact fun μ2 H2 v e2 w r => k _ _ (h μ2 H2 v e2 w r)
  | err x ph => exact h
  | no => exact h
end
/-- one after another: the second begins where the first ended -/
theorem OutOk.bind {B : Bs} {W : WX} {α β α' β' : Type} {rel : Hp → List Addr → α → β → Prop} {rel' : Hp → List Addr → α' → β' → Prop} {μ : List Addr} {H : Hp} {σ : L2.St} {o : Out α} {k : α → PH → Out α'} {Q' : β' → Hp → Prop} {Q : β → Hp → Prop}
    (h : OutOk B W rel' μ H σ (o.bind k) Q') (q : ∀ x ph μ' H' v, Ex μ H μ' H' → Wd B.K B.tbs μ' ph H' → rel H' μ' x v → OutOk B W rel' μ' H' σ (k x ph) Q' → Q v H') : OutOk B W rel μ H σ o Q := by
  cases o with
  | ok x ph => exact fun μ' H' v e w r => q x ph μ' H' v e w r (OutOk.ext h e)
  | err x ph => exact h
  | no => exact h
theorem PE_imp {X : Cx} {e : Expr} {t t' : TE} (h : PE X e t) (k : ∀ σ H Q, t' σ H Q → t σ H Q) : PE X e t' := ⟨fun pins s σ H Q I q => h.run pins s σ H Q I (k σ H Q q)⟩
theorem PT_imp {X : Cx} {e : Expr} {t t' : TT} (h : PT X e t) (k : ∀ σ H Q, t' σ H Q → t σ H Q) : PT X e t' := ⟨fun pins s σ H Q I q => h.run pins s σ H Q I (k σ H Q q)⟩
theorem PW_imp {X : Cx} {e : Expr} {t t' : TT} (h : PW X e t) (k : ∀ σ H Q, t' σ H Q → t σ H Q) : PW X e t' := ⟨fun wh pins s σ H Q I q => h.run wh pins s σ H Q I (k σ H Q q)⟩
theorem PA_imp {X : Cx} {e : List Expr} {t t' : TA} (h : PA X e t) (k : ∀ σ H Q, t' σ H Q → t σ H Q) : PA X e t' := ⟨fun p pins s σ H Q I q => h.run p pins s σ H Q I (k σ H Q q)⟩
theorem PS_imp {X : Cx} {e : Stmt} {t t' : TS} (h : PS X e t) (k : ∀ D σ H, t' D σ H → t D σ H) : PS X e t' := ⟨fun pins s σ H D I q => h.run pins s σ H D I (k D σ H q)⟩
theorem PSs_imp {X : Cx} {e : List Stmt} {t t' : TS} (h : PSs X e t) (k : ∀ D σ H, t' D σ H → t D σ H) : PSs X e t' := ⟨fun pins s σ H D I q => h.run pins s σ H D I (k D σ H q)⟩
end Dn
namespace Dn
open PySem PySem.Spec PyProof.Rows L2 PySem.SeqAt
abbrev bs (X : Cx) (tbs : List Addr) : Bs := ⟨X.K, X.mg, tbs⟩
abbrev F2 := PV → PV → PH → Option (PV × PH)
abbrev F1 := PV → PH → Option (PV × PH)
abbrev FN := List PV → PH → Option (PV × PH)
def Out.of {α : Type} : Option (α × PH) → Out α
  | some (x, h) => .ok x h
  | none => .no
@[simp] theorem Out.of_some {α : Type} (x : α) (h : PH) : Out.of (some (x, h)) = .ok x h := rfl
@[simp] theorem Out.of_none {α : Type} : Out.of (none : Option (α × PH)) = .no := rfl
/-- what is wanted of a value that an operator makes -/
def OutN (B : Bs) (μ : List Addr) (H : Hp) (o : Option (PV × PH)) (Q : VK) : Prop := match o with
  | some (x, h) => ∀ μ' H' v, Ex μ H μ' H' → Wd B.K B.tbs μ' h H' → Rl B.K H' μ' x v → Q v H'
  | none => False
theorem OutOk.op {B : Bs} {W : WX} {μ : List Addr} {H : Hp} {σ : L2.St} {o : Option (PV × PH)} {Q : VK} (h : OutOk B W (fun H' μ' => Rl B.K H' μ') μ H σ (Out.of o) Q) : OutN B μ H o Q := by
  cases o with
  | some p => exact h
  | none => exact h
/-- the value itself, the heap as it was -/
theorem OutN.val {B : Bs} {μ : List Addr} {ph : PH} {H : Hp} {x : PV} {v : V} {Q : VK} (q : OutN B μ H (some (x, ph)) Q) (wd : Wd B.K B.tbs μ ph H) (r : Rl B.K H μ x v) : Q v H := q μ H v Ex.refl wd r
section
variable {K : PySem.W.Frag} {tbs : List Addr} {μ : List Addr} {ph : PH} {H : Hp}
theorem Ex.new {p : Addr} (hp : H p = none) (o : HO) : Ex μ H μ (upd H p o) := ⟨fun _ _ h => h, fun a xs h => by rw [upd_ne (ne_of_none h hp)]; exact h, fun a ob u h => by rw [upd_ne (ne_of_none h hp)]; exact h⟩
theorem Ex.grow {p : Addr} (hp : H p = none) (o : HO) : Ex μ H (μ ++ [p]) (upd H p o) := ⟨fun n a h => by
    have lt := (List.getElem?_eq_some_iff.mp h).1
    rw [List.getElem?_append_left lt]
    exact h, (Ex.new (μ := μ) hp o).tup, (Ex.new (μ := μ) hp o).frz⟩
theorem Ex.put {p : Addr} {o u : HO} (hp : H p = some o) (ht : ∀ xs, o ≠ .tup xs) (hf : ∀ b w, o ≠ .frz b w) : Ex μ H μ (upd H p u) := ⟨fun _ _ h => h, fun a xs h => by
    rw [upd_ne fun e => ht xs (by rw [e, hp] at h; exact Option.some.inj h)]
    exact h, fun a ob w h => by
    rw [upd_ne fun e => hf ob w (by rw [e, hp] at h; exact Option.some.inj h)]
    exact h⟩
theorem OR.frame {H' : Hp} {μ' : List Addr} {a : Addr} {o : MO} (e : Ex μ H μ' H') (ha : H' a = H a) (h : OR K H μ a o) : OR K H' μ' a o := by
  cases o with
  | lst xs =>
    obtain ⟨vs, h1, h2⟩ := h
    exact ⟨vs, ha.trans h1, h2.mono e⟩
  | dK kvs =>
    obtain ⟨r, h1, h2⟩ := h
    exact ⟨r, ha.trans h1, h2.mono e⟩
  | dT kvs =>
    obtain ⟨r, h1, h2⟩ := h
    exact ⟨r, ha.trans h1, h2.mono e⟩
theorem OR.there {a : Addr} {o : MO} (h : OR K H μ a o) : ∃ u, H a = some u ∧ (∀ xs, u ≠ .tup xs) ∧ (∀ b w, u ≠ .frz b w) ∧ ∀ ps, u ≠ .tbl ps := by
  cases o with
  | lst xs =>
    obtain ⟨vs, h1, _⟩ := h
    exact ⟨_, h1, (by intro _ z; cases z), (by intro _ _ z; cases z), (by intro _ z; cases z)⟩
  | dK kvs =>
    obtain ⟨r, h1, _⟩ := h
    exact ⟨_, h1, (by intro _ z; cases z), (by intro _ _ z; cases z), (by intro _ z; cases z)⟩
  | dT kvs =>
    obtain ⟨r, h1, _⟩ := h
    exact ⟨_, h1, (by intro _ z; cases z), (by intro _ _ z; cases z), (by intro _ z; cases z)⟩
theorem Wd.obj (w : Wd K tbs μ ph H) {n : Nat} {o : MO} (h : ph[n]? = some o) : ∃ a, μ[n]? = some a ∧ OR K H μ a o := by
  have lt : n < μ.length := by
    rw [w.len]
    exact (List.getElem?_eq_some_iff.mp h).1
  exact ⟨μ[n], List.getElem?_eq_getElem lt, w.ob n _ o (List.getElem?_eq_getElem lt) h⟩
theorem Wd.there (w : Wd K tbs μ ph H) {n : Nat} {a : Addr} (h : μ[n]? = some a) : ∃ o, ph[n]? = some o ∧ OR K H μ a o := by
  have lt : n < ph.length := by
    rw [← w.len]
    exact (List.getElem?_eq_some_iff.mp h).1
  exact ⟨ph[n], List.getElem?_eq_getElem lt, w.ob n a _ h (List.getElem?_eq_getElem lt)⟩
theorem Wd.apart (w : Wd K tbs μ ph H) {n : Nat} {a p : Addr} (h : μ[n]? = some a) (hp : H p = none) : a ≠ p := by
  obtain ⟨o, _, r⟩ := w.there h
  obtain ⟨u, hu, _⟩ := r.there
  exact ne_of_none hu hp
/-- a new object that cannot change -/
theorem Wd.new (w : Wd K tbs μ ph H) {p : Addr} (hp : H p = none) (o : HO) : Wd K tbs μ ph (upd H p o) where
  len := w.len
  nd := w.nd
  ob := fun n a u h1 h2 => (w.ob n a u h1 h2).frame (Ex.new hp o) (upd_ne (w.apart h1 hp))
  tb := fun P hP => by
    obtain ⟨ps, h1, h2⟩ := w.tb P hP
    exact ⟨ps, by rw [upd_ne (ne_of_none h1 hp)]; exact h1, h2⟩
/-- a new object that may change -/
theorem Wd.grow (w : Wd K tbs μ ph H) {p : Addr} (hp : H p = none) {o : HO} {m : MO} (r : OR K (upd H p o) (μ ++ [p]) p m) : Wd K tbs (μ ++ [p]) (ph ++ [m]) (upd H p o) where
  len := by rw [List.length_append, List.length_append, w.len]; rfl
  nd := fun i j a h1 h2 => by
    have key : ∀ (k : Nat) b, (μ ++ [p])[k]? = some b → (k < μ.length ∧ μ[k]? = some b) ∨ (k = μ.length ∧ b = p) := fun k b h => by
      by_cases lt : k < μ.length
      · rw [List.getElem?_append_left lt] at h
        exact .inl ⟨lt, h⟩
      · rw [List.getElem?_append_right (by omega)] at h
        have z := (List.getElem?_eq_some_iff.mp h).1
        have e : k = μ.length := by simp at z; omega
        subst e
        simp at h
        exact .inr ⟨rfl, h.symm⟩
    rcases key i a h1 with ⟨l1, q1⟩ | ⟨e1, z1⟩ <;> rcases key j a h2 with ⟨l2, q2⟩ | ⟨e2, z2⟩
    · exact w.nd i j a q1 q2
    · exact absurd z2 (w.apart q1 hp)
    · exact absurd z1 (w.apart q2 hp)
    · omega
  ob := fun n a u h1 h2 => by
    by_cases lt : n < μ.length
    · rw [List.getElem?_append_left lt] at h1
      rw [List.getElem?_append_left (by rw [← w.len]; exact lt)] at h2
      exact (w.ob n a u h1 h2).frame (Ex.grow hp o) (upd_ne (w.apart h1 hp))
    · rw [List.getElem?_append_right (by omega)] at h1
      rw [List.getElem?_append_right (by rw [← w.len]; omega)] at h2
      have z := (List.getElem?_eq_some_iff.mp h1).1
      have e : n - μ.length = 0 := by simp at z; omega
      have e2 : n - ph.length = 0 := by rw [← w.len]; exact e
      rw [e] at h1
      rw [e2] at h2
      cases h1
      cases h2
      exact r
  tb := (w.new hp o).tb
/-- an object changes -/
theorem Wd.put (w : Wd K tbs μ ph H) {n : Nat} {a : Addr} (h : μ[n]? = some a) {o : HO} {m : MO} (r : OR K (upd H a o) μ a m) : Wd K tbs μ (ph.set n m) (upd H a o) ∧ Ex μ H μ (upd H a o) := by
  obtain ⟨m0, h0, r0⟩ := w.there h
  obtain ⟨u, hu, nt, nf, nb⟩ := r0.there
  have e : Ex μ H μ (upd H a o) := Ex.put hu nt nf
  refine ⟨⟨by rw [List.length_set]; exact w.len, w.nd, fun k b v h1 h2 => ?_, fun P hP => ?_⟩, e⟩
  · by_cases z : n = k
    · subst z
      rw [h] at h1
      cases h1
      rw [List.getElem?_set_self (List.getElem?_eq_some_iff.mp h0).1] at h2
      cases h2
      exact r
    · rw [List.getElem?_set_ne z] at h2
      refine (w.ob k b v h1 h2).frame e (upd_ne fun q => z ?_)
      subst q
      exact w.nd n k b h h1
  · obtain ⟨ps, h1, h2⟩ := w.tb P hP
    refine ⟨ps, ?_, h2⟩
    rw [upd_ne fun q => nb ps (by rw [q, hu] at h1; exact Option.some.inj h1)]
    exact h1
end

/-! ### names and constants -/
def eC (x : PV) : DE := fun _ h => .ok x h
def eVar (i : Nat) : DE := fun s h => match s[i]? with
  | some (some v) => .ok v h
  | _ => .no
section
variable {tbs : List Addr} {W : WX} {X : Cx} {pos : Pos}
theorem j_c {e : Expr} {x : PV} {v : V} (h : PE X e (tC v)) (r : ∀ H μ, Rl X.K H μ x v) : JE (bs X tbs) W X e (eC x) := PE_imp h fun σ H Q ⟨μ, ps, ph, sr, wd, ok⟩ => ok μ H v Ex.refl wd (r _ _)
theorem j_int {i : Int} {j} : JE (bs X tbs) W X (.Constant (.int i) j pos) (eC (.int i)) := j_c pe_int fun _ _ => .int i
theorem j_bl {i : Bool} {j} : JE (bs X tbs) W X (.Constant (.bool i) j pos) (eC (.bl i)) := j_c pe_bl fun _ _ => .bl i
theorem j_non {j} : JE (bs X tbs) W X (.Constant .none j pos) (eC .non) := j_c pe_non fun _ _ => .non
theorem j_str {x : Str} {j} : JE (bs X tbs) W X (.Constant (.str x) j pos) (eC (.str x)) := j_c pe_str fun _ _ => .str x
theorem j_var (i : Nat) {x : Str} (hN : X.N[i]? = some x := by rfl) (hv : Vis X.env.scope x := by first | exact Or.inl rfl | exact Or.inr (Or.inl rfl) | exact Or.inr (Or.inr rfl)) (hd : (x == ("__debug__" : Str)) = false := by decide)
    (hcd : (x == ("__classdict__" : Str)) = false := by decide) : JE (bs X tbs) W X (.Name x pos) (eVar i) := PE_imp (pv i hN hv hd hcd) fun σ H Q ⟨μ, ps, ph, sr, wd, ok⟩ => by
  unfold eVar at ok
  split at ok
  · rename_i v e
    obtain ⟨u, h1, h2⟩ := sr.at_ i v e
    exact ⟨u, h1, ok μ H u Ex.refl wd h2⟩
  · exact ok.elim
/-- a constant of the module -/
theorem j_glob {x : Str} {px : PV} {v : V} {u : Value} (hg : Gl X x) (hm : X.mg x = some u) (rv : RelV v u) (r : ∀ H μ, Rl X.K H μ px v) (hd : (x == ("__debug__" : Str)) = false := by decide) : JE (bs X tbs) W X (.Name x pos) (eC px) := j_c (pe_glob hg hm rv hd) r

/-! ### operators -/
def rP (B : Bs) (f : F2) : R2 := fun x y H Q => ∃ μ ph px py, Wd B.K B.tbs μ ph H ∧ Rl B.K H μ px x ∧ Rl B.K H μ py y ∧ OutN B μ H (f px py ph) Q
def rP1 (B : Bs) (f : F1) : V → Hp → VK → Prop := fun x H Q => ∃ μ ph px, Wd B.K B.tbs μ ph H ∧ Rl B.K H μ px x ∧ OutN B μ H (f px ph) Q
def rPN (B : Bs) (f : FN) : List V → Hp → VK → Prop := fun xs H Q => ∃ μ ph ps, Wd B.K B.tbs μ ph H ∧ Rls B.K H μ ps xs ∧ OutN B μ H (f ps ph) Q
def eOp (f : F2) (a b : DE) : DE := fun s h => (a s h).bind fun x h => (b s h).bind fun y h => Out.of (f x y h)
def eUn (f : F1) (a : DE) : DE := fun s h => (a s h).bind fun x h => Out.of (f x h)
def eCall (f : FN) (a : DA) : DE := fun s h => (a s h).bind fun xs h => Out.of (f xs h)
theorem j_op2 {fa fb : DE} {f : F2} {r : R2} {σ : L2.St} {H : Hp} {Q : VK} (hr : ∀ x y H Q, rP (bs X tbs) f x y H Q → r x y H Q) (h : tD (bs X tbs) W (eOp f fa fb) σ H Q) :
    tOp r (tD (bs X tbs) W fa) (tD (bs X tbs) W fb) σ H Q := by
  obtain ⟨μ, ps, ph, sr, wd, ok⟩ := h
  refine ⟨μ, ps, ph, sr, wd, OutOk.bind ok fun x ph1 μ1 H1 v e1 w1 r1 ok1 => ⟨μ1, ps, ph1, sr.mono e1, w1, OutOk.bind ok1 fun y ph2 μ2 H2 u e2 w2 r2 ok2 => hr _ _ _ _ ⟨μ2, ph2, x, y, w2, r1.mono e2, r2, ok2.op⟩⟩⟩
theorem j_op {op : Operator} {a b : Expr} {fa fb : DE} {f : F2} (ho : OpR X (binaryOp op) (rP (bs X tbs) f)) (ha : JE (bs X tbs) W X a fa) (hb : JE (bs X tbs) W X b fb) : JE (bs X tbs) W X (.BinOp a op b pos) (eOp f fa fb) :=
  PE_imp (pe_op ho ha hb) fun σ H Q h => j_op2 (fun _ _ _ _ q => q) h
theorem j_cmp {op : CmpOp} {a b : Expr} {fa fb : DE} {f : F2} (ho : OpR X (compareOp op) (rP (bs X tbs) f)) (ha : JE (bs X tbs) W X a fa) (hb : JE (bs X tbs) W X b fb) (hm : behindInMarks op b = false := by first | exact nomark _ | rfl) : JE (bs X tbs) W X (.Compare a [op] [b] pos) (eOp f fa fb) :=
  PE_imp (pe_cmpR ho ha hb hm) fun σ H Q h => j_op2 (fun _ _ _ _ q => q) h
theorem j_un {op : UnaryOp} {a : Expr} {fa : DE} {f : F1} (ho : UnR X (unaryOp op) (rP1 (bs X tbs) f)) (ha : JE (bs X tbs) W X a fa) : JE (bs X tbs) W X (.UnaryOp op a pos) (eUn f fa) :=
  PE_imp (pe_un ho ha) fun σ H Q ⟨μ, ps, ph, sr, wd, ok⟩ => ⟨μ, ps, ph, sr, wd, OutOk.bind ok fun x ph1 μ1 H1 v e1 w1 r1 ok1 => ⟨μ1, ph1, x, w1, r1, ok1.op⟩⟩
theorem j_ix {a b : Expr} {fa fb : DE} {f : F2} (ho : IxR X (rP (bs X tbs) f)) (ha : JE (bs X tbs) W X a fa) (hb : JE (bs X tbs) W X b fb) (hs : PlainIx b := by exact fun _ _ => rfl) : JE (bs X tbs) W X (.Subscript a b pos) (eOp f fa fb) :=
  PE_imp (pe_ix ho ha hb hs) fun σ H Q h => j_op2 (fun _ _ _ _ q => q) h

/-! ### argument lists, displays -/
def eNil : DA := fun _ h => .ok [] h
def eCons (a : DE) (r : DA) : DA := fun s h => (a s h).bind fun x h => (r s h).bind fun xs h => .ok (x :: xs) h
theorem j_nil : JA (bs X tbs) W X [] eNil := PA_imp pa_nil fun σ H Q ⟨μ, ps, ph, sr, wd, ok⟩ => ok μ H [] Ex.refl wd .nil
theorem j_cons {e : Expr} {es : List Expr} {f : DE} {g : DA} (he : JE (bs X tbs) W X e f) (hr : JA (bs X tbs) W X es g) (hs : starEach (e :: es) X.env = (false, eval e X.env) :: starEach es X.env := by rfl) : JA (bs X tbs) W X (e :: es) (eCons f g) :=
  PA_imp (pa_cons he hr hs) fun σ H Q ⟨μ, ps, ph, sr, wd, ok⟩ => ⟨μ, ps, ph, sr, wd, OutOk.bind ok fun x ph1 μ1 H1 v e1 w1 r1 ok1 => ⟨μ1, ps, ph1, sr.mono e1, w1,
    OutOk.bind ok1 fun xs ph2 μ2 H2 vs e2 w2 r2 ok2 => ok2 μ2 H2 _ Ex.refl w2 (.cons (r1.mono e2) r2)⟩⟩
def eTup (a : DA) : DE := fun s h => (a s h).bind fun xs h => if xs.length ≤ sizeLine then .ok (.tup xs) h else .no
def eLst (a : DA) : DE := fun s h => (a s h).bind fun xs h => if xs.length ≤ sizeLine then .ok (.ref h.length) (h ++ [.lst xs]) else .no
theorem Wd.newTup {K : PySem.W.Frag} {μ : List Addr} {ph : PH} {H : Hp} {p : Addr} {xs : List PV} {vs : List V} (w : Wd K tbs μ ph H) (r : Rls K H μ xs vs) (hp : H p = none) :
    Ex μ H μ (upd H p (.tup vs)) ∧ Wd K tbs μ ph (upd H p (.tup vs)) ∧ Rl K (upd H p (.tup vs)) μ (.tup xs) (.ref p) :=
  ⟨Ex.new hp _, w.new hp _, .tup upd_same (r.mono (Ex.new hp _))⟩
theorem Wd.newLst {K : PySem.W.Frag} {μ : List Addr} {ph : PH} {H : Hp} {p : Addr} {xs : List PV} {vs : List V} (w : Wd K tbs μ ph H) (r : Rls K H μ xs vs) (hp : H p = none) :
    Ex μ H (μ ++ [p]) (upd H p (.lst vs)) ∧ Wd K tbs (μ ++ [p]) (ph ++ [.lst xs]) (upd H p (.lst vs)) ∧ Rl K (upd H p (.lst vs)) (μ ++ [p]) (.ref ph.length) (.ref p) :=
  ⟨Ex.grow hp _, w.grow hp ⟨vs, upd_same, r.mono (Ex.grow hp _)⟩, .ref (by rw [← w.len]; simp)⟩
theorem j_tup {es : List Expr} {f : DA} {k} (h : JA (bs X tbs) W X es f) : JE (bs X tbs) W X (.Tuple es k pos) (eTup f) := PE_imp (pe_tup h) fun σ H Q ⟨μ, ps, ph, sr, wd, ok⟩ => ⟨μ, ps, ph, sr, wd, OutOk.bind ok fun xs ph1 μ1 H1 vs e1 w1 r1 ok1 => by
  have l := r1.len
  split at ok1
  · rename_i hz
    refine ⟨by rw [← l]; exact hz, fun p hp => ?_⟩
    obtain ⟨a, b, c⟩ := w1.newTup r1 hp
    exact ok1 _ _ _ a b c
  · exact ok1.elim⟩
theorem j_lst {es : List Expr} {f : DA} (h : JA (bs X tbs) W X es f) : JE (bs X tbs) W X (.List es pos) (eLst f) := PE_imp (pe_lst h) fun σ H Q ⟨μ, ps, ph, sr, wd, ok⟩ => ⟨μ, ps, ph, sr, wd, OutOk.bind ok fun xs ph1 μ1 H1 vs e1 w1 r1 ok1 => by
  have l := r1.len
  split at ok1
  · rename_i hz
    refine ⟨by rw [← l]; exact hz, fun p hp => ?_⟩
    obtain ⟨a, b, c⟩ := w1.newLst r1 hp
    exact ok1 _ _ _ a b c
  · exact ok1.elim⟩

/-! ### tests -/
def tV (a : DE) : DT := fun s h => (a s h).bind fun x h => match x with
  | .bl b => .ok b h
  | _ => .no
def tAndD (a b : DT) : DT := fun s h => (a s h).bind fun c h => if c = true then b s h else .ok false h
def tOrD (a b : DT) : DT := fun s h => (a s h).bind fun c h => if c = true then .ok true h else b s h
def tNotD (a : DT) : DT := fun s h => (a s h).bind fun c h => .ok (!c) h
def eIf (c : DT) (a b : DE) : DE := fun s h => (c s h).bind fun c h => if c = true then a s h else b s h
/-- a test as a value -/
def eB (c : DT) : DE := fun s h => (c s h).bind fun c h => .ok (.bl c) h
theorem j_tv {e : Expr} {f : DE} (h : JE (bs X tbs) W X e f) (he : ∀ whole, isTrue e X.env whole = (do let v ← whole; standAt e.pos; holding [v] (truthy v)) := by intro _; rfl) : JT (bs X tbs) W X e (tV f) :=
  PT_imp (pt_val h he) fun σ H Q ⟨μ, ps, ph, sr, wd, ok⟩ => ⟨μ, ps, ph, sr, wd, OutOk.bind ok fun x ph1 μ1 H1 v e1 w1 r1 ok1 => by
    cases r1 with
    | bl b => exact ⟨b, rfl, ok1 μ1 H1 b Ex.refl w1 rfl⟩
    | _ => exact ok1.elim⟩
/-- the same, a comparison -/
theorem j_tcmp {op : CmpOp} {a b : Expr} {fa fb : DE} {f : F2} (ho : OpR X (compareOp op) (rP (bs X tbs) f)) (ha : JE (bs X tbs) W X a fa) (hb : JE (bs X tbs) W X b fb) (hm : behindInMarks op b = false := by first | exact nomark _ | rfl) : JT (bs X tbs) W X (.Compare a [op] [b] pos) (tV (eOp f fa fb)) :=
  PT_imp (pt_cmpR (r := rP (bs X tbs) f) ho ha hb hm) fun σ H Q ⟨μ, ps, ph, sr, wd, ok⟩ => by
    show tOp _ _ _ _ _ _
    refine j_op2 (fun _ _ _ _ q => q) ⟨μ, ps, ph, sr, wd, ?_⟩
    refine OutOk.bind (k := fun x h => match x with | .bl b => .ok b h | _ => .no) ok fun x ph1 μ1 H1 v e1 w1 r1 ok1 => ?_
    cases r1 with
    | bl b => exact ⟨b, rfl, ok1 μ1 H1 b Ex.refl w1 rfl⟩
    | _ => exact ok1.elim
theorem j_wt {e : Expr} {f : DT} (h : JW (bs X tbs) W X e f) : JT (bs X tbs) W X e f := PW.pt h
theorem j_and1 {e : Expr} {f : DT} (h : JT (bs X tbs) W X e f) : JW (bs X tbs) W X (.BoolOp .And [e] pos) f := pw_and1 h
theorem j_or1 {e : Expr} {f : DT} (h : JT (bs X tbs) W X e f) : JW (bs X tbs) W X (.BoolOp .Or [e] pos) f := pw_or1 h
theorem j_and {a b : Expr} {rest : List Expr} {f g : DT} (ha : JT (bs X tbs) W X a f) (hb : JW (bs X tbs) W X (.BoolOp .And (b :: rest) pos) g) : JW (bs X tbs) W X (.BoolOp .And (a :: b :: rest) pos) (tAndD f g) :=
  PW_imp (pw_and ha hb) fun σ H Q ⟨μ, ps, ph, sr, wd, ok⟩ => ⟨μ, ps, ph, sr, wd, OutOk.bind ok fun x ph1 μ1 H1 v e1 w1 r1 ok1 => by
    subst r1
    cases x with
    | true => exact ⟨μ1, ps, ph1, sr.mono e1, w1, ok1⟩
    | false => exact ok1 μ1 H1 false Ex.refl w1 rfl⟩
theorem j_or {a b : Expr} {rest : List Expr} {f g : DT} (ha : JT (bs X tbs) W X a f) (hb : JW (bs X tbs) W X (.BoolOp .Or (b :: rest) pos) g) : JW (bs X tbs) W X (.BoolOp .Or (a :: b :: rest) pos) (tOrD f g) :=
  PW_imp (pw_or ha hb) fun σ H Q ⟨μ, ps, ph, sr, wd, ok⟩ => ⟨μ, ps, ph, sr, wd, OutOk.bind ok fun x ph1 μ1 H1 v e1 w1 r1 ok1 => by
    subst r1
    cases x with
    | true => exact ok1 μ1 H1 true Ex.refl w1 rfl
    | false => exact ⟨μ1, ps, ph1, sr.mono e1, w1, ok1⟩⟩
theorem j_not {a : Expr} {f : DT} (ha : JT (bs X tbs) W X a f) : JT (bs X tbs) W X (.UnaryOp .Not a pos) (tNotD f) :=
  PT_imp (pt_not ha) fun σ H Q ⟨μ, ps, ph, sr, wd, ok⟩ => ⟨μ, ps, ph, sr, wd, OutOk.bind ok fun x ph1 μ1 H1 v e1 w1 r1 ok1 => by
    subst r1
    exact ok1 μ1 H1 _ Ex.refl w1 rfl⟩
theorem j_if {c a b : Expr} {f : DT} {g h : DE} (hc : JT (bs X tbs) W X c f) (ha : JE (bs X tbs) W X a g) (hb : JE (bs X tbs) W X b h) : JE (bs X tbs) W X (.IfExp c a b pos) (eIf f g h) :=
  PE_imp (pe_ifExp hc ha hb) fun σ H Q ⟨μ, ps, ph, sr, wd, ok⟩ => ⟨μ, ps, ph, sr, wd, OutOk.bind ok fun x ph1 μ1 H1 v e1 w1 r1 ok1 => by
    subst r1
    cases x with
    | true => exact ⟨μ1, ps, ph1, sr.mono e1, w1, ok1⟩
    | false => exact ⟨μ1, ps, ph1, sr.mono e1, w1, ok1⟩⟩
/-- a and b, a or b, not a as values, all of them True or False -/
def eAnd (a b : DE) : DE := fun s h => (a s h).bind fun x h => match x with
  | .bl true => b s h
  | .bl false => .ok (.bl false) h
  | _ => .no
def eOr (a b : DE) : DE := fun s h => (a s h).bind fun x h => match x with
  | .bl true => .ok (.bl true) h
  | .bl false => b s h
  | _ => .no
def eNot (a : DE) : DE := fun s h => (a s h).bind fun x h => match x with
  | .bl c => .ok (.bl (!c)) h
  | _ => .no
theorem j_one {op} {a : Expr} {f : DE} (h : JE (bs X tbs) W X a f) : JE (bs X tbs) W X (.BoolOp op [a] pos) f := pe_one h
theorem j_andV {a b : Expr} {rest : List Expr} {f g : DE} (ha : JE (bs X tbs) W X a f) (hb : JE (bs X tbs) W X (.BoolOp .And (b :: rest) pos) g) : JE (bs X tbs) W X (.BoolOp .And (a :: b :: rest) pos) (eAnd f g) :=
  PE_imp (pe_and ha hb) fun σ H Q ⟨μ, ps, ph, sr, wd, ok⟩ => ⟨μ, ps, ph, sr, wd, OutOk.bind ok fun x ph1 μ1 H1 v e1 w1 r1 ok1 => by
    cases r1 with
    | bl b =>
      cases b with
      | true => exact ⟨true, rfl, iteT ⟨μ1, ps, ph1, sr.mono e1, w1, ok1⟩⟩
      | false => exact ⟨false, rfl, iteF (ok1 μ1 H1 _ Ex.refl w1 (.bl false))⟩
    | _ => exact ok1.elim⟩
theorem j_orV {a b : Expr} {rest : List Expr} {f g : DE} (ha : JE (bs X tbs) W X a f) (hb : JE (bs X tbs) W X (.BoolOp .Or (b :: rest) pos) g) : JE (bs X tbs) W X (.BoolOp .Or (a :: b :: rest) pos) (eOr f g) :=
  PE_imp (pe_or ha hb) fun σ H Q ⟨μ, ps, ph, sr, wd, ok⟩ => ⟨μ, ps, ph, sr, wd, OutOk.bind ok fun x ph1 μ1 H1 v e1 w1 r1 ok1 => by
    cases r1 with
    | bl b =>
      cases b with
      | true => exact ⟨true, rfl, iteT (ok1 μ1 H1 _ Ex.refl w1 (.bl true))⟩
      | false => exact ⟨false, rfl, iteF ⟨μ1, ps, ph1, sr.mono e1, w1, ok1⟩⟩
    | _ => exact ok1.elim⟩
theorem j_notV {a : Expr} {f : DE} (ha : JE (bs X tbs) W X a f) : JE (bs X tbs) W X (.UnaryOp .Not a pos) (eNot f) :=
  PE_imp (pe_not ha) fun σ H Q ⟨μ, ps, ph, sr, wd, ok⟩ => ⟨μ, ps, ph, sr, wd, OutOk.bind ok fun x ph1 μ1 H1 v e1 w1 r1 ok1 => by
    cases r1 with
    | bl b => exact ⟨b, rfl, ok1 μ1 H1 _ Ex.refl w1 (.bl _)⟩
    | _ => exact ok1.elim⟩

/-! ### calls of built-ins by name -/
theorem j_callB {f : FN} {id : String} {x : Str} {e : Expr} {es : List Expr} {g : DA} {p : Pos} (hc : CallR X (.builtin id) (rPN (bs X tbs) f)) (hg : Gl X x) (hm : X.mg x = none) (hv : bootBuiltins x = some (.builtin id)) (ha : JA (bs X tbs) W X (e :: es) g)
    (hn : x ≠ "__name__" := by decide) (hdb : (x == ("__debug__" : Str)) = false := by decide)
    (he : starEach (e :: es) X.env = (false, eval e X.env) :: starEach es X.env := by rfl) (hpl : (backTo pos (starEach es X.env)).any (·.1) = false := by rfl) : JE (bs X tbs) W X (.Call (.Name x p) (e :: es) [] pos) (eCall f g) :=
  PE_imp (pe_callB hc hg hm hv ha hn hdb he hpl) fun σ H Q ⟨μ, ps, ph, sr, wd, ok⟩ => ⟨μ, ps, ph, sr, wd, OutOk.bind ok fun x ph1 μ1 H1 v e1 w1 r1 ok1 => ⟨μ1, ph1, x, w1, r1, ok1.op⟩⟩
theorem j_callTy {f : FN} {T : String} {x : Str} {e : Expr} {es : List Expr} {g : DA} {p : Pos} (hc : CallR X (.type T) (rPN (bs X tbs) f)) (hg : Gl X x) (hm : X.mg x = none) (hv : bootBuiltins x = some (.type T)) (ha : JA (bs X tbs) W X (e :: es) g)
    (hn : x ≠ "__name__" := by decide) (hdb : (x == ("__debug__" : Str)) = false := by decide)
    (he : starEach (e :: es) X.env = (false, eval e X.env) :: starEach es X.env := by rfl) (hpl : (backTo pos (starEach es X.env)).any (·.1) = false := by rfl) : JE (bs X tbs) W X (.Call (.Name x p) (e :: es) [] pos) (eCall f g) :=
  PE_imp (pe_callTy hc hg hm hv ha hn hdb he hpl) fun σ H Q ⟨μ, ps, ph, sr, wd, ok⟩ => ⟨μ, ps, ph, sr, wd, OutOk.bind ok fun x ph1 μ1 H1 v e1 w1 r1 ok1 => ⟨μ1, ph1, x, w1, r1, ok1.op⟩⟩
end
end Dn
namespace Dn
open PySem PySem.Spec PyProof.Rows L2 PySem.SeqAt

/-! ### a value as data -/
def allD (f : PV → Option PyData) : List PV → Option (List PyData)
  | [] => some []
  | x :: r => match f x, allD f r with
    | some d, some ds => some (d :: ds)
    | _, _ => none
def toD (ph : PH) : Nat → PV → Option PyData
  | 0, _ => none
  | n + 1, x => match x with
    | .non => some .none
    | .bl b => some (.bool b)
    | .int i => some (.int i)
    | .str z => some (.str z)
    | .tup xs => (allD (toD ph n) xs).map .tuple
    | .kt xs => (allD (toD ph n) xs).map .tuple
    | .fz _ => none
    | .ref k => match ph[k]? with
      | some (.lst xs) => (allD (toD ph n) xs).map .list
      | some (.dK [(.inr z, y)]) => (toD ph n y).map fun d => .dict [(.str z, d)]
      | _ => none
theorem allD_cons {f : PV → Option PyData} {x : PV} {r : List PV} {ds : List PyData} (h : allD f (x :: r) = some ds) : ∃ d es, ds = d :: es ∧ f x = some d ∧ allD f r = some es := by
  unfold allD at h
  split at h
  · rename_i d es h1 h2
    exact ⟨d, es, (Option.some.inj h).symm, h1, h2⟩
  · cases h
section
variable {X : Cx} {pins : List (Addr × Obj)} {σ : L2.St} {H : Hp} {s : Shared} {tbs : List Addr} {μ : List Addr} {ph : PH}
def ReadsOf (s : Shared) (H : Hp) (u : Value) (d : PyData) : Prop := ∃ as, Reads s.heap u d as ∧ ∀ b ∈ as, ∃ o, H b = some o
def ReadsOfs (s : Shared) (H : Hp) (us : List Value) (ds : List PyData) : Prop := ∃ as, ReadsAll s.heap us ds as ∧ ∀ b ∈ as, ∃ o, H b = some o
theorem Rls.reads {K : PySem.W.Frag} {f : PV → Option PyData} (hf : ∀ x d v u, f x = some d → Rl K H μ x v → RelV v u → ReadsOf s H u d) : ∀ {xs : List PV} {vs : List V} {us : List Value} {ds : List PyData}, allD f xs = some ds → Rls K H μ xs vs → Vals vs us → ReadsOfs s H us ds
  | [], _, _, _, h, r, rv => by
    cases r
    cases rv
    cases h
    exact ⟨_, ReadsAll.nil, fun b hb => absurd hb (by simp)⟩
  | x :: xs, _, _, _, h, r, rv => by
    obtain ⟨d, es, rfl, h1, h2⟩ := allD_cons h
    cases r with
    | cons r1 r2 =>
      cases rv with
      | cons v1 v2 =>
        obtain ⟨as, q1, k1⟩ := hf x d _ _ h1 r1 v1
        obtain ⟨bs, q2, k2⟩ := Rls.reads hf h2 r2 v2
        refine ⟨_, ReadsAll.cons q1 q2, fun b hb => ?_⟩
        rcases List.mem_append.mp hb with e | e
        · exact k1 b e
        · exact k2 b e
theorem Rl.reads (I : Inv X pins σ H s) (wd : Wd X.K tbs μ ph H) : ∀ (n : Nat) (x : PV) (d : PyData) (v : V) (u : Value), toD ph n x = some d → Rl X.K H μ x v → RelV v u → ReadsOf s H u d := by
  intro n
  induction n with
  | zero =>
    intro x d v u h
    cases h
  | succ n ih =>
    intro x d v u h r rv
    unfold toD at h
    cases r with
    | non =>
      cases h
      cases rv
      exact ⟨_, Reads.none, fun b hb => absurd hb (by simp)⟩
    | bl b =>
      cases h
      cases rv
      exact ⟨_, Reads.bool b, fun b hb => absurd hb (by simp)⟩
    | int i =>
      cases h
      obtain ⟨t, rfl⟩ := rv
      exact ⟨_, Reads.int i t, fun b hb => absurd hb (by simp)⟩
    | str z =>
      cases h
      obtain ⟨t, rfl⟩ := rv
      exact ⟨_, Reads.str z t, fun b hb => absurd hb (by simp)⟩
    | fz _ _ => cases h
    | @tup a vs xs ht ra =>
      cases e : allD (toD ph n) xs with
      | none =>
        simp only [e] at h
        cases h
      | some ds =>
        simp only [e] at h
        cases h
        cases rv
        obtain ⟨its, rv2, ⟨o, ho, hc, k, hd⟩, _⟩ := I.tuple (SqT.of ht)
        obtain ⟨as, q, kk⟩ := Rls.reads ih e ra rv2
        exact ⟨_, Reads.tuple ho hc hd q, kk⟩
    | @kt a vs xs ht ra =>
      cases e : allD (toD ph n) xs with
      | none =>
        simp only [e] at h
        cases h
      | some ds =>
        simp only [e] at h
        cases h
        cases rv
        obtain ⟨its, rv2, ⟨o, ho, hc, k, hd⟩, _⟩ := I.tuple (.inr ht)
        obtain ⟨as, q, kk⟩ := Rls.reads ih e ra rv2
        exact ⟨_, Reads.tuple ho hc hd q, kk⟩
    | @ref k a hk =>
      cases rv
      obtain ⟨o, ho, hor⟩ := wd.there hk
      simp only [ho] at h
      cases o with
      | lst xs =>
        obtain ⟨vs, hs, ra⟩ := hor
        cases e : allD (toD ph n) xs with
        | none =>
          simp only [e] at h
          cases h
        | some ds =>
          simp only [e] at h
          cases h
          obtain ⟨its, rv2, ⟨ob, m, ho2, hc, _, hd⟩, _⟩ := I.list (SqL.of hs)
          obtain ⟨as, q, kk⟩ := Rls.reads ih e ra rv2
          refine ⟨_, Reads.list ho2 hc hd q, fun b hb => ?_⟩
          rcases List.mem_cons.mp hb with z | z
          · rw [z]
            exact ⟨_, hs⟩
          · exact kk b z
      | dT kvs => cases h
      | dK kvs =>
        split at h
        · rename_i xs e
          cases e
        · rename_i z y e
          cases e
          cases e2 : toD ph n y with
          | none =>
            rw [e2] at h
            cases h
          | some d2 =>
            rw [e2] at h
            cases h
            obtain ⟨r, hs, hr⟩ := hor
            cases hr with
            | @cons _ x1 v1 r1 s1 hv hrest =>
              cases hrest
              obtain ⟨_, _, vs, kv, o, es, ep, ho2, hx, hd, hks, hp, _⟩ := (show ObjOk X.prog X.w H s.heap a (.dK [(.inr z, v1)]) from I.hok a _ hs)
              cases vs with
              | nil => cases kv
              | cons q0 qt =>
                cases kv with
                | cons r1 rt =>
                  cases rt
                  obtain ⟨k2, u2⟩ := q0
                  obtain ⟨e1, r2⟩ := r1
                  simp only at e1 r2
                  subst e1
                  obtain ⟨as, hr, hk⟩ := ih y d2 v1 u2 e2 hv r2
                  generalize hl : es.toList = el at hp
                  cases el with
                  | nil => cases hp
                  | cons e0 et =>
                    cases hp with
                    | cons i1 i2 i3 =>
                      cases i3
                      obtain ⟨t, ek⟩ := Value.isStrOf_shape (x := z) (v := e0.key) i1
                      refine ⟨a :: ([] ++ []) ++ (as ++ []), Reads.dict ho2 hx.1 hd ?_ ?_, fun b hb => ?_⟩
                      · rw [hl]
                        show ReadsAll s.heap [e0.key] [.str z] ([] ++ [])
                        rw [ek]
                        exact .cons (.str z t) .nil
                      · rw [hl]
                        show ReadsAll s.heap [e0.val] [d2] (as ++ [])
                        rw [show e0.val = u2 from i2]
                        exact .cons hr .nil
                      · simp only [List.append_nil, List.cons_append, List.nil_append, List.mem_cons] at hb
                        rcases hb with e | e
                        · rw [e]
                          exact ⟨_, hs⟩
                        · exact hk b e
        · cases h
end
end Dn
namespace Dn
open PySem PySem.Spec PyProof.Rows L2 PySem.SeqAt

/-! ### the operators, on values without addresses -/
def sizeOk (n : Nat) : Bool := decide (n ≤ 16777216)
theorem sizeOk_le {n : Nat} (h : sizeOk n = true) : n ≤ sizeLine := by
  rw [sizeLine_eq]
  exact of_decide_eq_true h
def opAdd : F2 := fun x y h => match x, y with
  | .int i, .int j => some (.int (i + j), h)
  | .str a, .str b => if sizeOk (a.length + b.length) then some (.str (a ++ b), h) else none
  | .tup xs, .tup ys => if sizeOk (xs.length + ys.length) then some (.tup (xs ++ ys), h) else none
  | .ref m, .ref n => match h[m]?, h[n]? with
    | some (.lst xs), some (.lst ys) => if sizeOk (xs.length + ys.length) then some (.ref h.length, h ++ [.lst (xs ++ ys)]) else none
    | _, _ => none
  | _, _ => none
def opSub : F2 := fun x y h => match x, y with
  | .int i, .int j => some (.int (i - j), h)
  | _, _ => none
def smallB (i : Int) : Bool := decide (-18446744073709551616 < i ∧ i < 18446744073709551616)
def opMul : F2 := fun x y h => match x, y with
  | .int i, .int j => if smallB i || smallB j then some (.int (i * j), h) else none
  | .tup xs, .int k => if decide (k = 1) then some (.tup xs, h) else if !xs.isEmpty && decide (2 ≤ k ∧ k ≤ 5000) && decide (xs.length ≤ 1000) then some (.tup (List.replicate k.toNat xs).flatten, h) else if !xs.isEmpty && decide (k = 0) then some (.tup [], h) else none
  | .ref m, .int k => match h[m]? with
    | some (.lst xs) => if decide (-5000 ≤ k ∧ k ≤ 5000) && decide (xs.length ≤ 1000) then some (.ref h.length, h ++ [.lst (List.replicate k.toNat xs).flatten]) else none
    | _ => none
  | _, _ => none
def opFdiv : F2 := fun x y h => match x, y with
  | .int i, .int j => if decide (j ≠ 0 ∧ j.natAbs < 1073741824) then some (.int (i.fdiv j), h) else none
  | _, _ => none
def opMod : F2 := fun x y h => match x, y with
  | .int i, .int j => if decide (j ≠ 0) then some (.int (i.fmod j), h) else none
  | _, _ => none
def powOk (i j : Int) : Bool := decide (0 ≤ j ∧ j ≤ 1000000 ∧ i.natAbs < 18446744073709551616)
def opPow : F2 := fun x y h => match x, y with
  | .int i, .int j => if powOk i j then some (.int (i ^ j.toNat), h) else none
  | _, _ => none
def opShl : F2 := fun x y h => match x, y with
  | .int i, .int j => if powOk i j then some (.int (i * 2 ^ j.toNat), h) else none
  | _, _ => none
def opShr : F2 := fun x y h => match x, y with
  | .int i, .int j => if decide (0 ≤ j) then some (.int (i / 2 ^ j.toNat), h) else none
  | _, _ => none
def opAnd : F2 := fun x y h => match x, y with
  | .int i, .int j => some (.int (Builtin.bitAnd i j), h)
  | _, _ => none
def opOr : F2 := fun x y h => match x, y with
  | .int i, .int j => some (.int (Builtin.bitOr i j), h)
  | _, _ => none
def opNeg : F1 := fun x h => match x with
  | .int i => some (.int (-i), h)
  | _ => none
def cmpI (p : Int → Int → Bool) : F2 := fun x y h => match x, y with
  | .int i, .int j => some (.bl (p i j), h)
  | _, _ => none
def opLt : F2 := cmpI fun i j => decide (i < j)
def opLe : F2 := cmpI fun i j => decide (i ≤ j)
def opGt : F2 := cmpI fun i j => decide (j < i)
def opGe : F2 := cmpI fun i j => decide (j ≤ i)
/-- equal, of two values -/
def eqV (h : PH) (x y : PV) : Option Bool := match x, y with
  | .str a, .str b => some (decide (a = b))
  | .int a, .int b => some (decide (a = b))
  | .bl a, .bl b => some (decide (a = b))
  | _, _ => match toD h 50 x, toD h 50 y with
    | some d, some e => if shaped d && shaped e then some (PyData.eqv d e) else none
    | _, _ => none
/-- what the lengths alone say -/
def lenB (h : PH) (x y : PV) : Option Bool := match x, y with
  | .ref m, .ref n => match h[m]?, h[n]? with
    | some (.lst xs), some (.lst ys) => if xs.length = ys.length then none else some false
    | _, _ => none
  | .tup xs, .tup [] => some (decide (xs = []))
  | _, _ => none
def strB (h : PH) (x y : PV) : Option Bool := match y, toD h 50 x with
  | .str b, some d => some (Rw.eqS d b)
  | _, _ => none
def eqB (h : PH) (x y : PV) : Option Bool := match lenB h x y with
  | some b => some b
  | none => match strB h x y with
    | some b => some b
    | none => eqV h x y
def opEq : F2 := fun x y h => (eqB h x y).map fun b => (.bl b, h)
def neB (h : PH) (x y : PV) : Option Bool := match y, toD h 50 x with
  | .str b, some d => some (!Rw.eqS d b)
  | _, _ => (eqB h x y).map fun b => !b
def opNe : F2 := fun x y h => (neB h x y).map fun b => (.bl b, h)
/-- an item of a sequence beside what is sought there -/
def eqI (h : PH) (x y : PV) : Option Bool := match y, toD h 50 x with
  | .str a, some d => some (Rw.eqS d a)
  | _, some d => match x, y with
    | .str _, .int _ => some false
    | .str _, .non => some false
    | .str _, .bl _ => some false
    | _, _ => match toD h 50 y with
      | some e => if shaped d && shaped e then some (PyData.eqv e d) else none
      | none => none
  | _, none => none
def anyO {α : Type} (f : α → Option Bool) : List α → Option Bool
  | [] => some false
  | y :: r => match f y, anyO f r with
    | some a, some b => some (a || b)
    | _, _ => none
def inStr (i j : Str) : Bool := !(Builtin.Str.occurrences j i 0 j.length 1).isEmpty
/-- the value of a key -/
def keyOf : PV → Option Key
  | .int i => some (.inl i)
  | .str x => some (.inr x)
  | _ => none
def keysOf : List PV → Option (List Key)
  | [] => some []
  | x :: r => match keyOf x, keysOf r with
    | some k, some ks => some (k :: ks)
    | _, _ => none
def isKeyP : PV → Bool
  | .int _ => true
  | .str _ => true
  | _ => false
end Dn
namespace Dn
open PySem PySem.Spec PyProof.Rows L2 PySem.SeqAt
/-- a tuple once is the tuple itself -/
theorem tuple_mul1 (l : Addr) (items : Array Value) (n : Nat) (dd : Option Addr) (sl : Array (Option Value)) (u : Tok) :
    Meets (Builtin.«tuple.__mul__» ⟨[.ref l, .int 1 u], []⟩) (fun _ R s => s.heap.get? l = some { cls := .type "tuple", dict := dd, data := .seq items n, slots := sl } ∧ R (.ok (.ret (Value.ref l))) s) :=
  .of_wp fun prog w A R s h => by
    obtain ⟨hp, g, d, tk, os⟩ := s
    obtain ⟨hl, h⟩ := h
    have f1 := AutoSeq1.idx_int
    have c0 : (decide ((1 : Int) < -(2 ^ 63)) || decide ((1 : Int) ≥ 2 ^ 63)) = false := by decide
    have c1 : (items.isEmpty || (1 : Int) == 1) = true := by simp
    wp_walk using wpAny_loadPart' hl
    repeat (first
      | (refine wpAny_ite_false (decide_eq_false (by rw [c0]; exact Bool.false_ne_true)) ?_; wp_walk using wpAny_loadPart' hl)
      | (refine wpAny_ite_true (decide_eq_true (by rw [c1])) ?_; wp_walk using wpAny_loadPart' hl))
    exact ⟨_, rfl, h⟩
theorem op_rep1 {X : Cx} : OpR X (binaryOp .Mult) (fun x y H Q => ∃ l xs, x = .ref l ∧ y = .int 1 ∧ SqT X.K H l xs ∧ Q (.ref l) H) := by
  intro pins s σ H x y v u Q I rx ry h
  obtain ⟨l, xs, rfl, rfl, hT, q⟩ := h
  cases rx
  obtain ⟨t, rfl⟩ := ry
  obtain ⟨its, r, ⟨⟨cls, dd, data, sl⟩, ho, hc, n, hd⟩, hs⟩ := I.tuple hT
  simp only at hc hd
  subst hc hd
  refine wpAny_binaryOp_repeat_ref (T := "tuple") (U := "int") (by decide) ⟨_, ho, rfl⟩ (fun s' => typeIs_int s' 1 t) noFill_tuple_mul F.fills_int_mul F.slot_int_rmul repeat_tuple F.slot_int_index.lookup
    (call_meets F.slot_int_rmul (typeIs_int s 1 t) F.entry_int_rmul (F.args_int_rmul_2 _ _) (int_rmul_tuple 1 t l its.toArray n dd sl)
      ⟨ho, rfl, ⟨_, ho, rfl⟩, call_meets F.slot_tuple_mul ⟨_, ho, rfl⟩ F.entry_tuple_mul (F.args_tuple_mul_2 _ _) (tuple_mul1 l its.toArray n dd sl t) ⟨ho, ?_⟩⟩)
  exact ⟨.ref l, H, I, rfl, q⟩
/-- a tuple no times is an empty one -/
theorem tuple_mul0 (l : Addr) (items : Array Value) (n : Nat) (dd : Option Addr) (sl : Array (Option Value)) (u : Tok) (ne : items.isEmpty = false) :
    Meets (Builtin.«tuple.__mul__» ⟨[.ref l, .int 0 u], []⟩) (fun _ R s => s.heap.get? l = some { cls := .type "tuple", dict := dd, data := .seq items n, slots := sl } ∧
      R (.ok (.ret (Value.ref s.heap.objs.size))) { s with heap := s.heap.push { cls := Value.type "tuple", data := Data.seq #[] }, toks := s.toks }) :=
  .of_wp fun prog w A R s h => by
    obtain ⟨hp, g, d, tk, os⟩ := s
    obtain ⟨hl, h⟩ := h
    have f1 := AutoSeq1.idx_int
    have c0 : (decide ((0 : Int) < -(2 ^ 63)) || decide ((0 : Int) ≥ 2 ^ 63)) = false := by decide
    have c1 : (items.isEmpty || (0 : Int) == 1) = false := by rw [ne]; rfl
    have c2 : (decide ((0 : Int) ≤ 0) || items.isEmpty) = true := by rw [ne]; rfl
    wp_walk using wpAny_loadPart' hl
    repeat (first
      | (refine wpAny_ite_false (decide_eq_false (by rw [c0]; exact Bool.false_ne_true)) ?_; wp_walk using wpAny_loadPart' hl)
      | (refine wpAny_ite_false (decide_eq_false (by rw [c1]; exact Bool.false_ne_true)) ?_; wp_walk using wpAny_loadPart' hl)
      | (refine wpAny_ite_true (decide_eq_true (by rw [c2])) ?_; wp_walk using wpAny_loadPart' hl))
    exact ⟨_, rfl, h⟩
theorem op_rep0 {X : Cx} : OpR X (binaryOp .Mult) (fun x y H Q => ∃ l xs, x = .ref l ∧ y = .int 0 ∧ SqT X.K H l xs ∧ xs ≠ [] ∧ ∀ p, H p = none → Q (.ref p) (upd H p (.tup []))) := by
  intro pins s σ H x y v u Q I rx ry h
  obtain ⟨l, xs, rfl, rfl, hT, hne, q⟩ := h
  cases rx
  obtain ⟨t, rfl⟩ := ry
  obtain ⟨its, r, ⟨⟨cls, dd, data, sl⟩, ho, hc, n, hd⟩, hs⟩ := I.tuple hT
  simp only at hc hd
  subst hc hd
  have hle : its.length = xs.length := r.length.symm
  have hi : its.toArray.isEmpty = false := by
    cases its with
    | nil => exact absurd (List.eq_nil_of_length_eq_zero hle.symm) hne
    | cons a b => rfl
  refine wpAny_binaryOp_repeat_ref (T := "tuple") (U := "int") (by decide) ⟨_, ho, rfl⟩ (fun s' => typeIs_int s' 0 t) noFill_tuple_mul F.fills_int_mul F.slot_int_rmul repeat_tuple F.slot_int_index.lookup
    (call_meets F.slot_int_rmul (typeIs_int s 0 t) F.entry_int_rmul (F.args_int_rmul_2 _ _) (int_rmul_tuple 0 t l its.toArray n dd sl)
      ⟨ho, rfl, ⟨_, ho, rfl⟩, call_meets F.slot_tuple_mul ⟨_, ho, rfl⟩ F.entry_tuple_mul (F.args_tuple_mul_2 _ _) (tuple_mul0 l its.toArray n dd sl t hi) ⟨ho, ?_⟩⟩)
  refine ⟨.ref s.heap.objs.size, _, I.laid (t' := s.toks) (o := .tup []) (fun b ob q => Heap.get?_push_of_some _ q) (Nat.le_refl _) ?_, rfl, q _ (I.hok.fresh (Nat.le_refl _))⟩
  exact ⟨Nat.zero_le _, _, .nil, IsTup.new _ _⟩
/-- a tuple many times -/
theorem op_repM {X : Cx} : OpR X (binaryOp .Mult) (fun x y H Q => ∃ (l : Addr) (m : Nat) (xs : List V), x = .ref l ∧ y = .int m ∧ SqT X.K H l xs ∧ xs ≠ [] ∧ 2 ≤ m ∧ m * xs.length ≤ 5000000 ∧ ∀ p, H p = none → Q (.ref p) (upd H p (.tup (List.replicate m xs).flatten))) := by
  intro pins s σ H x y v u Q I rx ry h
  obtain ⟨l, m, xs, rfl, rfl, hT, hne, m2, big, q⟩ := h
  cases rx
  obtain ⟨t, rfl⟩ := ry
  obtain ⟨its, r, ⟨⟨cls, dd, data, sl⟩, ho, hc, n, hd⟩, hs⟩ := I.tuple hT
  simp only at hc hd
  subst hc hd
  have hle : its.length = xs.length := r.length.symm
  have hi : its.toArray.isEmpty = false := by
    cases its with
    | nil => exact absurd (List.eq_nil_of_length_eq_zero hle.symm) hne
    | cons a b => rfl
  have whole : (List.replicate m its).flatten.length ≤ sizeLine := by
    rw [PyProof.Rows.lm_len_rep_flat, hle, sizeLine_eq]
    omega
  have prod : ((its.toArray.size : Nat) : Int) * (m : Int) ≤ 5000000 := by
    rw [List.size_toArray, hle, ← Int.natCast_mul, Nat.mul_comm]
    omega
  have z0 : (decide ((m : Int) < -(2 ^ 63)) || decide ((m : Int) ≥ 2 ^ 63)) = false := by
    have : m ≤ 5000000 := Nat.le_trans (Nat.le_mul_of_pos_right m (by cases xs with | nil => exact absurd rfl hne | cons a b => simp)) big
    rw [decide_eq_false (by omega), decide_eq_false (by omega)]
    rfl
  have z1 : (its.toArray.isEmpty || (m : Int) == 1) = false := by rw [hi, Bool.false_or]; exact beq_eq_false_iff_ne.mpr (by omega)
  have z2 : (decide ((m : Int) ≤ 0) || its.toArray.isEmpty) = false := by rw [hi, decide_eq_false (by omega)]; rfl
  have z4 : Builtin.Tuple.tupleTooMany (((its.toArray.size : Nat) : Int) * (m : Int)) = false := by
    unfold Builtin.Tuple.tupleTooMany
    rw [sizeLine_eq]
    exact decide_eq_false (by omega)
  have mul := tuple_mulW l its.toArray n dd sl (m : Int) t z0 z1 z2 (by omega) z4 (by rw [size_rep, List.size_toArray, Int.toNat_natCast]; exact whole)
  rw [size_rep, Int.toNat_natCast] at mul
  refine wpAny_binaryOp_repeat_ref (T := "tuple") (U := "int") (by decide) ⟨_, ho, rfl⟩ (fun s' => typeIs_int s' (m : Int) t) noFill_tuple_mul F.fills_int_mul F.slot_int_rmul repeat_tuple F.slot_int_index.lookup
    (call_meets F.slot_int_rmul (typeIs_int s (m : Int) t) F.entry_int_rmul (F.args_int_rmul_2 _ _) (int_rmul_tuple (m : Int) t l its.toArray n dd sl)
      ⟨ho, rfl, ⟨_, ho, rfl⟩, call_meets F.slot_tuple_mul ⟨_, ho, rfl⟩ F.entry_tuple_mul (F.args_tuple_mul_2 _ _) mul ⟨ho, ?_⟩⟩)
  refine ⟨.ref s.heap.objs.size, _, I.laid (t' := s.toks) (o := .tup (List.replicate m xs).flatten) (fun b ob q => Heap.get?_push_of_some _ q) (Nat.le_refl _) ?_, rfl, q _ (I.hok.fresh (Nat.le_refl _))⟩
  exact ⟨by rw [PyProof.Rows.lm_len_rep_flat, sizeLine_eq]; omega, _, r.rep m, IsTup.new _ _⟩
section
variable {X : Cx} {tbs : List Addr}
theorem or_add : OpR X (binaryOp .Add) (rP (bs X tbs) opAdd) := by
  intro pins s σ H x y v u Q I rx ry ⟨μ, ph, px, py, wd, r1, r2, q⟩
  unfold opAdd at q
  split at q
  · rename_i i j
    cases r1
    cases r2
    exact op_add pins s σ H _ _ v u Q I rx ry ⟨_, _, rfl, rfl, q.val wd (.int _)⟩
  · rename_i a b
    split at q
    · rename_i hz
      cases r1
      cases r2
      exact op_add_str pins s σ H _ _ v u Q I rx ry ⟨_, _, rfl, rfl, sizeOk_le hz, q.val wd (.str _)⟩
    · exact q.elim
  · rename_i xs ys
    split at q
    · rename_i hz
      cases r1 with
      | @tup a vs _ ha ra =>
      cases r2 with
      | @tup b ws _ hb rb =>
      have l1 := ra.len
      have l2 := rb.len
      refine op_catA pins s σ H _ _ v u Q I rx ry ⟨a, b, vs, ws, rfl, rfl, SqT.of ha, SqT.of hb, by rw [← l1, ← l2]; exact sizeOk_le hz, fun e => ?_, fun n e => ?_, fun n1 n2 p hp => ?_⟩
      · refine q.val wd ?_
        subst e
        cases ra
        exact .tup hb rb
      · refine q.val wd ?_
        subst e
        cases rb
        rw [List.append_nil]
        exact .tup ha ra
      · obtain ⟨e1, e2, e3⟩ := wd.newTup (ra.app rb) hp
        exact q _ _ _ e1 e2 e3
    · exact q.elim
  · rename_i m n
    split at q
    · rename_i xs ys h1 h2
      split at q
      · rename_i hz
        cases r1 with
        | @ref _ a ha =>
        cases r2 with
        | @ref _ b hb =>
        obtain ⟨vs, e1, ra⟩ := wd.ob _ _ _ ha h1
        obtain ⟨ws, e2, rb⟩ := wd.ob _ _ _ hb h2
        have l1 := ra.len
        have l2 := rb.len
        refine op_cat pins s σ H _ _ v u Q I rx ry ⟨a, b, vs, ws, rfl, rfl, e1, e2, by rw [← l1, ← l2]; exact sizeOk_le hz, fun p hp => ?_⟩
        obtain ⟨e1, e2, e3⟩ := wd.newLst (ra.app rb) hp
        exact q _ _ _ e1 e2 e3
      · exact q.elim
    · exact q.elim
  · exact q.elim
theorem or_sub : OpR X (binaryOp .Sub) (rP (bs X tbs) opSub) := by
  intro pins s σ H x y v u Q I rx ry ⟨μ, ph, px, py, wd, r1, r2, q⟩
  unfold opSub at q
  split at q
  · cases r1
    cases r2
    exact op_sub pins s σ H _ _ v u Q I rx ry ⟨_, _, rfl, rfl, q.val wd (.int _)⟩
  · exact q.elim
theorem smallB_ok {i : Int} (h : smallB i = true) : -(2 ^ 64) < i ∧ i < 2 ^ 64 := of_decide_eq_true h
theorem or_mul : OpR X (binaryOp .Mult) (rP (bs X tbs) opMul) := by
  intro pins s σ H x y v u Q I rx ry ⟨μ, ph, px, py, wd, r1, r2, q⟩
  unfold opMul at q
  split at q
  · split at q
    · rename_i hz
      cases r1
      cases r2
      refine op_mul pins s σ H _ _ v u Q I rx ry ⟨_, _, rfl, rfl, ?_, q.val wd (.int _)⟩
      rcases Bool.or_eq_true_iff.mp hz with h | h
      · exact .inl (smallB_ok h)
      · exact .inr (smallB_ok h)
    · exact q.elim
  · rename_i xs k
    split at q
    · rename_i hz
      have hz := of_decide_eq_true hz
      subst hz
      cases r1 with
      | @tup a vs _ ha ra =>
      cases r2
      exact op_rep1 pins s σ H _ _ v u Q I rx ry ⟨a, vs, rfl, rfl, SqT.of ha, q.val wd (.tup ha ra)⟩
    split at q
    · rename_i hz
      cases r1 with
      | @tup a vs _ ha ra =>
      cases r2
      have l1 := ra.len
      simp only [Bool.and_eq_true, decide_eq_true_eq, Bool.not_eq_true'] at hz
      obtain ⟨⟨h0, h1, h2⟩, h3⟩ := hz
      have rep : ∀ m : Nat, Rls X.K H μ (List.replicate m xs).flatten (List.replicate m vs).flatten := fun m => by
        induction m with
        | zero => exact .nil
        | succ m ih =>
          rw [List.replicate_succ, List.replicate_succ, List.flatten_cons, List.flatten_cons]
          exact ra.app ih
      obtain ⟨m, rfl⟩ := Int.eq_ofNat_of_zero_le (show 0 ≤ k by omega)
      refine op_repM pins s σ H _ _ v u Q I rx ry ⟨a, m, vs, rfl, rfl, SqT.of ha, fun e => ?_, by omega, ?_, fun p hp => ?_⟩
      · subst e
        cases ra
        cases h0
      · rw [← l1]
        have : m * xs.length ≤ 5000 * 1000 := Nat.mul_le_mul (by omega) h3
        omega
      · obtain ⟨e1, e2, e3⟩ := wd.newTup (rep m) hp
        exact q _ _ _ e1 e2 e3
    split at q
    · rename_i hz
      cases r1 with
      | @tup a vs _ ha ra =>
      cases r2
      have l1 := ra.len
      simp only [Bool.and_eq_true, decide_eq_true_eq, Bool.not_eq_true'] at hz
      obtain ⟨h0, h1⟩ := hz
      subst h1
      refine op_rep0 pins s σ H _ _ v u Q I rx ry ⟨a, vs, rfl, rfl, SqT.of ha, fun e => ?_, fun p hp => ?_⟩
      · subst e
        cases ra
        cases h0
      · obtain ⟨e1, e2, e3⟩ := wd.newTup .nil hp
        exact q _ _ _ e1 e2 e3
    · exact q.elim
  · rename_i m k
    split at q
    · rename_i xs h1
      split at q
      · rename_i hz
        cases r1 with
        | @ref _ a ha =>
        cases r2
        obtain ⟨vs, e1, ra⟩ := wd.ob _ _ _ ha h1
        have l1 := ra.len
        simp only [Bool.and_eq_true, decide_eq_true_eq] at hz
        obtain ⟨⟨h2, h3⟩, h4⟩ := hz
        have rep : ∀ m : Nat, Rls X.K H μ (List.replicate m xs).flatten (List.replicate m vs).flatten := fun m => by
          induction m with
          | zero => exact .nil
          | succ m ih =>
            rw [List.replicate_succ, List.replicate_succ, List.flatten_cons, List.flatten_cons]
            exact ra.app ih
        refine op_rep pins s σ H _ _ v u Q I rx ry ⟨a, k, vs, rfl, rfl, e1, by omega, by omega, ?_, fun p hp => ?_⟩
        · rw [sizeLine_eq, ← l1]
          have a1 : xs.length * k.toNat ≤ 1000 * 5000 := Nat.mul_le_mul h4 (by omega)
          omega
        · obtain ⟨e1, e2, e3⟩ := wd.newLst (rep k.toNat) hp
          exact q _ _ _ e1 e2 e3
      · exact q.elim
    · exact q.elim
  · exact q.elim
theorem or_fdiv : OpR X (binaryOp .FloorDiv) (rP (bs X tbs) opFdiv) := by
  intro pins s σ H x y v u Q I rx ry ⟨μ, ph, px, py, wd, r1, r2, q⟩
  unfold opFdiv at q
  split at q
  · split at q
    · rename_i hz
      cases r1
      cases r2
      exact op_fdivN pins s σ H _ _ v u Q I rx ry ⟨_, _, rfl, rfl, (by have z := of_decide_eq_true hz; exact z), q.val wd (.int _)⟩
    · exact q.elim
  · exact q.elim
theorem or_mod : OpR X (binaryOp .Mod) (rP (bs X tbs) opMod) := by
  intro pins s σ H x y v u Q I rx ry ⟨μ, ph, px, py, wd, r1, r2, q⟩
  unfold opMod at q
  split at q
  · split at q
    · rename_i hz
      cases r1
      cases r2
      exact op_modN pins s σ H _ _ v u Q I rx ry ⟨_, _, rfl, rfl, (by have z := of_decide_eq_true hz; exact z), q.val wd (.int _)⟩
    · exact q.elim
  · exact q.elim
theorem or_pow : OpR X (binaryOp .Pow) (rP (bs X tbs) opPow) := by
  intro pins s σ H x y v u Q I rx ry ⟨μ, ph, px, py, wd, r1, r2, q⟩
  unfold opPow at q
  split at q
  · split at q
    · rename_i hz
      cases r1
      cases r2
      exact op_pow pins s σ H _ _ v u Q I rx ry ⟨_, _, rfl, rfl, (by have z := of_decide_eq_true hz; exact z), q.val wd (.int _)⟩
    · exact q.elim
  · exact q.elim
theorem or_shl : OpR X (binaryOp .LShift) (rP (bs X tbs) opShl) := by
  intro pins s σ H x y v u Q I rx ry ⟨μ, ph, px, py, wd, r1, r2, q⟩
  unfold opShl at q
  split at q
  · split at q
    · rename_i hz
      cases r1
      cases r2
      exact op_shl pins s σ H _ _ v u Q I rx ry ⟨_, _, rfl, rfl, (by have z := of_decide_eq_true hz; exact z), q.val wd (.int _)⟩
    · exact q.elim
  · exact q.elim
theorem or_shr : OpR X (binaryOp .RShift) (rP (bs X tbs) opShr) := by
  intro pins s σ H x y v u Q I rx ry ⟨μ, ph, px, py, wd, r1, r2, q⟩
  unfold opShr at q
  split at q
  · split at q
    · rename_i hz
      cases r1
      cases r2
      exact op_shr pins s σ H _ _ v u Q I rx ry ⟨_, _, rfl, rfl, (by have z := of_decide_eq_true hz; exact z), q.val wd (.int _)⟩
    · exact q.elim
  · exact q.elim
theorem or_and : OpR X (binaryOp .BitAnd) (rP (bs X tbs) opAnd) := by
  intro pins s σ H x y v u Q I rx ry ⟨μ, ph, px, py, wd, r1, r2, q⟩
  unfold opAnd at q
  split at q
  · cases r1
    cases r2
    exact op_and pins s σ H _ _ v u Q I rx ry ⟨_, _, rfl, rfl, q.val wd (.int _)⟩
  · exact q.elim
theorem or_or : OpR X (binaryOp .BitOr) (rP (bs X tbs) opOr) := by
  intro pins s σ H x y v u Q I rx ry ⟨μ, ph, px, py, wd, r1, r2, q⟩
  unfold opOr at q
  split at q
  · cases r1
    cases r2
    exact op_or pins s σ H _ _ v u Q I rx ry ⟨_, _, rfl, rfl, q.val wd (.int _)⟩
  · exact q.elim
theorem ur_neg : UnR X (unaryOp .USub) (rP1 (bs X tbs) opNeg) := by
  intro pins s σ H x v Q I rx ⟨μ, ph, px, wd, r1, q⟩
  unfold opNeg at q
  split at q
  · cases r1
    exact un_neg pins s σ H _ v Q I rx ⟨_, rfl, q.val wd (.int _)⟩
  · exact q.elim
theorem or_cmpI {op : CmpOp} {p : Int → Int → Bool} (h : OpR X (compareOp op) (rI0 fun i j => .bl (p i j))) : OpR X (compareOp op) (rP (bs X tbs) (cmpI p)) := by
  intro pins s σ H x y v u Q I rx ry ⟨μ, ph, px, py, wd, r1, r2, q⟩
  unfold cmpI at q
  split at q
  · cases r1
    cases r2
    exact h pins s σ H _ _ v u Q I rx ry ⟨_, _, rfl, rfl, q.val wd (.bl _)⟩
  · exact q.elim
theorem or_lt : OpR X (compareOp .Lt) (rP (bs X tbs) opLt) := or_cmpI op_lt
theorem or_le : OpR X (compareOp .LtE) (rP (bs X tbs) opLe) := or_cmpI op_le
theorem or_gt : OpR X (compareOp .Gt) (rP (bs X tbs) opGt) := or_cmpI op_gt
theorem or_ge : OpR X (compareOp .GtE) (rP (bs X tbs) opGe) := or_cmpI op_ge
theorem eqV_ok (hu : X.A.units + 64 < cLine) {pins : List (Addr × Obj)} {s : Shared} {σ : L2.St} {H : Hp} {x y : V} {v u : Value} {Q : VK} {μ : List Addr} {ph : PH} {px py : PV} {b : Bool} (I : Inv X pins σ H s) (rx : RelV x v) (ry : RelV y u) (wd : Wd X.K tbs μ ph H) (r1 : Rl X.K H μ px x) (r2 : Rl X.K H μ py y)
    (e : eqV ph px py = some b) (q : Q (.bl b) H) : wpAny (model X.prog X.w) X.A (compareOp .Eq v u) (EP X pins σ Q) X.xe s := by
  unfold eqV at e
  split at e
  · cases e
    cases r1
    cases r2
    refine op_eq pins s σ H _ _ v u Q I rx ry ⟨rfl, ?_⟩
    simpa using q
  · cases e
    cases r1
    cases r2
    refine op_eq pins s σ H _ _ v u Q I rx ry ⟨rfl, ?_⟩
    simpa using q
  · cases e
    cases r1
    cases r2
    refine op_eq pins s σ H _ _ v u Q I rx ry ⟨rfl, ?_⟩
    simpa using q
  · split at e
    · rename_i d d2 e1 e2
      split at e
      · rename_i hz
        cases e
        obtain ⟨s1, s2⟩ := Bool.and_eq_true_iff.mp hz
        obtain ⟨as, q1, _⟩ := Rl.reads I wd 50 px d x v e1 r1 rx
        obtain ⟨bs', q2, _⟩ := Rl.reads I wd 50 py d2 y u e2 r2 ry
        exact SeqAt.compareEq_shaped q1 q2 s1 s2 hu ⟨.bl _, H, I, rfl, q⟩
      · cases e
    · cases e
theorem neV_ok (hu : X.A.units + 64 < cLine) {pins : List (Addr × Obj)} {s : Shared} {σ : L2.St} {H : Hp} {x y : V} {v u : Value} {Q : VK} {μ : List Addr} {ph : PH} {px py : PV} {b : Bool} (I : Inv X pins σ H s) (rx : RelV x v) (ry : RelV y u) (wd : Wd X.K tbs μ ph H) (r1 : Rl X.K H μ px x) (r2 : Rl X.K H μ py y)
    (e : eqV ph px py = some b) (q : Q (.bl (!b)) H) : wpAny (model X.prog X.w) X.A (compareOp .NotEq v u) (EP X pins σ Q) X.xe s := by
  unfold eqV at e
  split at e
  · cases e
    cases r1
    cases r2
    refine op_ne pins s σ H _ _ v u Q I rx ry ⟨rfl, ?_⟩
    simpa using q
  · cases e
    cases r1
    cases r2
    refine op_ne pins s σ H _ _ v u Q I rx ry ⟨rfl, ?_⟩
    simpa using q
  · cases e
    cases r1
    cases r2
    refine op_ne pins s σ H _ _ v u Q I rx ry ⟨rfl, ?_⟩
    simpa using q
  · split at e
    · rename_i d d2 e1 e2
      split at e
      · rename_i hz
        cases e
        obtain ⟨s1, s2⟩ := Bool.and_eq_true_iff.mp hz
        obtain ⟨as, q1, _⟩ := Rl.reads I wd 50 px d x v e1 r1 rx
        obtain ⟨bs', q2, _⟩ := Rl.reads I wd 50 py d2 y u e2 r2 ry
        exact SeqAt.compareNe_shaped q1 q2 s1 s2 hu ⟨.bl _, H, I, rfl, q⟩
      · cases e
    · cases e
/-- a text beside a value: from S17 -/
theorem dict_ne_str_no (l : Addr) (es : Array DictEntry) (n : Nat) (dd : Option Addr) (sl : Array (Option Value)) (z : Str) (u : Tok) :
    Meets (Builtin.«dict.__ne__» ⟨[.ref l, .str z u], []⟩) (fun _ R s => s.heap.get? l = some { cls := .type "dict", dict := dd, data := .dict es n, slots := sl } ∧ R (.ok (.ret .notImplemented)) s) :=
  .of_wp fun prog w A R s q => by
    obtain ⟨hp, gens, dr, toks, os⟩ := s
    obtain ⟨look, q⟩ := q
    have other : isSubtype (.type "str") (.type "dict") = pure false := by rw [isSubtype_type]; kernel_rfl
    wp_walk using AutoSeq1.wpAny_loadPart' look, wpAny_load look
    exact ⟨_, rfl, q⟩
theorem str_ne_dict_no (z : Str) (u : Tok) (l : Addr) (c : Value) (es : Array DictEntry) (n : Nat) (dd : Option Addr) (sl : Array (Option Value)) :
    Meets (Builtin.«str.__ne__» ⟨[.str z u, .ref l], []⟩) (fun _ R s => s.heap.get? l = some { cls := c, dict := dd, data := .dict es n, slots := sl } ∧ R (.ok (.ret .notImplemented)) s) :=
  .of_wp fun prog w A R s q => by
    obtain ⟨hp, gens, dr, toks, os⟩ := s
    obtain ⟨look, q⟩ := q
    wp_walk using AutoSeq1.wpAny_loadPart' look, wpAny_load look
    exact ⟨_, rfl, q⟩
theorem sub_str_dict2 : isSubtype (.type "str") (.type "dict") = pure false := by rw [isSubtype_type]; kernel_rfl
theorem ne_dict_str {A : Around} {s : Shared} {l : Addr} {o : Obj} {es : Array DictEntry} {n : Nat} (z : Str) (u : Tok) (look : s.heap.get? l = some o) (hc : o.cls = .type "dict") (hd : o.data = .dict es n) (hu : A.units < cLine) : RcNeAt A s (.ref l) (.str z u) true := fun prog w E Q q => by
  obtain ⟨cls, dd, data, sl⟩ := o
  have hc' : cls = .type "dict" := hc
  have hd' : data = .dict es n := hd
  rw [hc', hd'] at look
  exact rc_ne_decline_or (k := false) ⟨_, look, rfl⟩ (typeIs_str s z u) (by decide) sub_str_dict2 F.slot_dict_ne F.slot_str_ne_refl
    (fun _ r => call_meets F.slot_dict_ne ⟨_, look, rfl⟩ F.entry_dict_ne (F.args_dict_ne_2 _ _) (dict_ne_str_no l es n dd sl z u) ⟨look, r⟩)
    (fun _ r => call_meets F.slot_str_ne_refl (typeIs_str s z u) F.entry_str_ne (F.args_str_ne_2 _ _) (str_ne_dict_no z u l (.type "dict") es n dd sl) ⟨look, r⟩)
    (fun _ r => wpAny_of_eq (rfl : isSame (.ref l) (.str z u) = pure false) r) (.inr hu) q
theorem ne_any_str {A : Around} {s : Shared} {u : Value} {d : PyData} {as : List Addr} (hu : A.units < cLine) (rd : Reads s.heap u d as) (z : Str) (t : Tok) : RcNeAt A s u (.str z t) (!Rw.eqS d z) := by
  cases rd with
  | none => exact RcNeAt.none_str z t
  | bool b => exact RcNeAt.bool_str b z t
  | int i k => exact RcNeAt.int_str i k z t
  | str x k =>
    have e : (z == x) = (x == z) := by
      by_cases h : x = z
      · subst h
        rfl
      · rw [beq_eq_false_iff_ne.mpr h, beq_eq_false_iff_ne.mpr fun y => h y.symm]
    show RcNeAt A s (.str x k) (.str z t) (!(z == x))
    rw [e]
    exact RcNeAt.str_str x k z t
  | list h1 h2 h3 h4 => exact RcNeAt.list_str z t ⟨_, h1, h2, _, h3⟩ hu
  | tuple h1 h2 h3 h4 => exact RcNeAt.tuple_str z t ⟨_, h1, h2, _, h3⟩ hu
  | dict h1 h2 h3 h4 h5 => exact ne_dict_str z t h1 h2 h3 hu
theorem rc_dict_str {A : Around} {s : Shared} {l : Addr} {o : Obj} {es : Array DictEntry} {n : Nat} (b : Str) (u : Tok) (ho : s.heap.get? l = some o) (hc : o.cls = .type "dict") (hd : o.data = .dict es n) (hu : A.units < cLine) : RcAt A s (.ref l) (.str b u) false := fun prog w E Q h => by
  obtain ⟨cls, dd, data, sl⟩ := o
  simp only at hc hd
  subst hc hd
  exact rc_eq_decline_or (k := false) ⟨_, ho, rfl⟩ (typeIs_str s b u) (by decide) sub_str_dict2 F.slot_dict_eq F.slot_str_eq_refl
    (fun _ hq => call_meets F.slot_dict_eq ⟨_, ho, rfl⟩ F.entry_dict_eq (F.args_dict_eq_2 _ _) (Rw.dict_declines_str l es n dd sl b u) ⟨ho, hq⟩)
    (fun _ hq => call_meets F.slot_str_eq_refl (typeIs_str s b u) F.entry_str_eq (F.args_str_eq_2 _ _) (Rw.str_declines_dict b u l (.type "dict") es n dd sl) ⟨ho, hq⟩)
    (fun _ hq => wpAny_of_eq (rfl : isSame (.ref l) (.str b u) = pure false) hq) (.inr hu) h
theorem rc_any_str {A : Around} {s : Shared} {u : Value} {d : PyData} {as : List Addr} (hu : A.units < cLine) (rd : Reads s.heap u d as) (z : Str) (t : Tok) : RcAt A s u (.str z t) (Rw.eqS d z) := by
  cases rd with
  | none => exact RcAt.none_str z t
  | bool b => exact RcAt.bool_str b z t
  | int i k => exact RcAt.int_str i k z t
  | str x k =>
    have e : (z == x) = (x == z) := by
      by_cases h : x = z
      · subst h
        rfl
      · rw [beq_eq_false_iff_ne.mpr h, beq_eq_false_iff_ne.mpr fun y => h y.symm]
    show RcAt A s (.str x k) (.str z t) (z == x)
    rw [e]
    exact RcAt.str_str x k z t
  | list h1 h2 h3 h4 => exact RcAt.list_str z t ⟨_, h1, h2, _, h3⟩ hu
  | tuple h1 h2 h3 h4 => exact RcAt.tuple_str z t ⟨_, h1, h2, _, h3⟩ hu
  | dict h1 h2 h3 h4 h5 => exact rc_dict_str z t h1 h2 h3 hu
theorem strB_ok (hu : X.A.units + 64 < cLine) {pins : List (Addr × Obj)} {s : Shared} {σ : L2.St} {H : Hp} {x y : V} {v u : Value} {Q : VK} {μ : List Addr} {ph : PH} {px py : PV} {b : Bool} (I : Inv X pins σ H s) (rx : RelV x v) (ry : RelV y u) (wd : Wd X.K tbs μ ph H) (r1 : Rl X.K H μ px x) (r2 : Rl X.K H μ py y) (e : strB ph px py = some b) :
    (Q (.bl b) H → wpAny (model X.prog X.w) X.A (compareOp .Eq v u) (EP X pins σ Q) X.xe s) ∧ (Q (.bl (!b)) H → wpAny (model X.prog X.w) X.A (compareOp .NotEq v u) (EP X pins σ Q) X.xe s) := by
  unfold strB at e
  split at e
  · rename_i b d e1
    cases e
    cases r2
    obtain ⟨t, rfl⟩ := ry
    obtain ⟨as, rd, _⟩ := Rl.reads I wd 50 px d x v e1 r1 rx
    exact ⟨fun q => rc_any_str (by omega) rd b t X.prog X.w _ _ ⟨.bl _, H, I, rfl, q⟩, fun q => ne_any_str (by omega) rd b t X.prog X.w _ _ ⟨.bl _, H, I, rfl, q⟩⟩
  · cases e
theorem lenB_ok (hu : X.A.units + 64 < cLine) {pins : List (Addr × Obj)} {s : Shared} {σ : L2.St} {H : Hp} {x y : V} {v u : Value} {Q : VK} {μ : List Addr} {ph : PH} {px py : PV} {b : Bool} (I : Inv X pins σ H s) (rx : RelV x v) (ry : RelV y u) (wd : Wd X.K tbs μ ph H) (r1 : Rl X.K H μ px x) (r2 : Rl X.K H μ py y) (e : lenB ph px py = some b) :
    (Q (.bl b) H → wpAny (model X.prog X.w) X.A (compareOp .Eq v u) (EP X pins σ Q) X.xe s) ∧ (Q (.bl (!b)) H → wpAny (model X.prog X.w) X.A (compareOp .NotEq v u) (EP X pins σ Q) X.xe s) := by
  unfold lenB at e
  split at e
  · rename_i m n
    split at e
    · rename_i xs ys h1 h2
      split at e
      · cases e
      · rename_i hl
        cases e
        cases r1 with
        | @ref _ a ha =>
        cases r2 with
        | @ref _ b hb =>
        obtain ⟨vs, e1, ra⟩ := wd.ob _ _ _ ha h1
        obtain ⟨ws, e2, rb⟩ := wd.ob _ _ _ hb h2
        have l1 := ra.len
        have l2 := rb.len
        cases rx
        cases ry
        obtain ⟨z, its, k, r, hl1, f1⟩ := I.lstM e1
        obtain ⟨z2, its2, k2, r2, hl2, f2⟩ := I.lstM e2
        have hne : (its.toArray.size != its2.toArray.size) = true := by
          rw [List.size_toArray, List.size_toArray]
          have : its.length ≠ its2.length := by omega
          simpa using this
        exact ⟨fun q => RcAt.lists_lengths ⟨_, f1, rfl, _, rfl⟩ ⟨_, f2, rfl, _, rfl⟩ hne (by omega) X.prog X.w _ _ ⟨.bl _, H, I, rfl, q⟩, fun q => RcNeAt.lists_lengths ⟨_, f1, rfl, _, rfl⟩ ⟨_, f2, rfl, _, rfl⟩ hne (by omega) X.prog X.w _ _ ⟨.bl _, H, I, rfl, q⟩⟩
    · cases e
  · rename_i xs
    cases e
    cases r1 with
    | @tup a vs _ ha ra =>
    cases r2 with
    | @tup b ws _ hb rb =>
    cases rb
    have l1 := ra.len
    have ez : decide (xs = []) = decide (vs = []) := by
      cases ra <;> rfl
    cases rx
    cases ry
    obtain ⟨its, rv, h1, _⟩ := I.tuple (SqT.of ha)
    obtain ⟨its2, rv2, h2, _⟩ := I.tuple (SqT.of hb)
    cases rv2
    have ee : ((List.range (min its.toArray.size ([] : List Value).toArray.size)).all (fun _ => false) && its.toArray.size == ([] : List Value).toArray.size) = decide (xs = []) := by
      rw [ez]
      have l := rv.length
      cases vs with
      | nil =>
        cases its with
        | nil => simp
        | cons _ _ => simp at l
      | cons _ _ =>
        cases its with
        | nil => simp at l
        | cons _ _ => simp
    refine ⟨fun q => eq_tupleAt (e := fun _ => false) h1 h2 (by omega) (fun j k1 k2 => absurd k2 (by simp)) ⟨.bl _, H, I, rfl, by rw [ee]; exact q⟩, fun q => RcNeAt.tuples (e := fun _ => false) h1 h2 (by omega) (fun j k1 k2 => absurd k2 (by simp)) X.prog X.w _ _ ⟨.bl _, H, I, rfl, by rw [ee]; exact q⟩⟩
  · cases e
theorem eqB_ok (hu : X.A.units + 64 < cLine) {pins : List (Addr × Obj)} {s : Shared} {σ : L2.St} {H : Hp} {x y : V} {v u : Value} {Q : VK} {μ : List Addr} {ph : PH} {px py : PV} {b : Bool} (I : Inv X pins σ H s) (rx : RelV x v) (ry : RelV y u) (wd : Wd X.K tbs μ ph H) (r1 : Rl X.K H μ px x) (r2 : Rl X.K H μ py y)
    (e : eqB ph px py = some b) (q : Q (.bl b) H) : wpAny (model X.prog X.w) X.A (compareOp .Eq v u) (EP X pins σ Q) X.xe s := by
  unfold eqB at e
  split at e
  · rename_i b2 e2
    cases e
    exact (lenB_ok hu I rx ry wd r1 r2 e2).1 q
  · split at e
    · rename_i b2 e2
      cases e
      exact (strB_ok hu I rx ry wd r1 r2 e2).1 q
    · exact eqV_ok hu I rx ry wd r1 r2 e q
theorem neB_ok (hu : X.A.units + 64 < cLine) {pins : List (Addr × Obj)} {s : Shared} {σ : L2.St} {H : Hp} {x y : V} {v u : Value} {Q : VK} {μ : List Addr} {ph : PH} {px py : PV} {b : Bool} (I : Inv X pins σ H s) (rx : RelV x v) (ry : RelV y u) (wd : Wd X.K tbs μ ph H) (r1 : Rl X.K H μ px x) (r2 : Rl X.K H μ py y)
    (e : eqB ph px py = some b) (q : Q (.bl (!b)) H) : wpAny (model X.prog X.w) X.A (compareOp .NotEq v u) (EP X pins σ Q) X.xe s := by
  unfold eqB at e
  split at e
  · rename_i b2 e2
    cases e
    exact (lenB_ok hu I rx ry wd r1 r2 e2).2 q
  · split at e
    · rename_i b2 e2
      cases e
      exact (strB_ok hu I rx ry wd r1 r2 e2).2 q
    · exact neV_ok hu I rx ry wd r1 r2 e q
theorem or_eq (hu : X.A.units + 64 < cLine) : OpR X (compareOp .Eq) (rP (bs X tbs) opEq) := by
  intro pins s σ H x y v u Q I rx ry ⟨μ, ph, px, py, wd, r1, r2, q⟩
  unfold opEq at q
  cases e : eqB ph px py with
  | none =>
    rw [e] at q
    exact q.elim
  | some b =>
    rw [e] at q
    exact eqB_ok hu I rx ry wd r1 r2 e (q.val wd (.bl b))
theorem neB_ok2 (hu : X.A.units + 64 < cLine) {pins : List (Addr × Obj)} {s : Shared} {σ : L2.St} {H : Hp} {x y : V} {v u : Value} {Q : VK} {μ : List Addr} {ph : PH} {px py : PV} {b : Bool} (I : Inv X pins σ H s) (rx : RelV x v) (ry : RelV y u) (wd : Wd X.K tbs μ ph H) (r1 : Rl X.K H μ px x) (r2 : Rl X.K H μ py y)
    (e : neB ph px py = some b) (q : Q (.bl b) H) : wpAny (model X.prog X.w) X.A (compareOp .NotEq v u) (EP X pins σ Q) X.xe s := by
  have other : ∀ {b : Bool}, ((eqB ph px py).map fun b => !b) = some b → Q (.bl b) H → wpAny (model X.prog X.w) X.A (compareOp .NotEq v u) (EP X pins σ Q) X.xe s := fun {b} e q => by
    cases e2 : eqB ph px py with
    | none =>
      rw [e2] at e
      cases e
    | some b2 =>
      rw [e2] at e
      cases e
      exact neB_ok hu I rx ry wd r1 r2 e2 q
  unfold neB at e
  split at e
  · rename_i b d e1
    cases e
    cases r2
    obtain ⟨t, rfl⟩ := ry
    obtain ⟨as, rd, _⟩ := Rl.reads I wd 50 px d x v e1 r1 rx
    exact ne_any_str (by omega) rd b t X.prog X.w _ _ ⟨.bl _, H, I, rfl, q⟩
  · exact other e q
theorem or_ne (hu : X.A.units + 64 < cLine) : OpR X (compareOp .NotEq) (rP (bs X tbs) opNe) := by
  intro pins s σ H x y v u Q I rx ry ⟨μ, ph, px, py, wd, r1, r2, q⟩
  unfold opNe at q
  cases e : neB ph px py with
  | none =>
    rw [e] at q
    exact q.elim
  | some b =>
    rw [e] at q
    exact neB_ok2 hu I rx ry wd r1 r2 e (q.val wd (.bl b))
end
end Dn
namespace Dn
open PySem PySem.Spec PyProof.Rows L2 PySem.SeqAt

/-! ### equal values -/
mutual
def PV.beq : PV → PV → Bool
  | .non, .non => true
  | .bl a, .bl b => a == b
  | .int a, .int b => a == b
  | .str a, .str b => a == b
  | .ref a, .ref b => a == b
  | .tup a, .tup b => PV.beqs a b
  | .kt a, .kt b => PV.beqs a b
  | .fz a, .fz b => PV.beqs a b
  | _, _ => false
def PV.beqs : List PV → List PV → Bool
  | [], [] => true
  | x :: r, y :: s => PV.beq x y && PV.beqs r s
  | _, _ => false
end
mutual
theorem PV.beq_eq : ∀ {a b : PV}, PV.beq a b = true → a = b
  | .non, b, h => by cases b <;> simp [PV.beq] at h; rfl
  | .bl a, b, h => by cases b <;> simp [PV.beq] at h; rw [h]
  | .int a, b, h => by cases b <;> simp [PV.beq] at h; rw [h]
  | .str a, b, h => by cases b <;> simp [PV.beq] at h; rw [h]
  | .ref a, b, h => by cases b <;> simp [PV.beq] at h; rw [h]
  | .tup a, b, h => by
    cases b <;> simp [PV.beq] at h
    rw [PV.beqs_eq h]
  | .kt a, b, h => by
    cases b <;> simp [PV.beq] at h
    rw [PV.beqs_eq h]
  | .fz a, b, h => by
    cases b <;> simp [PV.beq] at h
    rw [PV.beqs_eq h]
theorem PV.beqs_eq : ∀ {a b : List PV}, PV.beqs a b = true → a = b
  | [], b, h => by cases b <;> simp [PV.beqs] at h; rfl
  | x :: r, b, h => by
    cases b with
    | nil => simp [PV.beqs] at h
    | cons y s =>
      simp [PV.beqs] at h
      rw [PV.beq_eq h.1, PV.beqs_eq h.2]
end
mutual
theorem PV.beq_refl : ∀ a : PV, PV.beq a a = true
  | .non => by simp [PV.beq]
  | .bl a => by simp [PV.beq]
  | .int a => by simp [PV.beq]
  | .str a => by simp [PV.beq]
  | .ref a => by simp [PV.beq]
  | .tup a => by simp [PV.beq, PV.beqs_refl a]
  | .kt a => by simp [PV.beq, PV.beqs_refl a]
  | .fz a => by simp [PV.beq, PV.beqs_refl a]
theorem PV.beqs_refl : ∀ a : List PV, PV.beqs a a = true
  | [] => by simp [PV.beqs]
  | x :: r => by simp [PV.beqs, PV.beq_refl x, PV.beqs_refl r]
end
instance : DecidableEq PV := fun a b => if h : PV.beq a b = true then .isTrue (PV.beq_eq h) else .isFalse fun e => h (by rw [e]; exact PV.beq_refl b)

/-! ### what is left of no use is forgotten -/
mutual
/-- no object that may change is within -/
def PV.still : PV → Bool
  | .ref _ => false
  | .tup xs => PV.stills xs
  | .kt xs => PV.stills xs
  | .fz xs => PV.stills xs
  | _ => true
def PV.stills : List PV → Bool
  | [] => true
  | x :: r => PV.still x && PV.stills r
end
mutual
theorem Rl.still {K : PySem.W.Frag} {H : Hp} {μ ν : List Addr} : ∀ {x : PV} {v : V}, Rl K H μ x v → x.still = true → Rl K H ν x v
  | _, _, .non, _ => .non
  | _, _, .bl b, _ => .bl b
  | _, _, .int b, _ => .int b
  | _, _, .str b, _ => .str b
  | _, _, .tup h r, e => .tup h (Rls.still r (by simpa [PV.still] using e))
  | _, _, .kt h r, e => .kt h (Rls.still r (by simpa [PV.still] using e))
  | _, _, .fz h r, e => .fz h (Rls.still r (by simpa [PV.still] using e))
  | _, _, .ref h, e => by simp [PV.still] at e
theorem Rls.still {K : PySem.W.Frag} {H : Hp} {μ ν : List Addr} : ∀ {x : List PV} {v : List V}, Rls K H μ x v → PV.stills x = true → Rls K H ν x v
  | _, _, .nil, _ => .nil
  | _, _, .cons a b, e => by
    simp [PV.stills] at e
    exact .cons (Rl.still a e.1) (Rls.still b e.2)
end
instance : DecidableEq MO := fun a b => match a, b with
  | .lst x, .lst y => if h : x = y then .isTrue (by rw [h]) else .isFalse fun e => h (by injection e)
  | .dK x, .dK y => if h : x = y then .isTrue (by rw [h]) else .isFalse fun e => h (by injection e)
  | .dT x, .dT y => if h : x = y then .isTrue (by rw [h]) else .isFalse fun e => h (by injection e)
  | .lst _, .dK _ => .isFalse nofun
  | .lst _, .dT _ => .isFalse nofun
  | .dK _, .lst _ => .isFalse nofun
  | .dK _, .dT _ => .isFalse nofun
  | .dT _, .lst _ => .isFalse nofun
  | .dT _, .dK _ => .isFalse nofun
section
variable {K : PySem.W.Frag} {tbs : List Addr} {H H' : Hp} {μ μ' : List Addr}
mutual
/-- what lay at the old numbers lies there -/
theorem Rl.back (e : ∀ (n : Nat) a, μ[n]? = some a → μ'[n]? = some a) : ∀ {x : PV} {v v' : V}, Rl K H μ x v → Rl K H' μ' x v' → Rl K H' μ x v'
  | _, _, _, .non, .non => .non
  | _, _, _, .bl b, .bl _ => .bl b
  | _, _, _, .int b, .int _ => .int b
  | _, _, _, .str b, .str _ => .str b
  | _, _, _, .tup _ r, .tup h r' => .tup h (Rls.back e r r')
  | _, _, _, .kt _ r, .kt h r' => .kt h (Rls.back e r r')
  | _, _, _, .fz _ r, .fz h r' => .fz h (Rls.back e r r')
  | _, _, _, .ref h, .ref h' => .ref (by
      have z := e _ _ h
      rw [z] at h'
      cases h'
      exact h)
theorem Rls.back (e : ∀ (n : Nat) a, μ[n]? = some a → μ'[n]? = some a) : ∀ {x : List PV} {v v' : List V}, Rls K H μ x v → Rls K H' μ' x v' → Rls K H' μ x v'
  | _, _, _, .nil, .nil => .nil
  | _, _, _, .cons a b, .cons a' b' => .cons (Rl.back e a a') (Rls.back e b b')
end
theorem KRl.back {κ : Type} (e : ∀ (n : Nat) a, μ[n]? = some a → μ'[n]? = some a) : ∀ {x : List (κ × PV)} {v v' : List (κ × V)}, KRl K H μ x v → KRl K H' μ' x v' → KRl K H' μ x v'
  | _, _, _, .nil, .nil => .nil
  | _, _, _, .cons a b, .cons a' b' => .cons (a.back e a') (KRl.back e b b')
theorem OR.back (e : ∀ (n : Nat) a, μ[n]? = some a → μ'[n]? = some a) {a : Addr} {o : MO} (h : OR K H μ a o) (h' : OR K H' μ' a o) : OR K H' μ a o := by
  cases o with
  | lst xs =>
    obtain ⟨_, _, r⟩ := h
    obtain ⟨vs, h1, r'⟩ := h'
    exact ⟨vs, h1, r.back e r'⟩
  | dK xs =>
    obtain ⟨_, _, r⟩ := h
    obtain ⟨vs, h1, r'⟩ := h'
    exact ⟨vs, h1, r.back e r'⟩
  | dT xs =>
    obtain ⟨_, _, r⟩ := h
    obtain ⟨vs, h1, r'⟩ := h'
    exact ⟨vs, h1, r.back e r'⟩
/-- behind it only what was there -/
theorem Wd.forget {ph g : PH} (w : Wd K tbs μ ph H) (e : Ex μ H μ' H') (w' : Wd K tbs μ' (ph ++ g) H') : Ex μ H μ H' ∧ Wd K tbs μ ph H' :=
  ⟨⟨fun _ _ h => h, e.tup, e.frz⟩, w.len, w.nd, fun n a o h1 h2 => OR.back e.pre (w.ob n a o h1 h2) (w'.ob n a o (e.pre n a h1) (by rw [List.getElem?_append_left (List.getElem?_eq_some_iff.mp h2).1]; exact h2)), w'.tb⟩
end
/-- the value alone, if no object that may change is within and none has changed -/
def gcO (h : PH) (o : Out PV) : Out PV := match o with
  | .ok v h' => if v.still = true ∧ h'.take h.length = h then .ok v h else .ok v h'
  | o => o
def eGc (f : DE) : DE := fun s h => gcO h (f s h)
theorem OutOk.gc {B : Bs} {W : WX} {μ : List Addr} {ph : PH} {H : Hp} {σ : L2.St} {o : Out PV} {Q : VK} (w : Wd B.K B.tbs μ ph H) (q : OutOk B W (fun H' μ' => Rl B.K H' μ') μ H σ (gcO ph o) Q) : OutOk B W (fun H' μ' => Rl B.K H' μ') μ H σ o Q := by
  cases o with
  | ok v h' =>
    unfold gcO at q
    dsimp only at q
    by_cases e : v.still = true ∧ h'.take ph.length = ph
    · rw [if_pos e] at q
      intro μ' H' x e1 w1 r1
      have e2 : h' = ph ++ h'.drop ph.length := by
        have z := (List.take_append_drop ph.length h').symm
        rw [e.2] at z
        exact z
      rw [e2] at w1
      obtain ⟨a, b⟩ := w.forget e1 w1
      exact q μ H' x a b (r1.still e.1)
    · rw [if_neg e] at q
      exact q
  | err e h => exact q
  | no => exact q
theorem j_gc {X : Cx} {tbs : List Addr} {W : WX} {e : Expr} {f : DE} (h : JE (bs X tbs) W X e f) : JE (bs X tbs) W X e (eGc f) := PE_imp h fun σ H Q ⟨μ, ps, ph, sr, wd, ok⟩ => ⟨μ, ps, ph, sr, wd, OutOk.gc wd ok⟩

/-! ### targets: names and tuples of names -/
abbrev GP := PV → Option (List (Nat × PV))
def setP : List (Nat × PV) → Sl → Sl
  | [], s => s
  | (i, x) :: r, s => setP r (s.set i (some x))
def setV : List (Nat × V) → L2.St → L2.St
  | [], s => s
  | (i, x) :: r, s => setV r (s.set i (some x))
inductive RlA (K : PySem.W.Frag) (H : Hp) (μ : List Addr) : List (Nat × PV) → List (Nat × V) → Prop
  | nil : RlA K H μ [] []
  | cons {i : Nat} {x : PV} {v : V} {r : List (Nat × PV)} {s : List (Nat × V)} : Rl K H μ x v → RlA K H μ r s → RlA K H μ ((i, x) :: r) ((i, v) :: s)
theorem RlA.app {K : PySem.W.Frag} {H : Hp} {μ : List Addr} : ∀ {a b : List (Nat × PV)} {c d : List (Nat × V)}, RlA K H μ a c → RlA K H μ b d → RlA K H μ (a ++ b) (c ++ d)
  | _, _, _, _, .nil, q => q
  | _, _, _, _, .cons r s, q => .cons r (RlA.app s q)
theorem Sr.sets {K : PySem.W.Frag} {H : Hp} {μ : List Addr} : ∀ {a : List (Nat × PV)} {c : List (Nat × V)} {ps : Sl} {σ : L2.St}, RlA K H μ a c → Sr K H μ ps σ → Sr K H μ (setP a ps) (setV c σ)
  | _, _, _, _, .nil, h => h
  | _, _, _, _, .cons r s, h => by
    unfold setP setV
    exact Sr.sets s (h.set _ r)
theorem setV_app : ∀ (a b : List (Nat × V)) (σ : L2.St), setV (a ++ b) σ = setV b (setV a σ)
  | [], _, _ => rfl
  | (i, x) :: r, b, σ => setV_app r b (σ.set i (some x))
def gD (K : PySem.W.Frag) (g : GP) : TG := fun v σ H Q => ∃ μ px, Rl K H μ px v ∧ ∃ as, g px = some as ∧ ∀ bs, RlA K H μ as bs → Q (setV bs σ) H
def gDs (K : PySem.W.Frag) (g : List PV → Option (List (Nat × PV))) : TGs := fun vs σ H Q => ∃ μ ps, Rls K H μ ps vs ∧ ∃ as, g ps = some as ∧ ∀ bs, RlA K H μ as bs → Q (setV bs σ) H
def JG (X : Cx) (tg : Expr) (g : GP) : Prop := PG X tg (gD X.K g)
def JGs (X : Cx) (tg : List Expr) (g : List PV → Option (List (Nat × PV))) : Prop := PGs X tg (gDs X.K g)
theorem PG_imp {X : Cx} {tg : Expr} {t t' : TG} (h : PG X tg t) (k : ∀ v σ H Q, t' v σ H Q → t v σ H Q) : PG X tg t' := ⟨fun pins s σ H v u Q I r q => h.run pins s σ H v u Q I r (k v σ H Q q)⟩
theorem PGs_imp {X : Cx} {tg : List Expr} {t t' : TGs} (h : PGs X tg t) (k : ∀ v σ H Q, t' v σ H Q → t v σ H Q) : PGs X tg t' := ⟨fun pins s σ H v u Q I r q => h.run pins s σ H v u Q I r (k v σ H Q q)⟩
def gNm (i : Nat) : GP := fun v => some [(i, v)]
def gsNil : List PV → Option (List (Nat × PV)) := fun vs => match vs with
  | [] => some []
  | _ => none
def gsCons (g : GP) (r : List PV → Option (List (Nat × PV))) : List PV → Option (List (Nat × PV)) := fun vs => match vs with
  | v :: vs => match g v, r vs with
    | some a, some b => some (a ++ b)
    | _, _ => none
  | [] => none
def gTp (n : Nat) (g : List PV → Option (List (Nat × PV))) : GP := fun v => match v with
  | .tup xs => if xs.length = n then g xs else none
  | _ => none
section
variable {X : Cx} {pos : Pos}
theorem g_nm (i : Nat) {x : Str} (hN : X.N.Nodup) (hi : X.N[i]? = some x := by rfl) (hx : Loc X.env.scope x := by first | exact Or.inl rfl | exact Or.inr rfl) (hf : X.fn x = true ∨ X.env.scope.names.lookup x = some .local := by first | exact .inl rfl | exact .inr rfl | assumption) : JG X (.Name x pos) (gNm i) :=
  PG_imp (pg_name hN hi hx hf) fun v σ H Q ⟨μ, px, r, as, e, q⟩ => by
    cases e
    exact q _ (.cons r .nil)
theorem gs_nil : JGs X [] gsNil := PGs_imp pgs_nil fun v σ H Q ⟨μ, ps, r, as, e, q⟩ => by
  cases r with
  | nil =>
    cases e
    exact ⟨rfl, q _ .nil⟩
  | cons _ _ => cases e
theorem gs_cons {e : Expr} {es : List Expr} {g : GP} {r : List PV → Option (List (Nat × PV))} (h1 : JG X e g) (h2 : JGs X es r) (hs : (assignEach (e :: es) X.env).map (·.2) = assign e X.env :: (assignEach es X.env).map (·.2) := by rfl) : JGs X (e :: es) (gsCons g r) :=
  PGs_imp (pgs_cons h1 h2 hs) fun v σ H Q ⟨μ, ps, rr, as, e, q⟩ => by
    cases rr with
    | nil => cases e
    | @cons x v1 xs vs ra rb =>
      unfold gsCons at e
      simp only at e
      split at e
      · rename_i a b e1 e2
        cases e
        exact ⟨v1, vs, rfl, μ, x, ra, a, e1, fun bs1 r1 => ⟨μ, xs, rb, b, e2, fun bs2 r2 => by
          rw [← setV_app]
          exact q _ (r1.app r2)⟩⟩
      · cases e
theorem g_tp {es : List Expr} {k : Nat} {g : List PV → Option (List (Nat × PV))} {n : Nat} (hc : X.calm = true) (h : JGs X es g)
    (hn : (assignEach es X.env).length = n := by rfl) (hst : (assignEach es X.env).findIdx? (·.1) = none := by rfl) : JG X (.Tuple es k pos) (gTp n g) :=
  PG_imp (pg_tup hc h hn hst) fun v σ H Q ⟨μ, px, r, as, e, q⟩ => by
    unfold gTp at e
    split at e
    · split at e
      · rename_i hl
        cases r with
        | @tup a vs xs ht ra =>
        exact ⟨a, vs, rfl, SqT.of ht, by rw [← ra.len]; exact hl, μ, _, ra, as, e, q⟩
      · cases e
    · cases e
end

/-! ### statements -/
def sNx : DS := fun s h => .nx s h
def sBk : DS := fun s h => .bk s h
def sCt : DS := fun s h => .ct s h
def sSeq (a b : DS) : DS := fun s h => match a s h with
  | .nx s h => b s h
  | o => o
def Out.then {α : Type} (o : Out α) (s : Sl) (k : α → PH → OutS) : OutS := match o with
  | .ok x h => k x h
  | .err e h => .err e s h
  | .no => .no
@[simp] theorem Out.then_ok {α : Type} (a : α) (h : PH) (s : Sl) (k : α → PH → OutS) : (Out.ok a h).then s k = k a h := rfl
@[simp] theorem Out.then_err {α : Type} (e : PErr) (h : PH) (s : Sl) (k : α → PH → OutS) : (Out.err e h : Out α).then s k = .err e s h := rfl
@[simp] theorem Out.then_no {α : Type} (s : Sl) (k : α → PH → OutS) : (Out.no : Out α).then s k = .no := rfl
def sDrop (f : DE) : DS := fun s h => (f s h).then s fun _ h => .nx s h
def sRet (f : DE) : DS := fun s h => (f s h).then s fun v h => .rt v h
def sRetN : DS := fun _ h => .rt .non h
def sIf (c : DT) (a b : DS) : DS := fun s h => (c s h).then s fun k h => if k = true then a s h else b s h
def sAsg (g : GP) (f : DE) : DS := fun s h => (f s h).then s fun v h => match g v with
  | some as => .nx (setP as s) h
  | none => .no
def sPar (i j : Nat) (f : DA) : DS := fun s h => (f s h).then s fun vs h => match vs with
  | [v, w] => .nx ((s.set i (some v)).set j (some w)) h
  | _ => .no
/-- one statement behind the other -/
theorem OutOk.then_ {B : Bs} {W : WX} {α β : Type} {rel : Hp → List Addr → α → β → Prop} {μ : List Addr} {H : Hp} {σ : L2.St} {ps : Sl} {o : Out α} {k : α → PH → OutS} {D : Ends} {Q : β → Hp → Prop} (sr : Sr B.K H μ ps σ)
    (h : OutSOk B W μ H (o.then ps k) D) (q : ∀ x ph μ' H' v, Ex μ H μ' H' → Wd B.K B.tbs μ' ph H' → rel H' μ' x v → OutSOk B W μ' H' (k x ph) D → Q v H') : OutOk B W rel μ H σ o Q := by
  cases o with
  | ok x ph => exact fun μ' H' v e w r => q x ph μ' H' v e w r (OutSOk.ext h e)
  | err x ph => exact fun μ' H' cls d e w r => h μ' H' σ cls d e w (sr.mono e) r
  | no => exact h
section
variable {tbs : List Addr} {W : WX} {X : Cx} {pos : Pos}
theorem js_pass : JS (bs X tbs) W X (.Pass pos) sNx := PS_imp ps_pass fun D σ H ⟨μ, ps, ph, sr, wd, ok⟩ => ok μ H σ Ex.refl wd sr
theorem js_break : JS (bs X tbs) W X (.Break pos) sBk := PS_imp ps_break fun D σ H ⟨μ, ps, ph, sr, wd, ok⟩ => ok μ H σ Ex.refl wd sr
theorem js_continue : JS (bs X tbs) W X (.Continue pos) sCt := PS_imp ps_continue fun D σ H ⟨μ, ps, ph, sr, wd, ok⟩ => ok μ H σ Ex.refl wd sr
theorem jss_nil : JSs (bs X tbs) W X [] sNx := PSs_imp pss_nil fun D σ H ⟨μ, ps, ph, sr, wd, ok⟩ => ok μ H σ Ex.refl wd sr
theorem OutSOk.seq {B : Bs} {μ : List Addr} {H : Hp} {f g : DS} {D : Ends} {ps : Sl} {ph : PH} (h : OutSOk B W μ H (sSeq f g ps ph) D) : OutSOk B W μ H (f ps ph) { D with nx := fun σ' H' => tDS B W g D σ' H' } := by
  unfold sSeq at h
  cases e : f ps ph with
  | nx s h2 =>
    rw [e] at h
    exact fun μ' H' σ' x w r => ⟨μ', s, h2, r, w, OutSOk.ext h x⟩
  | rt v h2 => rw [e] at h; exact h
  | bk s h2 => rw [e] at h; exact h
  | ct s h2 => rw [e] at h; exact h
  | err x s h2 => rw [e] at h; exact h
  | no => rw [e] at h; exact h
theorem jss_cons {st : Stmt} {rest : List Stmt} {f g : DS} (h1 : JS (bs X tbs) W X st f) (h2 : JSs (bs X tbs) W X rest g) : JSs (bs X tbs) W X (st :: rest) (sSeq f g) :=
  PSs_imp (pss_cons h1 h2) fun D σ H ⟨μ, ps, ph, sr, wd, ok⟩ => ⟨μ, ps, ph, sr, wd, OutSOk.seq ok⟩
theorem jss_one {st : Stmt} {f : DS} (h1 : JS (bs X tbs) W X st f) : JSs (bs X tbs) W X [st] f := pss_one h1
theorem js_expr {e : Expr} {f : DE} (h : JE (bs X tbs) W X e f) (hs : swapsWith e none pos.line X.env = pure false := by rfl) : JS (bs X tbs) W X (.Expr e pos) (sDrop f) :=
  PS_imp (ps_expr h hs) fun D σ H ⟨μ, ps, ph, sr, wd, ok⟩ => ⟨μ, ps, ph, sr, wd, OutOk.then_ sr ok fun x ph1 μ1 H1 v e1 w1 r1 ok1 => ok1 μ1 H1 σ Ex.refl w1 (sr.mono e1)⟩
theorem js_ret {e : Expr} {f : DE} (h : JE (bs X tbs) W X e f) : JS (bs X tbs) W X (.Return (some e) pos) (sRet f) :=
  PS_imp (ps_ret h) fun D σ H ⟨μ, ps, ph, sr, wd, ok⟩ => ⟨μ, ps, ph, sr, wd, OutOk.then_ sr ok fun x ph1 μ1 H1 v e1 w1 r1 ok1 => ok1 μ1 H1 v Ex.refl w1 r1⟩
theorem js_retN : JS (bs X tbs) W X (.Return none pos) sRetN := PS_imp ps_retN fun D σ H ⟨μ, ps, ph, sr, wd, ok⟩ => ok μ H _ Ex.refl wd .non
theorem js_if {c : Expr} {a b : List Stmt} {tc : DT} {f g : DS} (hc : JT (bs X tbs) W X c tc) (ha : JSs (bs X tbs) W X a f) (hb : JSs (bs X tbs) W X b g) : JS (bs X tbs) W X (.If c a b pos) (sIf tc f g) :=
  PS_imp (ps_if hc ha hb) fun D σ H ⟨μ, ps, ph, sr, wd, ok⟩ => ⟨μ, ps, ph, sr, wd, OutOk.then_ sr ok fun x ph1 μ1 H1 v e1 w1 r1 ok1 => by
    subst r1
    cases x with
    | true => exact ⟨μ1, ps, ph1, sr.mono e1, w1, ok1⟩
    | false => exact ⟨μ1, ps, ph1, sr.mono e1, w1, ok1⟩⟩
theorem asg_ok {g : GP} {f : DE} {D : Ends} {σ : L2.St} {H : Hp} (h : tDS (bs X tbs) W (sAsg g f) D σ H) : tD (bs X tbs) W f σ H fun x H1 => gD X.K g x σ H1 D.nx := by
  obtain ⟨μ, ps, ph, sr, wd, ok⟩ := h
  refine ⟨μ, ps, ph, sr, wd, OutOk.then_ sr ok fun x ph1 μ1 H1 v e1 w1 r1 ok1 => ?_⟩
  cases e : g x with
  | none =>
    rw [e] at ok1
    exact ok1.elim
  | some as =>
    rw [e] at ok1
    exact ⟨μ1, x, r1, as, e, fun bs' r2 => ok1 μ1 H1 _ Ex.refl w1 ((sr.mono e1).sets r2)⟩
theorem js_asg {tg e : Expr} {f : DE} {g : GP} (he : JE (bs X tbs) W X e f) (hg : JG X tg g) (hs : swapsWithSole [tg] e pos.line X.env = pure false := by rfl) (hw : swappedStores [tg] e X.env = pure none := by rfl)
    (h1 : (assignEach [tg] X.env).map (·.2) = [assign tg X.env] := by rfl) : JS (bs X tbs) W X (.Assign [tg] e pos) (sAsg g f) := PS_imp (ps_asg he hg hs hw h1) fun D σ H h => asg_ok h
theorem js_set {i : Nat} {x : Str} {e : Expr} {f : DE} {pos' : Pos} (hN : X.N.Nodup) (he : JE (bs X tbs) W X e f) (hi : X.N[i]? = some x := by rfl) (hx : Loc X.env.scope x := by first | exact Or.inl rfl | exact Or.inr rfl)
    (hs : swapsWith e (some (.Name x pos')) pos.line X.env = pure false := by rfl) (hf : X.fn x = true ∨ X.env.scope.names.lookup x = some .local := by first | exact .inl rfl | exact .inr rfl | assumption) : JS (bs X tbs) W X (.Assign [.Name x pos'] e pos) (sAsg (gNm i) f) :=
  PS_imp (ps_set hN hi hx he hs hf) fun D σ H h => by
    obtain ⟨μ, ps, ph, sr, wd, ok⟩ := h
    exact ⟨μ, ps, ph, sr, wd, OutOk.then_ sr ok fun x ph1 μ1 H1 v e1 w1 r1 ok1 => ok1 μ1 H1 _ Ex.refl w1 ((sr.mono e1).set i r1)⟩
theorem js_par {i j : Nat} {x y : Str} {a b : Expr} {f : DA} {px py pt : Pos} {kt k2 pt2} (hc : X.calm = true) (hN : X.N.Nodup) (ha : JA (bs X tbs) W X [a, b] f) (hi : X.N[i]? = some x := by rfl) (hj : X.N[j]? = some y := by rfl) (hij : i ≠ j := by decide)
    (hx : X.env.scope.names.lookup x = some .local := by rfl) (hy : X.env.scope.names.lookup y = some .local := by rfl)
    (hw : swappedStores [.Tuple [.Name x px, .Name y py] kt pt] (.Tuple [a, b] k2 pt2) X.env = pure (some [x, y]) := by rfl)
    (hs : swapsWithSole [.Tuple [.Name x px, .Name y py] kt pt] (.Tuple [a, b] k2 pt2) pos.line X.env = pure false := by rfl) : JS (bs X tbs) W X (.Assign [.Tuple [.Name x px, .Name y py] kt pt] (.Tuple [a, b] k2 pt2) pos) (sPar i j f) :=
  PS_imp (ps_par hc hN hi hj hij hx hy ha hw hs) fun D σ H ⟨μ, ps, ph, sr, wd, ok⟩ => ⟨μ, ps, ph, sr, wd, OutOk.then_ sr ok fun xs ph1 μ1 H1 vs e1 w1 r1 ok1 => by
    split at ok1
    · cases r1 with
      | cons ra rr =>
        cases rr with
        | cons rb rr =>
          cases rr
          exact ⟨_, _, rfl, ok1 μ1 H1 _ Ex.refl w1 (((sr.mono e1).set _ ra).set _ rb)⟩
    · exact ok1.elim⟩
end
end Dn
namespace Dn
open PySem PySem.Spec PyProof.Rows L2 PySem.SeqAt

/-! ### defs -/
/-- a def's own function: the arguments, the objects -/
abbrev DF := List PV → PH → Out PV
/-- what a def promises: n arguments -/
def spD (B : Bs) (n : Nat) (m : DF) : Sp := fun vs H Q E => vs.length = n ∧ ∃ μ ps ph, Rls B.K H μ ps vs ∧ Wd B.K B.tbs μ ph H ∧ OutOk B (fun cls d _ H' => E cls d H') (fun H' μ' => Rl B.K H' μ') μ H [] (m ps ph) Q
/-- m is for n arguments -/
def LenF (n : Nat) (m : DF) : Prop := ∀ xs h, xs.length ≠ n → m xs h = .no
/-- a def of the text keeps its function m; the caller's guards are known to be none -/
structure Fd (P : Program) (w : World) (base : Heap) (B : Bs) (k : Nat) (x : Str) (n : Nat) (m : DF) : Prop where
  len : LenF n m
  ex : ∃ (f : Addr) (fd : FuncData) (ps : List Str), B.mg x = some (.ref f) ∧ PySem.W.keepIn B.K (.ref f) = true ∧ ps.length = n ∧ Binds B.K fd ps [] ∧
    ∀ (A : Around) (outer : List Env) (s : Shared) (H : Hp) (args : Args) (us : List Value) (vs : List V) (Q : VK) (E : XK), Room k A → A.guards = some [] → Env0 P w B.K B.mg base A outer s H → BindsTo s fd args (ps.zip us) → Vals vs us → spD B n m vs H Q E →
      codeAny (model P w) A (.call (.ref f) args) (CR (CX P w) outer P w H s Q E) s
theorem Fd.up {P : Program} {w : World} {base : Heap} {B : Bs} {j k : Nat} {x : Str} {n : Nat} {m : DF} (F : Fd P w base B j x n m) (h : j ≤ k) : Fd P w base B k x n m := by
  obtain ⟨f, fd, ps, h1, h2, h3, h4, h5⟩ := F.ex
  exact ⟨F.len, f, fd, ps, h1, h2, h3, h4, fun A outer s H args us vs Q E hr => h5 A outer s H args us vs Q E (hr.mono h)⟩
/-- what a rule asks of the place where the code runs -/
structure Pl (X : Cx) (k : Nat) : Prop where
  room : Room k X.A
  gd : X.A.guards = some []
theorem Pl.mono {X : Cx} {j k : Nat} (p : Pl X k) (h : j ≤ k) : Pl X j := ⟨p.room.mono h, p.gd⟩
def eCallF (m : DF) (a : DA) : DE := fun s h => (a s h).bind fun xs h => m xs h
section
variable {tbs : List Addr} {W : WX} {X : Cx} {p pos : Pos} {k n : Nat} {x : Str} {m : DF}
theorem run_fd {f : Addr} {fd : FuncData} {ps : List Str} {pins : List (Addr × Obj)} {σ : L2.St} {H : Hp} {s : Shared} {Q : VK} {us : List Value} {vs : List V} (pl : Pl X k) (tk : Takes X W) (hb : Binds X.K fd ps []) (hn : ps.length = n)
    (run : ∀ (A : Around) (outer : List Env) (s : Shared) (H : Hp) (args : Args) (us : List Value) (vs : List V) (Q : VK) (E : XK), Room k A → A.guards = some [] → Env0 X.prog X.w X.K X.mg X.base A outer s H → BindsTo s fd args (ps.zip us) → Vals vs us → spD (bs X tbs) n m vs H Q E →
      codeAny (model X.prog X.w) A (.call (.ref f) args) (CR (CX X.prog X.w) outer X.prog X.w H s Q E) s)
    (I : Inv X pins σ H s) (r : Vals vs us) (h : spD (bs X tbs) n m vs H Q fun cls d H' => W cls d σ H') : wpAny (model X.prog X.w) X.A (call (.ref f) us) (EP X pins σ Q) X.xe s := by
  have hl : us.length = ps.length := by rw [hn, ← h.1]; exact r.length.symm
  have hb2 := hb s us I.kIn (by rw [List.append_nil]; exact hl)
  rw [List.append_nil] at hb2
  refine wpAny_call (codeAny_mono (run X.A X.stack s H ⟨us, []⟩ us vs Q _ pl.room pl.gd I.env0 hb2 r h) fun r s' hq => ?_)
  cases r with
  | error e => exact tk e s' (XE.of_call I (fun cls d H' h => h) hq)
  | ok fl =>
    cases fl with
    | ret u => exact I.after hq
    | next => exact False.elim hq
    | brk => exact False.elim hq
    | cont => exact False.elim hq
theorem j_fd {e : Expr} {es : List Expr} {g : DA} (F : Fd X.prog X.w X.base (bs X tbs) k x n m) (pl : Pl X k) (tk : Takes X W) (hg : Gl X x) (ha : JA (bs X tbs) W X (e :: es) g) (hlen : (e :: es).length = n := by rfl)
    (hdb : (x == ("__debug__" : Str)) = false := by decide) (he : starEach (e :: es) X.env = (false, eval e X.env) :: starEach es X.env := by rfl) (hpl : (backTo pos (starEach es X.env)).any (·.1) = false := by rfl) :
    JE (bs X tbs) W X (.Call (.Name x p) (e :: es) [] pos) (eCallF m g) := by
  obtain ⟨f, fd, ps, hm, hk, hn, hb, run⟩ := F.ex
  refine ⟨fun pins s σ H Q I ⟨μ, ps, ph, sr, wd, ok⟩ => ?_⟩
  refine wpAny_Call_Name_kw (ld_glob I hg hm ?_ hdb)
  refine PySem.W.callWith_K (h₀ := X.base) I.ok.mod.kin hk (thn (ha.run pos pins s σ H (fun vs H1 => spD (bs X tbs) n m vs H1 Q fun cls d H' => W cls d σ H') I ⟨μ, ps, ph, sr, wd, ?_⟩) fun us s1 ⟨vs, H1, I1, r, q⟩ => ⟨I1.kIn, run_fd pl tk hb hn run I1 r q⟩) he hpl
  unfold eCallF at ok
  cases eg : g ps ph with
  | no => rw [eg] at ok; exact ok
  | err x h => rw [eg] at ok; exact ok
  | ok xs ph1 =>
    rw [eg] at ok
    simp only [Out.bind_ok] at ok
    by_cases hx : xs.length = n
    · refine fun μ1 H1 vs e1 w1 r1 => ⟨by rw [← r1.len]; exact hx, μ1, xs, ph1, r1, w1, ?_⟩
      have ok2 := OutOk.ext ok e1
      cases em : m xs ph1 with
      | ok v h => rw [em] at ok2; exact ok2
      | err v h => rw [em] at ok2; exact ok2
      | no => rw [em] at ok2; exact ok2
    · rw [F.len xs ph1 hx] at ok
      exact ok.elim
end

/-- the slots at the start of a def -/
def args0 (n : Nat) (xs : List PV) : Sl := xs.map some ++ List.replicate (n - xs.length) none
/-- what a def's body comes to -/
def runB (f : DS) (n : Nat) (xs : List PV) (h : PH) : Out PV := match f (args0 n xs) h with
  | .nx _ h => .ok .non h
  | .rt v h => .ok v h
  | .err e _ h => .err e h
  | _ => .no
/-- who begins at h and is content with o' is content with o -/
def Sums (h : PH) (o o' : Out PV) : Prop := ∀ (B : Bs) (W : WX) (μ : List Addr) (H : Hp) (σ : L2.St) (Q : VK), Wd B.K B.tbs μ h H → OutOk B W (fun H' μ' => Rl B.K H' μ') μ H σ o' Q → OutOk B W (fun H' μ' => Rl B.K H' μ') μ H σ o Q
theorem Sums.refl {h : PH} {o : Out PV} : Sums h o o := fun _ _ _ _ _ _ _ q => q
theorem Sums.no {h : PH} {o : Out PV} : Sums h o .no := fun _ _ _ _ _ _ _ q => q.elim
theorem Sums.gc {h : PH} {o : Out PV} : Sums h o (gcO h o) := fun _ _ _ _ _ _ w q => OutOk.gc w q
theorem Sums.trans {h : PH} {a b c : Out PV} (x : Sums h a b) (y : Sums h b c) : Sums h a c := fun B W μ H σ Q w q => x B W μ H σ Q w (y B W μ H σ Q w q)
/-- a value in which no object is, the objects as they were, some more behind -/
theorem Sums.pure {h g : PH} {v : PV} {o : Out PV} (e : o = .ok v (h ++ g)) (hv : v.still = true) : Sums h o (.ok v h) := by
  subst e
  have z := Sums.gc (h := h) (o := .ok v (h ++ g))
  unfold gcO at z
  dsimp only at z
  rw [if_pos ⟨hv, by simp⟩] at z
  exact z
/-- an error, the objects as they were, some more behind -/
theorem Sums.fails {h g : PH} {e : PErr} {o : Out PV} (eq : o = .err e (h ++ g)) (hv : ∀ f x, e.fld = some (f, x) → x.still = true) : Sums h o (.err e h) := by
  subst eq
  intro B W μ H σ Q w q μ' H' cls d x w' r
  obtain ⟨a, b⟩ := w.forget x w'
  refine q μ H' cls d a b ?_
  obtain ⟨r1, r2⟩ := r
  refine ⟨r1, ?_⟩
  cases he : e.fld with
  | none => rw [he] at r2; exact r2
  | some p =>
    obtain ⟨f, y⟩ := p
    rw [he] at r2
    obtain ⟨da, v, e1, e2, e3⟩ := r2
    exact ⟨da, v, e1, e2, e3.still (hv f y he)⟩
section
variable {P : Program} {w : World} {K : PySem.W.Frag} {mg : Str → Option Value} {base : Heap} {tbs : List Addr}
theorem sr_start {H : Hp} {μ : List Addr} {N : List Str} {xs : List PV} {vs : List V} (r : Rls K H μ xs vs) : Sr K H μ (args0 N.length xs) (L2.start N vs) := by
  have l := r.len
  refine ⟨by unfold args0 L2.start; rw [List.length_append, List.length_append, List.length_map, List.length_map, List.length_replicate, List.length_replicate, l], fun i x h => ?_⟩
  unfold args0 at h
  by_cases lt : i < xs.length
  · rw [List.getElem?_append_left (by simpa using lt), List.getElem?_map] at h
    cases e : xs[i]? with
    | none => rw [e] at h; cases h
    | some y =>
      rw [e] at h
      cases h
      obtain ⟨v, h1, h2⟩ := r.at e
      refine ⟨v, ?_, h2⟩
      unfold L2.start
      rw [List.getElem?_append_left (by rw [List.length_map, ← l]; exact lt), List.getElem?_map, h1]
      rfl
  · rw [List.getElem?_append_right (by simpa using lt), List.getElem?_replicate] at h
    split at h <;> cases h
theorem guards_deeper {A : Around} {env : Env} : (A.deeper env).guards = A.guards := by
  first
    | rfl
    | simp [Around.deeper, pushGuards]
/-- THE RULE for a def -/
theorem fd_of {x : Str} {st : Stmt} {f : Addr} {fd : FuncData} {N ps : List Str} {k : Nat} {m : DF} {g : DS} (F : Fun K x x st f fd) (S : FnScope N ps (defScope st)) (hm : mg x = some (.ref f)) (hb : Binds K fd ps []) (len : LenF ps.length m)
    (sum : ∀ args h, args.length = ps.length → Sums h (runB g N.length args h) (m args h))
    (body : ∀ (cdv : Value) (A : Around) (outer : List Env) (s : Shared) (H : Hp) (E : XK), let X := cxOf (CX P w) P w K mg base N x (defScope st) f cdv A outer s H E; Pl X k → Takes X (fun cls d _ H' => E cls d H') → JSs ⟨K, mg, tbs⟩ (fun cls d _ H' => E cls d H') X (defBody st) g) :
    Fd P w base ⟨K, mg, tbs⟩ (k + 1) x ps.length m := by
  refine ⟨len, f, fd, ps, hm, F.kp, rfl, hb, fun Ao fr s0 Hq gs us vs Q E room gd en bt rv hsp => ?_⟩
  obtain ⟨c1, c2, c3, c4, c5, c6, c7, c8, c9, rfl, look, code⟩ := F.ex
  have kin : K.In s0.heap := en.mod.kin.keeps fun z o e => (en.bs z o e).1
  refine codeAny_call_function room.depth (kin _ _ look) rfl S.co S.gen rfl (PySem.W.codeRec_of kin code) (bt _ _ _ _ ?_)
  refine wpAny_newFunctionEnv_cells S.kind (fun y m => ?_) fun en1 same s1 there => ?_
  · have m1 := (List.of_mem_zip (show (y.1, y.2) ∈ ps.zip us from m)).1
    exact (S.par y.1 m1).elim .inl fun z => .inr ⟨z, PySem.W.cellsFrom_some _ _ _ (.inl z)⟩
  subst same
  refine ⟨(en.mod.nolimit.keeps fun z o e => (en.bs z o e).1).keeps there.toInCall.keep, codeAny_func ?_⟩
  have inv := inv_start (CX := CX P w) (E := E) S room.hd en hsp.1 rv there
  have bd := body c7 Ao fr s0 Hq E ⟨room.deeper _, guards_deeper.trans gd⟩ (takes_of rfl rfl rfl rfl)
  obtain ⟨_, μ, xs, ph, rs, wd, ok⟩ := hsp
  have hx : xs.length = ps.length := by
    rw [rs.len]
    assumption
  have ok2 := sum xs ph hx _ _ _ _ _ _ wd ok
  refine wpAny_mono (bd.run [] s1 (L2.start N vs) Hq { nx := fun _ H2 => Q V.non H2, rt := Q } inv ⟨μ, args0 N.length xs, ph, sr_start rs, wd, ?_⟩) (fun fl s2 h => ?_) fun _ _ h => h
  · unfold runB at ok2
    cases e : g (args0 N.length xs) ph with
    | nx s h =>
      rw [e] at ok2
      exact fun μ' H' σ' x1 w1 _ => ok2 μ' H' _ x1 w1 .non
    | rt v h =>
      rw [e] at ok2
      exact ok2
    | err z s h =>
      rw [e] at ok2
      exact fun μ' H' σ' cls d x1 w1 _ r1 => ok2 μ' H' cls d x1 w1 r1
    | bk s h => rw [e] at ok2; exact ok2.elim
    | ct s h => rw [e] at ok2; exact ok2.elim
    | no => rw [e] at ok2; exact ok2.elim
  · cases fl with
    | ret u =>
      obtain ⟨v, σ2, H2, J, r2, q2⟩ := h
      exact ⟨v, H2, J.os, J.bare, J.base, J.hok, r2, q2⟩
    | next =>
      obtain ⟨σ2, H2, J, q2⟩ := h
      exact ⟨V.non, H2, J.os, J.bare, J.base, J.hok, rfl, q2⟩
    | brk => exact absurd h fun ⟨_, _, _, z⟩ => z
    | cont => exact absurd h fun ⟨_, _, _, z⟩ => z
end
end Dn
namespace Dn
open PySem PySem.Spec PyProof.Rows L2 PySem.SeqAt

/-! ### what a loop walks: the lists that must stay as they are, the items -/
abbrev Its' := List (Nat × List PV) × List PV
abbrev DI := Sl → PH → Out Its'
def okG (gs : List (Nat × List PV)) (h : PH) : Bool := gs.all fun p => decide (h[p.1]? = some (.lst p.2))
structure WkP (K : PySem.W.Frag) (tbs : List Addr) (J : It) (gs : List (Nat × List PV)) (items : List PV) (μ0 : List Addr) (H0 : Hp) : Prop where
  goes : ∀ i H μ ph, i < items.length → Ex μ0 H0 μ H → Wd K tbs μ ph H → okG gs ph = true → J.go i H
  stops : ∀ H μ ph, Ex μ0 H0 μ H → Wd K tbs μ ph H → okG gs ph = true → J.stop items.length H
  yields : ∀ i H μ ph v H', i < items.length → Ex μ0 H0 μ H → Wd K tbs μ ph H → okG gs ph = true → J.yld i H v H' → ∃ x, items[i]? = some x ∧ Ex μ H μ H' ∧ Wd K tbs μ ph H' ∧ Rl K H' μ x v
def tDI (B : Bs) (W : WX) (f : DI) : TI := fun σ H R => ∃ μ ps ph, Sr B.K H μ ps σ ∧ Wd B.K B.tbs μ ph H ∧ OutOk B W (fun H' μ' (p : Its') (J : It) => WkP B.K B.tbs J p.1 p.2 μ' H') μ H σ (f ps ph) fun J H' => R J H'
def JI (B : Bs) (W : WX) (X : Cx) (tg e : Expr) (f : DI) : Prop := PI X tg e (tDI B W f)
theorem PI_imp {X : Cx} {tg e : Expr} {t t' : TI} (h : PI X tg e t) (k : ∀ σ H Q, t' σ H Q → t σ H Q) : PI X tg e t' := ⟨fun pins s σ H Q I q => h.run pins s σ H Q I (k σ H Q q)⟩
theorem PI_or {X : Cx} {tg e : Expr} {t t' : TI} (h : PI X tg e t) (h' : PI X tg e t') : PI X tg e (fun σ H R => t σ H R ∨ t' σ H R) := ⟨fun pins s σ H Q I q => q.elim (h.run pins s σ H Q I) (h'.run pins s σ H Q I)⟩
theorem SqF.sql {K : PySem.W.Frag} {H : Hp} {a : Addr} {xs : List V} (h : SqF K H a xs) : SqL K H a xs := by
  rcases h with ⟨o, h⟩ | h
  · exact .inl (.inr ⟨o, h⟩)
  · exact .inr h
theorem Ex.sqt {K : PySem.W.Frag} {μ μ' : List Addr} {H H' : Hp} (e : Ex μ H μ' H') {a : Addr} {xs : List V} (h : SqT K H a xs) : SqT K H' a xs := e.rd h
def chars (z : Str) : List PV := z.cps.toList.map fun c => .str ⟨#[c]⟩
section
variable {K : PySem.W.Frag} {tbs : List Addr} {μ0 : List Addr} {H0 : Hp} {a : Addr} {vs : List V} {xs : List PV}
theorem wk_tup (h : SqT K H0 a vs) (r : Rls K H0 μ0 xs vs) : WkP K tbs (Itt K a) [] xs μ0 H0 where
  goes := fun i H μ ph lt e _ _ => walk_tup.goes i H (by rw [← r.len]; exact lt) (e.sqt h)
  stops := fun H μ ph e _ _ => by
    rw [r.len]
    exact walk_tup.stops H (e.sqt h)
  yields := fun i H μ ph v H' lt e w _ y => by
    obtain ⟨rfl, hv⟩ := walk_tup.yields i H v H' (by rw [← r.len]; exact lt) (e.sqt h) y
    obtain ⟨v', h1, h2⟩ := (r.mono e).at (List.getElem?_eq_getElem lt)
    rw [hv] at h1
    cases h1
    exact ⟨_, List.getElem?_eq_getElem lt, Ex.refl, w, h2⟩
/-- a list that stays -/
theorem wk_lst {J : It} {gs : List (Nat × List PV)} (same : J = Itl K a) (h : ∀ H μ ph, Ex μ0 H0 μ H → Wd K tbs μ ph H → okG gs ph = true → ∃ ws, SqL K H a ws ∧ Rls K H μ xs ws) : WkP K tbs J gs xs μ0 H0 := by
  subst same
  refine ⟨fun i H μ ph lt e w g => ?_, fun H μ ph e w g => ?_, fun i H μ ph v H' lt e w g y => ?_⟩
  · obtain ⟨ws, q, r⟩ := h H μ ph e w g
    exact walk_list.goes i H (by rw [← r.len]; exact lt) q
  · obtain ⟨ws, q, r⟩ := h H μ ph e w g
    rw [r.len]
    exact walk_list.stops H q
  · obtain ⟨ws, q, r⟩ := h H μ ph e w g
    obtain ⟨rfl, hv⟩ := walk_list.yields i H v H' (by rw [← r.len]; exact lt) q y
    obtain ⟨v', h1, h2⟩ := r.at (List.getElem?_eq_getElem lt)
    rw [hv] at h1
    cases h1
    exact ⟨_, List.getElem?_eq_getElem lt, Ex.refl, w, h2⟩
/-- the list with number n -/
theorem ref_stays {n : Nat} (hk : μ0[n]? = some a) : ∀ H μ ph, Ex μ0 H0 μ H → Wd K tbs μ ph H → okG [(n, xs)] ph = true → ∃ ws, SqL K H a ws ∧ Rls K H μ xs ws := fun H μ ph e w g => by
  have g2 : ph[n]? = some (.lst xs) := by simpa [okG] using g
  obtain ⟨ws, h1, h2⟩ := w.ob n a _ (e.pre n a hk) g2
  exact ⟨ws, SqL.of h1, h2⟩
theorem fz_stays (h : SqF K H0 a vs) (r : Rls K H0 μ0 xs vs) : ∀ H μ ph, Ex μ0 H0 μ H → Wd K tbs μ ph H → okG [] ph = true → ∃ ws, SqL K H a ws ∧ Rls K H μ xs ws := fun H μ ph e w g => ⟨vs, (e.sqf h).sql, r.mono e⟩
theorem wk_str {z : Str} : WkP K tbs (Its z) [] (chars z) μ0 H0 where
  goes := fun i H μ ph lt e _ _ => walk_str.goes i H (by unfold chars at lt; simpa using lt) trivial
  stops := fun H μ ph e _ _ => by
    have z2 := (walk_str (z := z)).stops H trivial
    unfold chars
    rw [List.length_map, Array.length_toList]
    exact z2
  yields := fun i H μ ph v H' lt e w _ y => by
    obtain ⟨rfl, c, hc, rfl⟩ := walk_str.yields i H v H' (by unfold chars at lt; simpa using lt) trivial y
    refine ⟨.str ⟨#[c]⟩, ?_, Ex.refl, w, .str _⟩
    unfold chars
    rw [List.getElem?_map, Array.getElem?_toList, hc]
    rfl
def rangeP (lo : Int) (n : Nat) : List PV := (List.range n).map fun i => .int (lo + (i : Nat))
theorem wk_range {lo : Int} {n : Nat} : WkP K tbs (Itr lo n) [] (rangeP lo n) μ0 H0 where
  goes := fun i H μ ph lt e _ _ => walk_range.goes i H (by unfold rangeP at lt; simpa using lt) trivial
  stops := fun H μ ph e _ _ => by
    have z2 := (walk_range (lo := lo) (n := n)).stops H trivial
    unfold rangeP
    rw [List.length_map, List.length_range]
    exact z2
  yields := fun i H μ ph v H' lt e w _ y => by
    have lt2 : i < n := by unfold rangeP at lt; simpa using lt
    obtain ⟨rfl, rfl⟩ := walk_range.yields i H v H' lt2 trivial y
    refine ⟨.int (lo + (i : Nat)), ?_, Ex.refl, w, .int _⟩
    unfold rangeP
    rw [List.getElem?_map, List.getElem?_range lt2]
    rfl
end
/-- a tuple, a list, a text -/
def iSeq (f : DE) : DI := fun s h => (f s h).bind fun v h => match v with
  | .tup xs => .ok ([], xs) h
  | .kt xs => .ok ([], xs) h
  | .fz xs => .ok ([], xs) h
  | .str z => .ok ([], chars z) h
  | .ref n => match h[n]? with
    | some (.lst xs) => .ok ([(n, xs)], xs) h
    | _ => .no
  | _ => .no
def iRange1 (f : DE) : DI := fun s h => (f s h).bind fun v h => match v with
  | .int j => if decide (-4611686018427387904 ≤ j ∧ j < 4611686018427387904) then .ok ([], rangeP 0 j.toNat) h else .no
  | _ => .no
def iRange2 (f g : DE) : DI := fun s h => (f s h).bind fun v h => (g s h).bind fun w h => match v, w with
  | .int i, .int j => if decide (-4611686018427387904 ≤ i ∧ i < 4611686018427387904 ∧ -4611686018427387904 ≤ j ∧ j < 4611686018427387904) then .ok ([], rangeP i (j - i).toNat) h else .no
  | _, _ => .no
section
variable {tbs : List Addr} {W : WX} {X : Cx} {tg e : Expr} {p pos : Pos}
theorem tDI.of_tD {f : DE} {g : DI} {σ : L2.St} {H : Hp} {R : It → Hp → Prop} {k : PV → PH → Out Its'} (eq : g = fun s h => (f s h).bind k) (h : tDI (bs X tbs) W g σ H R) {Q : VK}
    (q : ∀ x ph μ' H' v, Wd X.K tbs μ' ph H' → Rl X.K H' μ' x v → OutOk (bs X tbs) W (fun H' μ' (p : Its') (J : It) => WkP X.K tbs J p.1 p.2 μ' H') μ' H' σ (k x ph) (fun J H' => R J H') → Q v H') : tD (bs X tbs) W f σ H Q := by
  obtain ⟨μ, ps, ph, sr, wd, ok⟩ := h
  subst eq
  exact ⟨μ, ps, ph, sr, wd, OutOk.bind ok fun x ph1 μ1 H1 v e1 w1 r1 ok1 => q x ph1 μ1 H1 v w1 r1 ok1⟩
theorem ji_seq {f : DE} (h : JE (bs X tbs) W X e f) : JI (bs X tbs) W X tg e (iSeq f) :=
  PI_imp (PI_or (pi_tup h) (PI_or (pi_list h) (pi_str h))) fun σ H R ⟨μ, ps, ph, sr, wd, ok⟩ => by
    unfold iSeq at ok
    cases ef : f ps ph with
    | no => rw [ef] at ok; exact ok.elim
    | err z h2 =>
      refine .inl ⟨μ, ps, ph, sr, wd, ?_⟩
      rw [ef] at ok ⊢
      exact ok
    | ok v h2 =>
      rw [ef] at ok
      simp only [Out.bind_ok] at ok
      have fin : ∀ {g : DE} {Q : VK}, g ps ph = .ok v h2 → (∀ μ' H' x, Ex μ H μ' H' → Wd X.K tbs μ' h2 H' → Rl X.K H' μ' v x → Q x H') → tD (bs X tbs) W g σ H Q := fun {g Q} e q => ⟨μ, ps, ph, sr, wd, by rw [e]; exact q⟩
      cases v with
      | tup xs =>
        refine .inl (fin ef fun μ' H' x e1 w1 r1 => ?_)
        cases r1 with
        | @tup a vs _ ht ra => exact ⟨a, rfl, ⟨_, SqT.of ht⟩, ok μ' H' _ e1 w1 (wk_tup (SqT.of ht) ra)⟩
      | kt xs =>
        refine .inl (fin ef fun μ' H' x e1 w1 r1 => ?_)
        cases r1 with
        | @kt a vs _ ht ra => exact ⟨a, rfl, ⟨_, .inr ht⟩, ok μ' H' _ e1 w1 (wk_tup (.inr ht) ra)⟩
      | fz xs =>
        refine .inr (.inl (fin ef fun μ' H' x e1 w1 r1 => ?_))
        cases r1 with
        | @fz a vs _ ht ra => exact ⟨a, rfl, ⟨_, ht.sql⟩, ok μ' H' _ e1 w1 (wk_lst rfl (fz_stays ht ra))⟩
      | str z =>
        refine .inr (.inr (fin ef fun μ' H' x e1 w1 r1 => ?_))
        cases r1
        exact ⟨z, rfl, ok μ' H' _ e1 w1 wk_str⟩
      | ref n =>
        dsimp only at ok
        split at ok
        · rename_i xs hn
          refine .inr (.inl (fin ef fun μ' H' x e1 w1 r1 => ?_))
          cases r1 with
          | @ref _ a hk =>
            obtain ⟨vs, h1, h2'⟩ := w1.ob n a _ hk hn
            exact ⟨a, rfl, ⟨_, SqL.of h1⟩, ok μ' H' _ e1 w1 (wk_lst rfl (ref_stays hk))⟩
        · exact ok.elim
      | non => exact ok.elim
      | bl b => exact ok.elim
      | int i => exact ok.elim
theorem ja_ones {f : DE} {α β : Type} {rel : Hp → List Addr → α → β → Prop} {σ : L2.St} {H : Hp} {μ : List Addr} {ps : Sl} {ph : PH} {k : PV → PH → Out α} {R : β → Hp → Prop} {Q : List V → Hp → Prop} (sr : Sr X.K H μ ps σ) (wd : Wd X.K tbs μ ph H) (ok : OutOk (bs X tbs) W rel μ H σ ((f ps ph).bind k) R)
    (q : ∀ x ph μ' H' v, Ex μ H μ' H' → Wd X.K tbs μ' ph H' → Rl X.K H' μ' x v → OutOk (bs X tbs) W rel μ' H' σ (k x ph) R → Q [v] H') : tDA (bs X tbs) W (eCons f eNil) σ H Q := by
  refine ⟨μ, ps, ph, sr, wd, ?_⟩
  unfold eCons eNil
  cases ef : f ps ph with
  | no => rw [ef] at ok; exact ok.elim
  | err z h2 => rw [ef] at ok; exact ok
  | ok v h2 =>
    rw [ef] at ok
    simp only [Out.bind_ok] at ok ⊢
    intro μ' H' vs e1 w1 r1
    cases r1 with
    | cons ra rb =>
      cases rb
      exact q v h2 μ' H' _ e1 w1 ra (OutOk.ext ok e1)
theorem ja_twos {f g : DE} {α β : Type} {rel : Hp → List Addr → α → β → Prop} {σ : L2.St} {H : Hp} {μ : List Addr} {ps : Sl} {ph : PH} {k : PV → PV → PH → Out α} {R : β → Hp → Prop} {Q : List V → Hp → Prop} (sr : Sr X.K H μ ps σ) (wd : Wd X.K tbs μ ph H) (ok : OutOk (bs X tbs) W rel μ H σ ((f ps ph).bind fun x h => (g ps h).bind fun y h => k x y h) R)
    (q : ∀ x y ph μ' H' v w, Ex μ H μ' H' → Wd X.K tbs μ' ph H' → Rl X.K H' μ' x v → Rl X.K H' μ' y w → OutOk (bs X tbs) W rel μ' H' σ (k x y ph) R → Q [v, w] H') : tDA (bs X tbs) W (eCons f (eCons g eNil)) σ H Q := by
  refine ⟨μ, ps, ph, sr, wd, ?_⟩
  unfold eCons eNil
  cases ef : f ps ph with
  | no => rw [ef] at ok; exact ok.elim
  | err z h2 => rw [ef] at ok; exact ok
  | ok v h2 =>
    rw [ef] at ok
    simp only [Out.bind_ok] at ok ⊢
    cases eg : g ps h2 with
    | no => rw [eg] at ok; exact ok.elim
    | err z h3 => rw [eg] at ok; exact ok
    | ok w h3 =>
      rw [eg] at ok
      simp only [Out.bind_ok] at ok ⊢
      intro μ' H' vs e1 w1 r1
      cases r1 with
      | cons ra rb =>
        cases rb with
        | cons rc rd =>
          cases rd
          exact q v w h3 μ' H' _ _ e1 w1 ra rc (OutOk.ext ok e1)
theorem ji_range {f : DE} (hg : Gl X "range") (hm : X.mg "range" = none) (ha : JE (bs X tbs) W X e f) (hs : starEach [e] X.env = [(false, eval e X.env)] := by rfl) : JI (bs X tbs) W X tg (.Call (.Name "range" p) [e] [] pos) (iRange1 f) :=
  PI_imp (pi_range1 hg hm (j_cons ha j_nil hs) hs) fun σ H R ⟨μ, ps, ph, sr, wd, ok⟩ => ja_ones sr wd ok fun x ph μ' H' v e1 w1 r1 ok1 => by
    split at ok1
    · rename_i j
      cases r1
      split at ok1
      · rename_i hz
        obtain ⟨h1, h2⟩ := of_decide_eq_true hz
        exact ⟨j, rfl, by omega, by omega, ok1 μ' H' _ Ex.refl w1 wk_range⟩
      · exact ok1.elim
    · exact ok1.elim
theorem ji_range2 {e2 : Expr} {f g : DE} (hg : Gl X "range") (hm : X.mg "range" = none) (ha : JE (bs X tbs) W X e f) (hb : JE (bs X tbs) W X e2 g) (hs : starEach [e, e2] X.env = [(false, eval e X.env), (false, eval e2 X.env)] := by rfl) (hs2 : starEach [e2] X.env = [(false, eval e2 X.env)] := by rfl) :
    JI (bs X tbs) W X tg (.Call (.Name "range" p) [e, e2] [] pos) (iRange2 f g) :=
  PI_imp (pi_range2 hg hm (j_cons ha (j_cons hb j_nil hs2) (hs.trans (by rw [hs2]))) hs hs2) fun σ H R ⟨μ, ps, ph, sr, wd, ok⟩ => ja_twos sr wd ok fun x y ph μ' H' v w e1 w1 r1 r2 ok1 => by
    split at ok1
    · rename_i i j
      cases r1
      cases r2
      split at ok1
      · rename_i hz
        obtain ⟨h1, h2, h3, h4⟩ := of_decide_eq_true hz
        exact ⟨i, j, rfl, ⟨by omega, by omega, by omega, by omega⟩, ok1 μ' H' _ Ex.refl w1 wk_range⟩
      · exact ok1.elim
    · exact ok1.elim

/-! ### enumerate, zip, reversed -/
def enumP : Nat → List PV → List PV
  | _, [] => []
  | k, x :: r => .tup [.int k, x] :: enumP (k + 1) r
theorem enumP_at : ∀ (xs : List PV) (k i : Nat), (enumP k xs)[i]? = xs[i]?.map fun x => .tup [.int ((k + i : Nat) : Int), x]
  | [], _, _ => by simp [enumP]
  | x :: r, k, 0 => by simp [enumP]
  | x :: r, k, i + 1 => by
    show (enumP (k + 1) r)[i]? = _
    rw [enumP_at r (k + 1) i]
    have e : k + 1 + i = k + (i + 1) := by omega
    rw [e]
    rfl
theorem enumP_len : ∀ (xs : List PV) (k : Nat), (enumP k xs).length = xs.length
  | [], _ => rfl
  | x :: r, k => by
    show (enumP (k + 1) r).length + 1 = _
    rw [enumP_len r (k + 1)]
    rfl
theorem pair_ok {K : PySem.W.Frag} {μ : List Addr} {ph : PH} {H H' : Hp} {v x y : V} {px py : PV} {T : Addr} (w : Wd K tbs μ ph H) (hv : v = .ref T) (hT : H T = none) (hH : H' = upd H T (.tup [x, y])) (r1 : Rl K H μ px x) (r2 : Rl K H μ py y) :
    Ex μ H μ H' ∧ Wd K tbs μ ph H' ∧ Rl K H' μ (.tup [px, py]) v := by
  subst hv hH
  exact w.newTup (.cons r1 (.cons r2 .nil)) hT
theorem wk_enumT {K : PySem.W.Frag} {μ0 : List Addr} {H0 : Hp} {a : Addr} {vs : List V} {xs : List PV} (h : SqT K H0 a vs) (r : Rls K H0 μ0 xs vs) : WkP K tbs (Rw.Itet K a) [] (enumP 0 xs) μ0 H0 where
  goes := fun i H μ ph lt e _ _ => Rw.walk_enumT.goes i H (by rw [enumP_len] at lt; rw [← r.len]; exact lt) (e.sqt h)
  stops := fun H μ ph e _ _ => by
    rw [enumP_len, r.len]
    exact Rw.walk_enumT.stops H (e.sqt h)
  yields := fun i H μ ph v H' lt e w _ y => by
    rw [enumP_len] at lt
    obtain ⟨T, x, y, e1, e2, e3, e4, e5⟩ := Rw.walk_enumT.yields i H v H' (by rw [← r.len]; exact lt) (e.sqt h) y
    obtain ⟨v', h1, h2⟩ := (r.mono e).at (List.getElem?_eq_getElem lt)
    dsimp only at e4 e5
    rw [e5] at h1
    cases h1
    cases e4
    obtain ⟨a1, a2, a3⟩ := pair_ok w e1 e2 e3 (.int ((i : Nat) : Int)) h2
    refine ⟨_, ?_, a1, a2, a3⟩
    rw [enumP_at, List.getElem?_eq_getElem lt, Nat.zero_add]
    rfl
theorem wk_enumL {K : PySem.W.Frag} {μ0 : List Addr} {H0 : Hp} {a : Addr} {gs : List (Nat × List PV)} {xs : List PV} (h : ∀ H μ ph, Ex μ0 H0 μ H → Wd K tbs μ ph H → okG gs ph = true → ∃ ws, SqL K H a ws ∧ Rls K H μ xs ws) : WkP K tbs (Ite K a) gs (enumP 0 xs) μ0 H0 where
  goes := fun i H μ ph lt e w g => by
    obtain ⟨ws, q, r⟩ := h H μ ph e w g
    exact walk_enum.goes i H (by rw [enumP_len] at lt; rw [← r.len]; exact lt) q
  stops := fun H μ ph e w g => by
    obtain ⟨ws, q, r⟩ := h H μ ph e w g
    rw [enumP_len, r.len]
    exact walk_enum.stops H q
  yields := fun i H μ ph v H' lt e w g y => by
    obtain ⟨ws, q, r⟩ := h H μ ph e w g
    rw [enumP_len] at lt
    obtain ⟨T, x, y, e1, e2, e3, e4, e5⟩ := walk_enum.yields i H v H' (by rw [← r.len]; exact lt) q y
    obtain ⟨v', h1, h2⟩ := r.at (List.getElem?_eq_getElem lt)
    dsimp only at e4 e5
    rw [e5] at h1
    cases h1
    cases e4
    obtain ⟨a1, a2, a3⟩ := pair_ok w e1 e2 e3 (.int ((i : Nat) : Int)) h2
    refine ⟨_, ?_, a1, a2, a3⟩
    rw [enumP_at, List.getElem?_eq_getElem lt, Nat.zero_add]
    rfl
def iEnumP (f : DE) : DI := fun s h => (f s h).bind fun v h => match v with
  | .tup xs => .ok ([], enumP 0 xs) h
  | .fz xs => .ok ([], enumP 0 xs) h
  | .ref n => match h[n]? with
    | some (.lst xs) => .ok ([(n, xs)], enumP 0 xs) h
    | _ => .no
  | _ => .no
theorem ja_one {f : DE} {σ : L2.St} {H : Hp} {μ : List Addr} {ps : Sl} {ph : PH} {v : PV} {h2 : PH} {Q : List V → Hp → Prop} (sr : Sr X.K H μ ps σ) (wd : Wd X.K tbs μ ph H) (ef : f ps ph = .ok v h2) (q : ∀ μ' H' x, Ex μ H μ' H' → Wd X.K tbs μ' h2 H' → Rl X.K H' μ' v x → Q [x] H') :
    tDA (bs X tbs) W (eCons f eNil) σ H Q := by
  refine ⟨μ, ps, ph, sr, wd, ?_⟩
  unfold eCons eNil
  rw [ef]
  simp only [Out.bind_ok]
  intro μ' H' vs e1 w1 r1
  cases r1 with
  | cons ra rb =>
    cases rb
    exact q μ' H' _ e1 w1 ra
theorem ja_err {f : DE} {σ : L2.St} {H : Hp} {μ : List Addr} {ps : Sl} {ph : PH} {z : PErr} {h2 : PH} {Q : List V → Hp → Prop} {β : Type} {rel : Hp → List Addr → Its' → β → Prop} {R : β → Hp → Prop} (sr : Sr X.K H μ ps σ) (wd : Wd X.K tbs μ ph H) (ef : f ps ph = .err z h2) (ok : OutOk (bs X tbs) W rel μ H σ (.err z h2 : Out Its') R) :
    tDA (bs X tbs) W (eCons f eNil) σ H Q := by
  refine ⟨μ, ps, ph, sr, wd, ?_⟩
  unfold eCons
  rw [ef]
  exact ok
theorem ji_enum {f : DE} {elts : List Expr} {kk : Nat} {tpos : Pos} (hg : Gl X "enumerate") (hm : X.mg "enumerate" = none) (ha : JE (bs X tbs) W X e f) (hs : starEach [e] X.env = [(false, eval e X.env)] := by rfl) : JI (bs X tbs) W X (.Tuple elts kk tpos) (.Call (.Name "enumerate" p) [e] [] pos) (iEnumP f) :=
  PI_imp (PI_or (Rw.pi_enumT hg hm (j_cons ha j_nil hs) hs) (pi_enum hg hm (j_cons ha j_nil hs) hs)) fun σ H R ⟨μ, ps, ph, sr, wd, ok⟩ => by
    unfold iEnumP at ok
    cases ef : f ps ph with
    | no => rw [ef] at ok; exact ok.elim
    | err z h2 =>
      rw [ef] at ok
      exact .inl (ja_err sr wd ef ok)
    | ok v h2 =>
      rw [ef] at ok
      simp only [Out.bind_ok] at ok
      cases v with
      | tup xs =>
        refine .inl (ja_one sr wd ef fun μ' H' x e1 w1 r1 => ?_)
        cases r1 with
        | @tup a vs _ ht ra => exact ⟨a, _, rfl, SqT.of ht, ok μ' H' _ e1 w1 (wk_enumT (SqT.of ht) ra)⟩
      | kt xs => exact ok.elim
      | fz xs =>
        refine .inr (ja_one sr wd ef fun μ' H' x e1 w1 r1 => ?_)
        cases r1 with
        | @fz a vs _ ht ra => exact ⟨a, _, rfl, ht.sql, ok μ' H' _ e1 w1 (wk_enumL (fz_stays ht ra))⟩
      | ref n =>
        dsimp only at ok
        split at ok
        · rename_i xs hn
          refine .inr (ja_one sr wd ef fun μ' H' x e1 w1 r1 => ?_)
          cases r1 with
          | @ref _ a hk =>
            obtain ⟨vs, h1, h2'⟩ := w1.ob n a _ hk hn
            exact ⟨a, _, rfl, SqL.of h1, ok μ' H' _ e1 w1 (wk_enumL (ref_stays hk))⟩
        · exact ok.elim
      | str z => exact ok.elim
      | non => exact ok.elim
      | bl b => exact ok.elim
      | int i => exact ok.elim
/-- pairs, as long as both go -/
def zipP (xs ys : List PV) : List PV := List.zipWith (fun x y => .tup [x, y]) xs ys
theorem wk_zipT {K : PySem.W.Frag} {μ0 : List Addr} {H0 : Hp} {a b : Addr} {vs ws : List V} {xs ys : List PV} (h : SqT K H0 a vs) (r : Rls K H0 μ0 xs vs) (h2 : SqT K H0 b ws) (r2 : Rls K H0 μ0 ys ws) : WkP K tbs (RZ.ItzT K a b) [] (zipP xs ys) μ0 H0 where
  goes := fun i H μ ph lt e _ _ => by
    simp only [zipP, List.length_zipWith] at lt
    obtain ⟨v, h3, _⟩ := r.at (List.getElem?_eq_getElem (show i < xs.length by omega))
    obtain ⟨w, h4, _⟩ := r2.at (List.getElem?_eq_getElem (show i < ys.length by omega))
    exact ⟨vs, ws, v, w, e.sqt h, e.sqt h2, h3, h4⟩
  stops := fun H μ ph e _ _ => by
    simp only [zipP, List.length_zipWith]
    refine ⟨vs, ws, e.sqt h, e.sqt h2, ?_⟩
    rw [← r.len, ← r2.len]
    omega
  yields := fun i H μ ph v H' lt e w _ y => by
    simp only [zipP, List.length_zipWith] at lt
    have l1 : i < xs.length := by omega
    have l2 : i < ys.length := by omega
    obtain ⟨T, x, y, e1, e2, e3, e4, e5⟩ := y
    obtain ⟨v1, h3, q1⟩ := (r.mono e).at (List.getElem?_eq_getElem l1)
    obtain ⟨v2, h4, q2⟩ := (r2.mono e).at (List.getElem?_eq_getElem l2)
    have z1 := e4 _ (e.sqt h)
    have z2 := e5 _ (e.sqt h2)
    rw [z1] at h3
    rw [z2] at h4
    cases h3
    cases h4
    obtain ⟨a1, a2, a3⟩ := pair_ok w e1 e2 e3 q1 q2
    refine ⟨_, ?_, a1, a2, a3⟩
    simp [zipP, List.getElem?_zipWith, List.getElem?_eq_getElem l1, List.getElem?_eq_getElem l2]
theorem wk_zipL {K : PySem.W.Frag} {μ0 : List Addr} {H0 : Hp} {a b : Addr} {gs gs2 : List (Nat × List PV)} {xs ys : List PV} (h : ∀ H μ ph, Ex μ0 H0 μ H → Wd K tbs μ ph H → okG gs ph = true → ∃ ws, SqL K H a ws ∧ Rls K H μ xs ws)
    (h2 : ∀ H μ ph, Ex μ0 H0 μ H → Wd K tbs μ ph H → okG gs2 ph = true → ∃ ws, SqL K H b ws ∧ Rls K H μ ys ws) : WkP K tbs (Itz K a b) (gs ++ gs2) (zipP xs ys) μ0 H0 where
  goes := fun i H μ ph lt e w g => by
    simp only [okG, List.all_append, Bool.and_eq_true] at g
    obtain ⟨vs, q, r⟩ := h H μ ph e w g.1
    obtain ⟨ws, q2, r2⟩ := h2 H μ ph e w g.2
    simp only [zipP, List.length_zipWith] at lt
    obtain ⟨v, h3, _⟩ := r.at (List.getElem?_eq_getElem (show i < xs.length by omega))
    obtain ⟨w, h4, _⟩ := r2.at (List.getElem?_eq_getElem (show i < ys.length by omega))
    exact ⟨vs, ws, v, w, q, q2, h3, h4⟩
  stops := fun H μ ph e w g => by
    simp only [okG, List.all_append, Bool.and_eq_true] at g
    obtain ⟨vs, q, r⟩ := h H μ ph e w g.1
    obtain ⟨ws, q2, r2⟩ := h2 H μ ph e w g.2
    simp only [zipP, List.length_zipWith]
    refine ⟨vs, ws, q, q2, ?_⟩
    rw [← r.len, ← r2.len]
    omega
  yields := fun i H μ ph v H' lt e w g y => by
    simp only [okG, List.all_append, Bool.and_eq_true] at g
    obtain ⟨vs, q, r⟩ := h H μ ph e w g.1
    obtain ⟨ws, q2, r2⟩ := h2 H μ ph e w g.2
    simp only [zipP, List.length_zipWith] at lt
    have l1 : i < xs.length := by omega
    have l2 : i < ys.length := by omega
    obtain ⟨T, x, y, e1, e2, e3, e4, e5⟩ := y
    obtain ⟨v1, h3, q3⟩ := r.at (List.getElem?_eq_getElem l1)
    obtain ⟨v2, h4, q4⟩ := r2.at (List.getElem?_eq_getElem l2)
    have z1 := e4 _ q
    have z2 := e5 _ q2
    rw [z1] at h3
    rw [z2] at h4
    cases h3
    cases h4
    obtain ⟨a1, a2, a3⟩ := pair_ok w e1 e2 e3 q3 q4
    refine ⟨_, ?_, a1, a2, a3⟩
    simp [zipP, List.getElem?_zipWith, List.getElem?_eq_getElem l1, List.getElem?_eq_getElem l2]
/-- the items of a list, and what must stay -/
def lstOf (h : PH) : PV → Option Its'
  | .fz xs => some ([], xs)
  | .ref n => match h[n]? with
    | some (.lst xs) => some ([(n, xs)], xs)
    | _ => none
  | _ => none
theorem lstOf_ok {K : PySem.W.Frag} {μ : List Addr} {H : Hp} {ph : PH} {x : PV} {v : V} {g : Its'} (w : Wd K tbs μ ph H) (r : Rl K H μ x v) (e : lstOf ph x = some g) : ∃ a vs, v = .ref a ∧ SqL K H a vs ∧ ∀ H' μ' ph', Ex μ H μ' H' → Wd K tbs μ' ph' H' → okG g.1 ph' = true → ∃ ws, SqL K H' a ws ∧ Rls K H' μ' g.2 ws := by
  unfold lstOf at e
  split at e
  · cases e
    cases r with
    | @fz a vs _ ht ra => exact ⟨a, vs, rfl, ht.sql, fz_stays ht ra⟩
  · split at e
    · rename_i xs hn
      cases e
      cases r with
      | @ref _ a hk =>
        obtain ⟨vs, h1, _⟩ := w.ob _ a _ hk hn
        exact ⟨a, vs, rfl, SqL.of h1, ref_stays hk⟩
    · cases e
  · cases e
def iZipP (f g : DE) : DI := fun s h => (f s h).bind fun v h => (g s h).bind fun w h => match v, w with
  | .tup xs, .tup ys => .ok ([], zipP xs ys) h
  | _, _ => match lstOf h v, lstOf h w with
    | some a, some b => .ok (a.1 ++ b.1, zipP a.2 b.2) h
    | _, _ => .no
theorem ji_zip {e2 : Expr} {f g : DE} {elts : List Expr} {kk : Nat} {tpos : Pos} (hg : Gl X "zip") (hm : X.mg "zip" = none) (ha : JE (bs X tbs) W X e f) (hb : JE (bs X tbs) W X e2 g) (hs : starEach [e, e2] X.env = [(false, eval e X.env), (false, eval e2 X.env)] := by rfl) (hs2 : starEach [e2] X.env = [(false, eval e2 X.env)] := by rfl) :
    JI (bs X tbs) W X (.Tuple elts kk tpos) (.Call (.Name "zip" p) [e, e2] [] pos) (iZipP f g) :=
  PI_imp (RZ.pi_zipA hg hm (j_cons ha (j_cons hb j_nil hs2) (hs.trans (by rw [hs2]))) (hs.trans (by rw [hs2])) (by rw [hs2]; rfl)) fun σ H R ⟨μ, ps, ph, sr, wd, ok⟩ => ja_twos sr wd ok fun x y ph μ' H' v w e1 w1 r1 r2 ok1 => by
    split at ok1
    · rename_i xs ys
      cases r1 with
      | @tup a vs _ ht ra =>
      cases r2 with
      | @tup b ws _ ht2 rb =>
      exact ⟨a, b, vs, ws, rfl, .inr ⟨SqT.of ht, SqT.of ht2, ok1 μ' H' _ Ex.refl w1 (wk_zipT (SqT.of ht) ra (SqT.of ht2) rb)⟩⟩
    · split at ok1
      · rename_i a b q1 q2
        obtain ⟨a1, vs, rfl, s1, k1⟩ := lstOf_ok w1 r1 q1
        obtain ⟨b1, ws, rfl, s2, k2⟩ := lstOf_ok w1 r2 q2
        exact ⟨a1, b1, vs, ws, rfl, .inl ⟨s1, s2, ok1 μ' H' _ Ex.refl w1 (wk_zipL k1 k2)⟩⟩
      · exact ok1.elim
end

/-! ### for -/
def forItems (gs : List (Nat × List PV)) (g : GP) (body : DS) : List PV → Sl → PH → OutS
  | [], s, h => if okG gs h then .nx s h else .no
  | x :: r, s, h => if okG gs h then match g x with
      | some as => match body (setP as s) h with
        | .nx s h => forItems gs g body r s h
        | .ct s h => forItems gs g body r s h
        | .bk s h => .nx s h
        | o => o
      | none => .no
    else .no
def sFor (it : DI) (g : GP) (body : DS) : DS := fun s h => (it s h).then s fun p h => forItems p.1 g body p.2 s h
section
variable {tbs : List Addr} {W : WX} {X : Cx} {tg e : Expr} {pos : Pos}
theorem js_for {body : List Stmt} {it : DI} {g : GP} {f : DS} (hp : PassesOwn (model X.prog X.w) X.A X.env X.xe) (hc : X.calm = true) (hi : JI (bs X tbs) W X tg e it) (hg : JG X tg g) (hb : JSs (bs X tbs) W X body f)
    (hs : ∀ x, foldedSetIterable e X.env x = pure x := by intro _; rfl) : JS (bs X tbs) W X (.For tg e body [] pos) (sFor it g f) :=
  PS_imp (ps_for hp hc hi hg hb hs) fun D σ H ⟨μ, ps, ph, sr, wd, ok⟩ => ⟨μ, ps, ph, sr, wd, OutOk.then_ sr ok fun its ph1 μ1 H1 J e1 w1 wk ok1 => by
    obtain ⟨gs, items⟩ := its
    dsimp only at wk ok1
    refine ⟨fun i m σ H => m = items.length - i ∧ i ≤ items.length ∧ ∃ μ ps ph, Ex μ1 H1 μ H ∧ Sr X.K H μ ps σ ∧ Wd X.K tbs μ ph H ∧ OutSOk (bs X tbs) W μ H (forItems gs g f (items.drop i) ps ph) D, ⟨items.length, by simp, Nat.zero_le _, μ1, ps, ph1, Ex.refl, sr.mono e1, w1, ok1⟩, ?_⟩
    rintro i m σ2 H2 ⟨rfl, hi, μ2, ps2, ph2, e2, sr2, w2, ok2⟩
    have gOk : okG gs ph2 = true := by
      cases hz : okG gs ph2 with
      | true => rfl
      | false =>
        cases hd : items.drop i with
        | nil =>
          rw [hd] at ok2
          unfold forItems at ok2
          rw [hz] at ok2
          exact ok2.elim
        | cons x r =>
          rw [hd] at ok2
          unfold forItems at ok2
          rw [hz] at ok2
          exact ok2.elim
    by_cases lt : i < items.length
    · refine .inr ⟨wk.goes i H2 μ2 ph2 lt e2 w2 gOk, _, fun σ' H' h => ⟨items.length - (i + 1), by omega, rfl, lt, h⟩, fun x H' y => ?_⟩
      obtain ⟨px, hx, e3, w3, r3⟩ := wk.yields i H2 μ2 ph2 x H' lt e2 w2 gOk y
      have hd : items.drop i = px :: items.drop (i + 1) := by
        rw [List.drop_eq_getElem_cons lt]
        rw [List.getElem?_eq_getElem lt] at hx
        cases hx
        rfl
      rw [hd] at ok2
      unfold forItems at ok2
      rw [if_pos gOk] at ok2
      cases eg : g px with
      | none =>
        rw [eg] at ok2
        exact ok2.elim
      | some as =>
        rw [eg] at ok2
        dsimp only at ok2
        refine ⟨μ2, px, r3, as, eg, fun bs' rb => ⟨μ2, setP as ps2, ph2, (sr2.mono e3).sets rb, w3, ?_⟩⟩
        have ok3 := OutSOk.ext ok2 e3
        cases eb : f (setP as ps2) ph2 with
        | nx s h =>
          rw [eb] at ok3
          exact fun μ' H' σ' x1 w' s' => ⟨μ', s, h, (e2.trans e3).trans x1, s', w', OutSOk.ext ok3 x1⟩
        | ct s h =>
          rw [eb] at ok3
          exact fun μ' H' σ' x1 w' s' => ⟨μ', s, h, (e2.trans e3).trans x1, s', w', OutSOk.ext ok3 x1⟩
        | bk s h => rw [eb] at ok3; exact ok3
        | rt v h => rw [eb] at ok3; exact ok3
        | err z s h => rw [eb] at ok3; exact ok3
        | no => rw [eb] at ok3; exact ok3
    · have e3 : i = items.length := by omega
      subst e3
      refine .inl ⟨wk.stops H2 μ2 ph2 e2 w2 gOk, ?_⟩
      rw [List.drop_length] at ok2
      unfold forItems at ok2
      rw [if_pos gOk] at ok2
      exact ok2 μ2 H2 σ2 Ex.refl w2 sr2⟩
end
end Dn
namespace Dn
open PySem PySem.Spec PyProof.Rows L2 PySem.SeqAt

/-! ### comprehensions -/
def wipeP (s : Sl) : List Nat → Sl
  | [] => s
  | v :: vs => (wipeP s vs).set v none
theorem Sr.wipe {K : PySem.W.Frag} {H : Hp} {μ : List Addr} {ps : Sl} {σ : L2.St} (h : Sr K H μ ps σ) : ∀ vs : List Nat, Sr K H μ (wipeP ps vs) (L2.wipe σ vs)
  | [] => h
  | v :: vs => by
    have q := Sr.wipe h vs
    refine ⟨by show ((wipeP ps vs).set v none).length = ((L2.wipe σ vs).set v none).length; rw [List.length_set, q.len, List.length_set], fun i x e => ?_⟩
    have e : ((wipeP ps vs).set v none)[i]? = some (some x) := e
    by_cases z : v = i
    · subst z
      by_cases lt : v < (wipeP ps vs).length
      · rw [List.getElem?_set_self lt] at e; cases e
      · rw [List.getElem?_eq_none (by simpa using lt)] at e; cases e
    · rw [List.getElem?_set_ne z] at e
      obtain ⟨u, h1, h2⟩ := q.at_ i x e
      refine ⟨u, ?_, h2⟩
      unfold L2.wipe
      rw [List.getElem?_set_ne z]
      exact h1
/-- the target's slots are among vs -/
def GOk (vs : List Nat) (g : GP) : Prop := ∀ x as, g x = some as → ∀ p ∈ as, p.1 ∈ vs
def GsOk (vs : List Nat) (g : List PV → Option (List (Nat × PV))) : Prop := ∀ x as, g x = some as → ∀ p ∈ as, p.1 ∈ vs
theorem gok_nm {vs : List Nat} {i : Nat} (h : i ∈ vs := by decide) : GOk vs (gNm i) := fun x as e p hp => by
  cases e
  rw [List.mem_singleton.mp hp]
  exact h
theorem gok_nil {vs : List Nat} : GsOk vs gsNil := fun x as e p hp => by
  cases x with
  | nil => cases e; cases hp
  | cons _ _ => cases e
theorem gok_cons {vs : List Nat} {g : GP} {r : List PV → Option (List (Nat × PV))} (h1 : GOk vs g) (h2 : GsOk vs r) : GsOk vs (gsCons g r) := fun x as e p hp => by
  cases x with
  | nil => cases e
  | cons y ys =>
    unfold gsCons at e
    dsimp only at e
    split at e
    · rename_i a b e1 e2
      cases e
      rcases List.mem_append.mp hp with z | z
      · exact h1 _ _ e1 p z
      · exact h2 _ _ e2 p z
    · cases e
theorem gok_tp {vs : List Nat} {n : Nat} {g : List PV → Option (List (Nat × PV))} (h : GsOk vs g) : GOk vs (gTp n g) := fun x as e p hp => by
  unfold gTp at e
  split at e
  · split at e
    · exact h _ _ e p hp
    · cases e
  · cases e
theorem wipe_set {σ : L2.St} {i : Nat} {x : Option V} : ∀ {vs : List Nat}, i ∈ vs → L2.wipe (σ.set i x) vs = L2.wipe σ vs
  | [], h => by cases h
  | v :: vs, h => by
    show (L2.wipe (σ.set i x) vs).set v none = (L2.wipe σ vs).set v none
    by_cases z : i ∈ vs
    · rw [wipe_set z]
    · have e : i = v := by
        rcases List.mem_cons.mp h with e | e
        · exact e
        · exact absurd e z
      subst e
      have key : ∀ ws : List Nat, i ∉ ws → L2.wipe (σ.set i x) ws = (L2.wipe σ ws).set i x := by
        intro ws
        induction ws with
        | nil => intro _; rfl
        | cons w ws ih =>
          intro hn
          simp only [List.mem_cons, not_or] at hn
          show (L2.wipe (σ.set i x) ws).set w none = ((L2.wipe σ ws).set w none).set i x
          rw [ih hn.2, List.set_comm _ _ (fun q => hn.1 q)]
      rw [key vs z, List.set_set]
theorem wipe_sets : ∀ {bs : List (Nat × V)} {σ : L2.St} {vs : List Nat}, (∀ p ∈ bs, p.1 ∈ vs) → L2.wipe (setV bs σ) vs = L2.wipe σ vs
  | [], _, _, _ => rfl
  | (i, x) :: r, σ, vs, h => by
    show L2.wipe (setV r (σ.set i (some x))) vs = _
    rw [wipe_sets fun p hp => h p (List.mem_cons_of_mem _ hp), wipe_set (h (i, x) List.mem_cons_self)]
theorem RlA.slots {K : PySem.W.Frag} {H : Hp} {μ : List Addr} {vs : List Nat} : ∀ {a : List (Nat × PV)} {c : List (Nat × V)}, RlA K H μ a c → (∀ p ∈ a, p.1 ∈ vs) → ∀ p ∈ c, p.1 ∈ vs
  | _, _, .nil, _, p, hp => by cases hp
  | _, _, @RlA.cons _ _ _ i x v r s h t, q, p, hp => by
    rcases List.mem_cons.mp hp with e | e
    · rw [e]
      exact q (i, x) List.mem_cons_self
    · exact RlA.slots t (fun p hp => q p (List.mem_cons_of_mem _ hp)) p e
theorem wipe_wipe {σ : L2.St} : ∀ vs : List Nat, L2.wipe (L2.wipe σ vs) vs = L2.wipe σ vs := by
  have key : ∀ (ws : List Nat) (σ : L2.St) (vs : List Nat), (∀ i ∈ ws, i ∈ vs) → L2.wipe (L2.wipe σ ws) vs = L2.wipe σ vs := by
    intro ws
    induction ws with
    | nil => intro σ vs _; rfl
    | cons w ws ih =>
      intro σ vs h
      show L2.wipe ((L2.wipe σ ws).set w none) vs = _
      rw [wipe_set (h w List.mem_cons_self), ih σ vs fun i hi => h i (List.mem_cons_of_mem _ hi)]
  exact fun vs => key vs σ vs fun _ h => h
/-- an exception is not let out -/
def Out.ne {α : Type} : Out α → Out α
  | .err _ _ => .no
  | o => o
@[simp] theorem Out.ne_ok {α : Type} (a : α) (h : PH) : (Out.ok a h).ne = .ok a h := rfl
@[simp] theorem Out.ne_err {α : Type} (e : PErr) (h : PH) : (Out.err e h : Out α).ne = .no := rfl
@[simp] theorem Out.ne_no {α : Type} : (Out.no : Out α).ne = .no := rfl
abbrev W0 : WX := fun _ _ _ _ => False
/-- one behind the other, nothing is let out -/
theorem OutOk.bindN {B : Bs} {W : WX} {α β α' β' : Type} {rel : Hp → List Addr → α → β → Prop} {rel' : Hp → List Addr → α' → β' → Prop} {μ : List Addr} {H : Hp} {σ : L2.St} {σ' : L2.St} {W' : WX} {o : Out α} {k : α → PH → Out α'} {Q' : β' → Hp → Prop} {Q : β → Hp → Prop}
    (h : OutOk B W rel' μ H σ (o.ne.bind k) Q') (q : ∀ x ph μ' H' v, Ex μ H μ' H' → Wd B.K B.tbs μ' ph H' → rel H' μ' x v → OutOk B W rel' μ' H' σ (k x ph) Q' → Q v H') : OutOk B W' rel μ H σ' o Q := by
  cases o with
  | ok x ph => exact fun μ' H' v e w r => q x ph μ' H' v e w r (OutOk.ext h e)
  | err x ph => exact h.elim
  | no => exact h.elim
def JTs (B : Bs) (W : WX) (X : Cx) (ifs : List Expr) (f : DT) : Prop := PTs X ifs (tDT B W f)
def tYesD : DT := fun _ h => .ok true h
theorem jts_nil {X : Cx} {tbs : List Addr} {W : WX} : JTs (bs X tbs) W X [] tYesD := ⟨fun pins s σ H Q I ⟨μ, ps, ph, sr, wd, ok⟩ => (pts_nil (X := X)).run pins s σ H Q I (ok μ H true Ex.refl wd rfl)⟩
theorem jts_one {X : Cx} {tbs : List Addr} {W : WX} {c : Expr} {f : DT} (h : JT (bs X tbs) W X c f) : JTs (bs X tbs) W X [c] f := pts_one h
/-- the items one by one, the new list at n -/
def compItems (gs : List (Nat × List PV)) (g : GP) (t : DT) (e : DE) (n : Nat) (s : Sl) : List PV → PH → Out Unit
  | [], h => if okG gs h then .ok () h else .no
  | x :: r, h => if okG gs h then match g x with
      | some as => (t (setP as s) h).ne.bind fun b h => if b = true then (e (setP as s) h).ne.bind fun y h => match h[n]? with
          | some (.lst acc) => if acc.length < 16777216 then compItems gs g t e n s r (h.set n (.lst (acc ++ [y]))) else .no
          | _ => .no
        else compItems gs g t e n s r h
      | none => .no
    else .no
def eLc (it : DI) (g : GP) (t : DT) (e : DE) (vs : List Nat) : DE := fun s h => (it s h).bind fun p h => (compItems p.1 g t e h.length (wipeP s vs) p.2 (h ++ [.lst []])).bind fun _ h2 => .ok (.ref h.length) h2
section
variable {tbs : List Addr} {W : WX} {X : Cx} {tg iter elt : Expr} {pos : Pos}
theorem lc_ok {it : DI} {g : GP} {t : DT} {e : DE} {vs : List Nat} {σ : L2.St} {H : Hp} {Q : VK} (gok : GOk vs g) (h : tD (bs X tbs) W (eLc it g t e vs) σ H Q) :
    tLc (tDI (bs X tbs) W it) (gD X.K g) (tDT (bs X tbs) W0 t) (tD (bs X tbs) W0 e) vs σ H Q := by
  obtain ⟨μ, ps, ph, sr, wd, ok⟩ := h
  refine ⟨μ, ps, ph, sr, wd, OutOk.bind ok fun its ph1 μ1 H1 J e1 w1 wk ok1 => ?_⟩
  obtain ⟨gs, items⟩ := its
  dsimp only at wk ok1
  intro D hD
  obtain ⟨x0, w0, _⟩ := w1.newLst (xs := []) (vs := []) .nil hD
  have lenE : (ph1 ++ [MO.lst []]).length = ph1.length + 1 := by simp
  have atD : (μ1 ++ [D])[ph1.length]? = some D := by rw [← w1.len]; simp
  have ok2 := OutOk.ext ok1 x0
  refine ⟨fun i m H => m = items.length - i ∧ i ≤ items.length ∧ ∃ μ ph, Ex (μ1 ++ [D]) (upd H1 D (.lst [])) μ H ∧ Wd X.K tbs μ ph H ∧ OutOk (bs X tbs) W (fun H' μ' => Rl X.K H' μ') μ H σ ((compItems gs g t e ph1.length (wipeP ps vs) (items.drop i) ph).bind fun _ h2 => .ok (.ref ph1.length) h2) Q,
    ⟨items.length, by simp, Nat.zero_le _, _, _, Ex.refl, w0, ok2⟩, ?_⟩
  rintro i m H2 ⟨rfl, hi, μ2, ph2, e2, w2, ok2⟩
  have gOk : okG gs ph2 = true := by
    cases hz : okG gs ph2 with
    | true => rfl
    | false =>
      cases hd : items.drop i with
      | nil =>
        rw [hd] at ok2
        unfold compItems at ok2
        rw [hz] at ok2
        exact ok2.elim
      | cons x r =>
        rw [hd] at ok2
        unfold compItems at ok2
        rw [hz] at ok2
        exact ok2.elim
  have e12 : Ex μ1 H1 μ2 H2 := x0.trans e2
  by_cases lt : i < items.length
  · refine .inr ⟨wk.goes i H2 μ2 ph2 lt e12 w2 gOk, _, fun H' h => ⟨items.length - (i + 1), by omega, rfl, lt, h⟩, fun x H' y => ?_⟩
    obtain ⟨px, hx, e3, w3, r3⟩ := wk.yields i H2 μ2 ph2 x H' lt e12 w2 gOk y
    have hd : items.drop i = px :: items.drop (i + 1) := by
      rw [List.drop_eq_getElem_cons lt]
      rw [List.getElem?_eq_getElem lt] at hx
      cases hx
      rfl
    rw [hd] at ok2
    unfold compItems at ok2
    rw [if_pos gOk] at ok2
    cases eg : g px with
    | none =>
      rw [eg] at ok2
      exact ok2.elim
    | some as =>
      rw [eg] at ok2
      dsimp only at ok2
      refine ⟨μ2, px, r3, as, eg, fun bs' rb => ⟨?_, μ2, setP as (wipeP ps vs), ph2, ((sr.mono (e1.trans (e12.trans e3))).wipe vs).sets rb, w3, ?_⟩⟩
      · rw [wipe_sets (rb.slots (gok _ _ eg)), wipe_wipe]
      · have ok3 := OutOk.ext ok2 e3
        have srB := ((sr.mono (e1.trans (e12.trans e3))).wipe vs).sets rb
        have ok4 : OutOk (bs X tbs) W (fun H' μ' => Rl X.K H' μ') μ2 H' σ ((t (setP as (wipeP ps vs)) ph2).ne.bind fun b h => ((if b = true then (e (setP as (wipeP ps vs)) h).ne.bind fun y h => match h[ph1.length]? with
            | some (.lst acc) => if acc.length < 16777216 then compItems gs g t e ph1.length (wipeP ps vs) (items.drop (i + 1)) (h.set ph1.length (.lst (acc ++ [y]))) else .no
            | _ => .no
          else compItems gs g t e ph1.length (wipeP ps vs) (items.drop (i + 1)) h)).bind fun _ h2 => .ok (.ref ph1.length) h2) Q := by
          cases et : t (setP as (wipeP ps vs)) ph2 with
          | ok b h => rw [et] at ok3; exact ok3
          | err b h => rw [et] at ok3; exact ok3
          | no => rw [et] at ok3; exact ok3
        refine OutOk.bindN ok4 fun b ph4 μ4 H4 c e4 w4 rb4 ok5 => ?_
        subst rb4
        cases b with
        | false => exact ⟨μ4, ph4, e2.trans (e3.trans e4), w4, ok5⟩
        | true =>
          simp only [if_true] at ok5 ⊢
          have ok6 : OutOk (bs X tbs) W (fun H' μ' => Rl X.K H' μ') μ4 H4 σ ((e (setP as (wipeP ps vs)) ph4).ne.bind fun y h => ((match h[ph1.length]? with
            | some (.lst acc) => if acc.length < 16777216 then compItems gs g t e ph1.length (wipeP ps vs) (items.drop (i + 1)) (h.set ph1.length (.lst (acc ++ [y]))) else .no
            | _ => .no)).bind fun _ h2 => .ok (.ref ph1.length) h2) Q := by
            cases et : e (setP as (wipeP ps vs)) ph4 with
            | ok b h => rw [et] at ok5; exact ok5
            | err b h => rw [et] at ok5; exact ok5
            | no => rw [et] at ok5; exact ok5
          refine ⟨μ4, _, ph4, srB.mono e4, w4, OutOk.bindN ok6 fun py ph5 μ5 H5 yv e5 w5 r5 ok7 => ?_⟩
          split at ok7
          · rename_i acc hacc
            split at ok7
            · rename_i hlt
              have hD5 : μ5[ph1.length]? = some D := (e2.trans (e3.trans (e4.trans e5))).pre _ _ atD
              obtain ⟨ws, q1, q2⟩ := w5.ob _ D _ hD5 hacc
              refine ⟨ws, q1, by rw [← q2.len, sizeLine_eq]; exact hlt, ?_⟩
              have nt : Ex μ5 H5 μ5 (upd H5 D (.lst (ws ++ [yv]))) := Ex.put q1 (by intro _ z; cases z) (by intro _ _ z; cases z)
              obtain ⟨w6, e6⟩ := w5.put (m := .lst (acc ++ [py])) hD5 (o := .lst (ws ++ [yv])) ⟨_, upd_same, (q2.snoc r5).mono nt⟩
              exact ⟨μ5, _, (e2.trans (e3.trans (e4.trans e5))).trans e6, w6, OutOk.ext ok7 e6⟩
            · exact ok7.elim
          · exact ok7.elim
  · have e3 : i = items.length := by omega
    subst e3
    refine .inl ⟨wk.stops H2 μ2 ph2 e12 w2 gOk, ?_⟩
    rw [List.drop_length] at ok2
    unfold compItems at ok2
    rw [if_pos gOk] at ok2
    exact ok2 μ2 H2 _ Ex.refl w2 (.ref (e2.pre _ _ atD))
theorem j_lc {ifs : List Expr} {scope : Scope} {own : List (Str × Nat)} {it : DI} {g : GP} {t : DT} {e : DE} (hc : X.calm = true) (hN : X.N.Nodup) (hi : JI (bs X tbs) W X tg iter it) (ok : BlkOk X.N X.env.scope scope own) (gok : GOk (own.map (·.2)) g)
    (hg : ∀ (s : Shared) (H : Hp) (C : Addr) (cl : List (Str × Addr)) (fp : List Addr), JG (X.blk s H scope (compEnvC scope cl C X.env) fp) tg g) (ht : ∀ (s : Shared) (H : Hp) (C : Addr) (cl : List (Str × Addr)) (fp : List Addr), JTs (bs X tbs) W0 (X.blk s H scope (compEnvC scope cl C X.env) fp) ifs t)
    (he : ∀ (s : Shared) (H : Hp) (C : Addr) (cl : List (Str × Addr)) (fp : List Addr), JE (bs X tbs) W0 (X.blk s H scope (compEnvC scope cl C X.env) fp) elt e) (hs : ∀ x, foldedSetIterable iter X.env x = pure x := by intro _; rfl) :
    JE (bs X tbs) W X (.ListComp elt [⟨tg, iter, ifs, 0⟩] scope pos) (eLc it g t e (own.map (·.2))) :=
  PE_imp (pe_lc (g := gD X.K g) (tt := tDT (bs X tbs) W0 t) (te := tD (bs X tbs) W0 e) hc hN hi ok hg ht he hs) fun σ H Q h => lc_ok gok h
end
end Dn
namespace Dn
open PySem PySem.Spec PyProof.Rows L2 GenW
open Sem (wp)

/-! ### tuple(a generator) -/
/-- a generator that has not begun; nothing is let out -/
def GMk (P : Program) (w : World) (k : Nat) (outer : List Env) (H : Hp) (s : Shared) (ex : List Addr) (Q : List V → Hp → Prop) (u : Value) (s' : Shared) : Prop :=
  ∃ (a : Addr) (g : Nat) (c : Code), u = .ref a ∧ s.heap.objs.size ≤ a ∧ a < s'.heap.objs.size ∧ s'.heap.IsGen a g ∧ s'.gens[g]? = some (.fresh c) ∧ s'.os = s.os ∧ AllBare s'.gens ∧ s'.heap.NoLimit ∧
    ∀ (A : Around) (S : Addr) (s2 : Shared), Room k A → A.guards = some [] → A.frames = some outer → s'.heap.objs.size ≤ S → (∀ b o, s'.heap.get? b = some o → s2.heap.get? b = some o) → (∃ c, s2.heap.get? S = some (lstObj #[] c)) → s2.os = s.os → AllBare s2.gens →
      Seg (model P w) A (REnd P w outer H s ex S a g Q (fun _ _ _ => False)) (YItem s S a g) sizeLine s2 c ((model P w).den c) [] s2
theorem Room.in2 {k : Nat} {A : Around} (r : Room (k + 1) A) : Room k A.in1 := r.in1
section
variable {P : Program} {w : World} {A : Around} {E : Value → Shared → Prop} {outer : List Env} {H : Hp} {sc s : Shared} {ex : List Addr} {Q : List V → Hp → Prop} {k : Nat} {u : Value}
theorem guards_in1 {A : Around} : A.in1.guards = A.guards := rfl
/-- what stands when it has ended -/
def Drained (P : Program) (w : World) (outer : List Env) (H : Hp) (sc : Shared) (ex : List Addr) (Q : List V → Hp → Prop) (acc : List Value) (s' : Shared) : Prop :=
  ∃ H' ys, Vals ys acc ∧ ys.length ≤ sizeLine ∧ s'.os = sc.os ∧ AllBare s'.gens ∧ Un (frs outer) ex H H' sc.heap s'.heap ∧ HOk P w H' s'.heap ∧ Q ys H'
theorem collect_drain {Q' : List Value → Shared → Prop} (hr : Room (k + 6) A) (hg : A.guards = some []) (hfr : A.frames = some outer) (h : GMk P w k outer H sc ex Q u s) (hQ : ∀ acc s', Drained P w outer H sc ex Q acc s' → Q' acc s') :
    wpAny (model P w) A (collect u) Q' E s := by
  obtain ⟨a, g, c, rfl, ha1, ha2, hgen, hgs, hos, hb, hl, wake⟩ := h
  have hSa : s.heap.objs.size ≠ a := Nat.ne_of_gt ha2
  have hcl : cStatics < s.heap.objs.size := let ⟨_, hn, _⟩ := hl; hn.lt
  have hSc : s.heap.objs.size ≠ cStatics := Nat.ne_of_gt hcl
  unfold collect
  refine wpAny_bind (wpAny_runValue (codeAny_builtin F.entry_proto_collect ?_))
  rw [Around.under_plainId F.plain_proto_collect _]
  show wpAny _ A.in1 (newList [] >>= fun l => again (.builtin "list.__iadd__" ⟨[l, .ref a], []⟩)) _ _ s
  refine wpAny_bind (wpAny_newObj_type ?_)
  refine wpAny_pure ⟨plainId_quiet F.plain_list_iadd _, codeAny_builtin F.entry_list_iadd ?_⟩
  rw [Around.under_plainId F.plain_list_iadd _]
  have gty : ∀ {h : Heap}, (∀ b o, s.heap.get? b = some o → h.get? b = some o) → h.IsGen a g := fun {h} q => hgen.keeps q
  have k1 : ∀ b o, s.heap.get? b = some o → (s.heap.push { cls := .type "list", data := .seq ([] : List Value).toArray }).get? b = some o := fun b o e => Heap.get?_push_of_some _ e
  have up : ∀ (h : Heap) (f : Obj → Obj), (∀ b o, s.heap.get? b = some o → h.get? b = some o) → ∀ b o, s.heap.get? b = some o → (h.update s.heap.objs.size f).get? b = some o := fun h f q b o e =>
    (Heap.get?_update_other _ _ (Ne.symm (Nat.ne_of_lt (Heap.lt_size e)))).trans (q b o e)
  show wpAny _ A.in1 (Builtin.List.listExtendWith (.ref s.heap.objs.size) (.ref a) (.ref s.heap.objs.size)) _ _ _
  unfold Builtin.List.listExtendWith
  refine wpAny_bind (wpAny_typeOf (Heap.IsGen.typeIs (s := { s with heap := _ }) (gty k1)) ?_)
  have h1 : Builtin.List.listSameRef (.ref s.heap.objs.size) (.ref a) = false := by simp [Builtin.List.listSameRef, hSa]
  have h2 : (Value.type "generator" == Value.type "list") = false := by decide
  have h3 : (Value.type "generator" == Value.type "tuple") = false := by decide
  simp only [h1, h2, h3, Bool.or_false, Bool.false_eq_true, if_false]
  refine wpAny_bind (wpAny_pyIter_gen (s := { s with heap := _ }) (gty k1) ?_)
  refine wpAny_bind (wpAny_holding ?_)
  unfold Builtin.List.listLengthHint
  refine wpAny_bind (wpAny_specialOf (Heap.IsGen.typeIs (s := { s with heap := _ }) (gty k1)) F.gen_no_len ?_)
  show wpAny _ A.in1 (specialOf (Value.ref a) (Str.ofString "__length_hint__") >>= _) _ _ _
  refine wpAny_bind (wpAny_specialOf (Heap.IsGen.typeIs (s := { s with heap := _ }) (gty k1)) F.gen_no_hint ?_)
  refine wpAny_pure ?_
  show wpAny _ A.in1 (rule "list.extend.makes-room" >>= fun _ => Builtin.List.listTouch (.ref s.heap.objs.size) >>= fun _ =>
    again (.builtin "list.extend.loop" ⟨[.ref s.heap.objs.size, .ref a, .ref s.heap.objs.size], []⟩)) _ _ _
  refine wpAny_bind (wpAny_rule ?_)
  have hS₁ : (s.heap.push { cls := .type "list", data := .seq ([] : List Value).toArray }).get? s.heap.objs.size = some { cls := .type "list", data := .seq ([] : List Value).toArray } := Heap.get?_push_size _ rfl
  refine wpAny_bind ?_
  show wpAny _ A.in1 (updateSeq s.heap.objs.size (·.push .none) >>= fun _ => updateSeq s.heap.objs.size (·.pop)) _ _ _
  refine wpAny_bind (wpAny_updateSeq hS₁ rfl ?_)
  have hS₂ := Heap.get?_update_self (Obj.mapSeq (·.push Value.none)) hS₁ rfl
  refine wpAny_updateSeq hS₂ rfl ?_
  have hS₃ := Heap.get?_update_self (Obj.mapSeq (·.pop)) hS₂ rfl
  have k4 := up _ (Obj.mapSeq (·.pop)) (up _ (Obj.mapSeq (·.push Value.none)) k1)
  refine wpAny_pure ⟨plainId_quiet F.plain_extend_loop _, ?_⟩
  refine drain (P := P) (w := w) (outer := outer) (H := H) (sc := sc) (ex := ex) (Q := Q) (EX := fun _ _ _ => False) (A := A) (g := g) hr.hd (by have := hr.dp; show A.depth < _; omega) hSa hSc
    (fun s' acc c H' ys q1 q2 q3 q4 q5 q6 q7 q8 q9 => ?_) (fun e s' hc => ?_) sizeLine _ (gty k4) (hl.keeps k4) ⟨_, hgs, rfl, ?_⟩
  · show wpAny _ A (load s.heap.objs.size >>= _) _ _ s'
    exact wpAny_bind (wpAny_load q1 (wpAny_pure (hQ _ s' ⟨H', ys, q2, q3, q4, q5, q6, q7, q9⟩)))
  · obtain ⟨_, _, _, _, _, _, _, _, _, _, _, _, z⟩ := hc
    exact z.elim
  · refine wake _ _ _ ⟨hr.hd, ?_, ?_⟩ hg hfr (Nat.le_refl _) k4 ⟨_, hS₃⟩ hos (allBare_setGen (s := { s with heap := _ }) hb rfl)
    · have := hr.dp
      show A.depth + 3 * k + 5 < _
      omega
    · have := hr.un
      show A.units + 1 + 1 + 16 * k + 200 < _
      omega
theorem tuple_drain {Q' : Value → Shared → Prop} (hr : Room (k + 9) A) (hg : A.guards = some []) (hfr : A.frames = some outer) (h : GMk P w k outer H sc ex Q u s)
    (hQ : ∀ (acc : List Value) s', Drained P w outer H sc ex Q acc s' → Q' (.ref s'.heap.objs.size) { s' with heap := s'.heap.push { cls := .type "tuple", data := .seq acc.toArray } }) :
    wpAny (model P w) A (call (.type "tuple") [u]) Q' E s := by
  have hty : s.TypeIs u "generator" := by
    obtain ⟨a, g, c, rfl, _, _, hgen, _⟩ := h
    exact hgen.typeIs
  have hsub := sub_tuple_self
  have hinit := init_tuple_lookup
  have hmh := madeHere_tuple
  refine callType_codes (Q₁ := fun obj s₁ => s₁.TypeIs obj "tuple" ∧ Q' obj s₁) F.called_tuple (F.typeCall_tuple_1 _) F.entry_object_init ?_ fun obj s₁ h₁ => ?_
  · refine codeAny_of_tree ?_
    show wpAny _ _ (do checkBuiltinCall "tuple.__new__" ⟨[.type "tuple", u], []⟩; again (.builtin "tuple.__new__" ⟨[.type "tuple", u], []⟩)) _ _ s
    refine wpAny_bind (wpAny_of_eq (F.newCall_tuple_1 _) (wpAny_pure ⟨plainId_quiet F.plain_tuple_new _, codeAny_builtin F.entry_tuple_new ?_⟩))
    rw [Around.under_plainId F.plain_tuple_new _]
    have hr2 : Room (k + 6) A.in1.in1 := ((hr.mono (by omega : k + 6 + 1 + 1 ≤ k + 9)).in1).in1
    have col : ∀ {Q2 : List Value → Shared → Prop} {E2 : Value → Shared → Prop}, (∀ acc s', Drained P w outer H sc ex Q acc s' → Q2 acc s') → wpAny (model P w) A.in1.in1 (collect u) Q2 E2 s := fun q => collect_drain hr2 hg hfr h q
    wp_walk using wpAny_typeOf hty, col
    intro acc s' d
    show wpAny _ _ (Builtin.Tuple.tupleExact acc.toArray >>= fun v => ret v) _ _ _
    unfold Builtin.Tuple.tupleExact
    have hz : acc.length ≤ sizeLine := by
      obtain ⟨_, ys, r, z, _⟩ := d
      rw [← r.length]
      exact z
    refine wpAny_bind (wpAny_newObj_type ?_ (by show acc.toArray.size ≤ sizeLine; rw [List.size_toArray]; exact hz))
    exact wpAny_pure ⟨⟨_, Heap.get?_push_size _ rfl, rfl⟩, hQ acc s' d⟩
  · exact ⟨h₁.1, F.args_object_init_2 obj _, object_init_meets F.called_tuple.init.lookup F.called_tuple.made (by decide) P w A.in1 _ s₁ ⟨h₁.1, rfl, h₁.2⟩⟩
end
end Dn
namespace Dn
open PySem PySem.Spec PyProof.Rows L2 GenW GxR
open Sem (wp)

/-! ### a generator expression's own frame -/
structure GenOk (N : List Str) (sc scope : Scope) (own : List (Str × Nat)) : Prop where
  kind : scope.kind = .function
  co : scope.isCoroutine = false
  cell : ∀ y ∈ scope.names, y.2 ≠ .cell
  dot : scope.names.lookup (".0" : Str) = some NameKind.local
  uniq : ∀ y ∈ scope.names, scope.names.lookup y.1 = some y.2
  ix : ∀ p ∈ own, N[p.2]? = some p.1
  free : ∀ y ∈ scope.names, y.2 = .free → sc.names.lookup y.1 = some .cell ∨ sc.names.lookup y.1 = some .free
  own : ∀ y ∈ scope.names, y.2 = .local → y.1 ∈ own.map (·.1) ∨ y.1 ∉ N
def gnkC (N : List Str) (sc scope : Scope) (own : List (Str × Nat)) : Bool :=
  decide (scope.kind = .function) && decide (scope.isCoroutine = false) && (scope.names.all fun y => decide (y.2 ≠ .cell)) && decide (scope.names.lookup (".0" : Str) = some NameKind.local) && (scope.names.all fun y => decide (scope.names.lookup y.1 = some y.2)) &&
    (own.all fun p => decide (N[p.2]? = some p.1)) && (scope.names.all fun y => decide (y.2 = .free → sc.names.lookup y.1 = some .cell ∨ sc.names.lookup y.1 = some .free)) && (scope.names.all fun y => decide (y.2 = .local → y.1 ∈ own.map (·.1) ∨ y.1 ∉ N))
theorem genOk_by {N : List Str} {sc scope : Scope} {own : List (Str × Nat)} (h : gnkC N sc scope own = true) : GenOk N sc scope own := by
  unfold gnkC at h
  simp only [Bool.and_eq_true, List.all_eq_true, decide_eq_true_eq] at h
  obtain ⟨⟨⟨⟨⟨⟨⟨h1, h2⟩, h3⟩, h4⟩, h5⟩, h6⟩, h7⟩, h8⟩ := h
  exact ⟨h1, h2, h3, h4, h5, h6, h7, h8⟩
/-- the context of its code, woken in A; s, H: the state when it was made -/
abbrev gx (X : Cx) (s : Shared) (H : Hp) (A : Around) (genv : Env) (fp : List Addr) (pn : List (Addr × Obj)) : Cx :=
  { X with s_0 := s, H_0 := H, A := A.deeper genv, env := genv, outer := X.stack, stack := genv :: X.stack, ex := fp, fn := fun _ => false, calm := true, pn := pn, xe := fun _ _ => False }
section
variable {X : Cx} {pins : List (Addr × Obj)} {σ : L2.St} {H : Hp} {s s2 : Shared} {scope : Scope} {own : List (Str × Nat)} {fp : List Addr} {pn : List (Addr × Obj)} {A : Around} {code : Value}
theorem gx_start (I : Inv X pins σ H s) (ok : GenOk X.N X.env.scope scope own) (hN : X.N.Nodup) (hfp : ∀ b ∈ fp, FpOk X pins H b ∧ b < s.heap.objs.size) (k : ∀ b o, s.heap.get? b = some o → s2.heap.get? b = some o) (hn : ∃ m, s2.heap.Ns s.heap.objs.size m) (os : s2.os = s.os) (ba : AllBare s2.gens)
    (hA : A.frames = some X.stack) (hd : A.handled = none) (hp : ∀ p ∈ pn, s2.heap.get? p.1 = some p.2 ∧ H p.1 = none ∧ p.1 ≠ s.heap.objs.size ∧ p.1 ∉ frs X.stack ∧ ∀ v, p.2.data ≠ .cell v) :
    Inv (gx X s H A (genEnv scope (cloFrom X.env.cells scope.names []) s.heap.objs.size code builtinsNs X.env) fp pn) [] (L2.wipe σ (own.map (·.2))) H s2 := by
  have hfree : ∀ y ∈ scope.names, y.2 = .free → ∃ c, X.env.cells.lookup y.1 = some c := fun y hy e => by
    rcases ok.free y hy e with k | k
    · exact I.ok.has _ (.inl k)
    · exact I.ok.has _ (.inr k)
  have cm : ∀ {y c}, (y, c) ∈ cloFrom X.env.cells scope.names [] → X.env.cells.lookup y = some c ∧ c < s.heap.objs.size := fun {y c} hm => by
    rcases cloFrom_mem hm with hm | ⟨h1, rfl⟩
    · cases hm
    · obtain ⟨c, hc⟩ := hfree _ h1 rfl
      rw [hc]
      obtain ⟨w, z⟩ := I.cell _ _ hc
      exact ⟨rfl, z.lt⟩
  have cl : ∀ {y c}, (cloFrom X.env.cells scope.names []).lookup y = some c → X.env.cells.lookup y = some c ∧ c < s.heap.objs.size := fun {y c} e => cm (PySem.mem_of_lookup e)
  have look : ∀ {y}, scope.names.lookup y = some .free → ∃ c, (cloFrom X.env.cells scope.names []).lookup y = some c ∧ X.env.cells.lookup y = some c := fun {y} hl => by
    obtain ⟨c', e'⟩ := mem_lookup (cloFrom_has (cells := X.env.cells) (acc := []) (PySem.mem_of_lookup hl))
    exact ⟨c', e', (cl e').1⟩
  refine ⟨⟨I.ok.mod, ok.kind, I.ok.glob, rfl, Nat.le_refl _, fun y z c e1 e2 => I.ok.inj y z c (cl e1).1 (cl e2).1, fun y hy => ?_, fun y c z => absurd z Bool.false_ne_true, fun _ => hd, Around.frames_deeper hA, .inr ⟨rfl, rfl⟩, fun b hb => ⟨?_, fun y c e z => ?_⟩, I.bs, Nat.le_trans I.ok.bsz I.sz, fun b o e hb => ?_, fun b hb z => ?_, I.stack, I.stkFree⟩,
    os, ba, Un.kept k, ?_, fun y c e => ?_, I.hok.fresh (Nat.le_refl _), fun y c e => I.freeC y c (cl e).1, fun p h => ?_, I.hok.kept k, by rw [wipe_length]; exact I.len⟩
  · rcases hy with hy | hy
    · exact absurd rfl (ok.cell _ (PySem.mem_of_lookup (show scope.names.lookup y = some .cell from hy)))
    · obtain ⟨c, h1, _⟩ := look (show scope.names.lookup y = some .free from hy)
      exact ⟨c, h1⟩
  · exact Nat.ne_of_lt (hfp b hb).2
  · exact (hfp b hb).1.2.2.2.2.1 y c (cl e).1 z
  · rcases (hfp b hb).1.2.2.2.1 with z | z
    · exact I.ok.noex b o e z
    · exact absurd (Nat.lt_of_lt_of_le (Heap.lt_size e) (Nat.le_trans I.ok.bsz z)) (Nat.lt_irrefl _)
  · rcases List.mem_cons.mp (I.stkSub b z) with z | z
    · exact (hfp b hb).1.2.1 z
    · exact (hfp b hb).1.2.2.1 z
  · obtain ⟨m, hm⟩ := hn
    refine ⟨m, hm, fun i y av e1 e2 e3 => ?_⟩
    obtain ⟨e2, hne⟩ := wipe_some e2
    have e3 : Vis scope y := e3
    have hfr : scope.names.lookup y = some .free := by
      rcases e3 with e3 | e3 | e3
      · rcases ok.own _ (PySem.mem_of_lookup e3) rfl with e' | e'
        · obtain ⟨p, hp, hpy⟩ := List.mem_map.mp e'
          have e4 := ok.ix p hp
          have : p.1 = y := hpy
          rw [this] at e4
          exact absurd (List.mem_map.mpr ⟨p, hp, nodup_ix hN e4 e1⟩) hne
        · exact absurd (List.mem_of_getElem? e1) e'
      · exact absurd rfl (ok.cell _ (PySem.mem_of_lookup e3))
      · exact e3
    obtain ⟨mo, hno, hl⟩ := I.loc
    have hvis : Vis X.env.scope y := (ok.free _ (PySem.mem_of_lookup hfr) rfl).elim (fun k => .inr (.inl k)) (fun k => .inr (.inr k))
    obtain ⟨w, r, q⟩ := hl i y av e1 e2 hvis
    refine ⟨w, r, .inr ⟨.inr hfr, ?_⟩⟩
    obtain ⟨c, h1, h2⟩ := look hfr
    rcases q with ⟨k', _⟩ | ⟨_, c', e', z⟩
    · have k' : X.env.scope.names.lookup y = some .local := k'
      rcases ok.free _ (PySem.mem_of_lookup hfr) rfl with k2 | k2 <;> rw [show X.env.scope.names.lookup y = _ from k2] at k' <;> cases k'
    · rw [h2] at e'
      cases e'
      exact ⟨c, h1, z.keeps k⟩
  · obtain ⟨w, z⟩ := I.cell y c (cl e).1
    exact ⟨w, z.keeps k⟩
  · have h' : p ∈ pn := by simpa using h
    exact hp p h'
end

theorem over_genS {A : Around} {elt : Expr} {gs : List Comprehension} {sc : Scope} {pos : Pos} {it acc : Value} {env : Env} : A.over (.compStart (.GeneratorExp elt gs sc pos) 0 it acc env) [] = A.deeper env := by
  first
    | rfl
    | (obtain ⟨hd, d, fr, gs, u⟩ := A; simp [Around.over, Around.deeper, marksOver, frameCount, unitsOf, envsOf, guardsOf, pushEnvs, pushGuards, Code.envs, Code.env?, Code.isFrame, Code.guards, Code.isGuard, Code.weight, Code.frames, Code.isCreation, Code.isCaller, Code.cUnits])
theorem over_genL {A : Around} {elt : Expr} {gs : List Comprehension} {sc : Scope} {pos : Pos} {it acc : Value} {env : Env} : A.over (.compLoop (.GeneratorExp elt gs sc pos) 0 it acc env) [] = A.deeper env := by
  first
    | rfl
    | (obtain ⟨hd, d, fr, gs, u⟩ := A; simp [Around.over, Around.deeper, marksOver, frameCount, unitsOf, envsOf, guardsOf, pushEnvs, pushGuards, Code.envs, Code.env?, Code.isFrame, Code.guards, Code.isGuard, Code.weight, Code.frames, Code.isCreation, Code.isCaller, Code.cUnits])
/-- what it hands out, walking J; vs: its own slots; C: what is wanted at the end -/
def GoX (J : It) (g : TG) (tt : TT) (te : TE) (vs : List Nat) (σ : L2.St) (C : List V → Hp → Prop) (W : Nat → Nat → List V → Hp → Prop) : Prop := ∀ i m ys H, W i m ys H →
  (J.stop i H ∧ C ys H) ∨ (J.go i H ∧ ∃ Nx : List V → Hp → Prop, (∀ ys' H', Nx ys' H' → ∃ m', m' < m ∧ W (i + 1) m' ys' H') ∧ ∀ x H', J.yld i H x H' → g x (L2.wipe σ vs) H' fun σ2 H2 => L2.wipe σ2 vs = L2.wipe σ vs ∧ tt σ2 H2 fun b H3 =>
    if b = true then te σ2 H3 fun y H4 => ys.length < sizeLine ∧ Nx (ys ++ [y]) H4 else Nx ys H3)
/-- its end -/
def EndX (X : Cx) (S : Addr) (C : List V → Hp → Prop) : GenEnd := fun n _ r s => r = .ok .next ∧ ∃ (ys : List V) (acc : Array Value) (c : Nat) (σ' : L2.St) (H' : Hp), n + ys.length = sizeLine ∧ Vals ys acc.toList ∧ Inv X [(S, lstObj acc c)] σ' H' s ∧ C ys H'
section
variable {X : Cx} {σ : L2.St} {s0 : Shared} {H0 : Hp} {A : Around} {genv : Env} {fp : List Addr} {pn : List (Addr × Obj)} {elt tg iter : Expr} {ifs : List Expr} {scope : Scope} {pos : Pos} {J : It} {it S : Addr} {tn : Nat → Heap → Prop} {g : TG} {tt : TT} {te : TE} {vs : List Nat} {C : List V → Hp → Prop} {W : Nat → Nat → List V → Hp → Prop}
theorem gx_loop (T : Turn X.prog X.w X.K tg J fp it tn) (hco : genv.scope.isCoroutine = false) (hSfp : ∀ b ∈ fp, b ≠ S) (hpn : ∀ p ∈ pn, p.1 ≠ S) (hpf : ∀ p ∈ pn, p.1 ∉ fp) (hA : Apart (gx X s0 H0 A genv fp pn) S)
    (hg : PG (gx X s0 H0 A genv fp pn) tg g) (ht : PTs (gx X s0 H0 A genv fp pn) ifs tt) (he : PE (gx X s0 H0 A genv fp pn) elt te) (go : GoX J g tt te vs σ C W) :
    ∀ (m n i : Nat) (ys : List V) (s₀ s : Shared) (H : Hp) (acc : Array Value) (c : Nat), n + ys.length = sizeLine → W i m ys H → Vals ys acc.toList → Inv (gx X s0 H0 A genv fp pn) [(S, lstObj acc c)] (L2.wipe σ vs) H s → tn i s.heap → (∀ b ∈ fp, H b = none) →
      Seg (model X.prog X.w) A (EndX (gx X s0 H0 A genv fp pn) S C) (GY (gx X s0 H0 A genv fp pn) S) n s₀ (.compLoop (.GeneratorExp elt [⟨tg, iter, ifs, 0⟩] scope pos) 0 (.ref it) .none genv)
        ((model X.prog X.w).den (.compLoop (.GeneratorExp elt [⟨tg, iter, ifs, 0⟩] scope pos) 0 (.ref it) .none genv)) [] s := by
  have stat : ∀ {pins' : List (Addr × Obj)} {σ' : L2.St} {H' : Hp} {s' : Shared}, Inv (gx X s0 H0 A genv fp pn) pins' σ' H' s' → (∀ p ∈ pins', p.1 ∉ fp) → (∀ b ∈ fp, H' b = none) → ∀ b ∈ fp, FpOk (gx X s0 H0 A genv fp pn) pins' H' b := fun {pins' σ' H' s'} I' hq hn b hb =>
    ⟨hn b hb, (I'.ok.exf b hb).1, I'.ok.exfs b hb, .inl hb, fun x c e => (I'.ok.exf b hb).2 x c e, fun p hp z => by
      rcases List.mem_append.mp hp with h | h
      · exact hpf p h (z ▸ hb)
      · exact hq p h (z ▸ hb)⟩
  have sOut : ∀ acc c, ∀ p ∈ [(S, lstObj acc c)], p.1 ∉ fp := fun acc c p hp hb => by
    rw [List.mem_singleton.mp hp] at hb
    exact hSfp S hb rfl
  intro m
  induction m using Nat.strongRecOn with
  | ind m ih =>
    intro n i ys s₀ s H acc c hn w r I st fr
    refine (show Seg _ A _ _ _ s₀ _ ((compTurn (.GeneratorExp elt [⟨tg, iter, ifs, 0⟩] scope pos) 0 (.ref it) .none genv).onRaise (leaving genv)) [] s from ?_)
    rw [compTurn_gen, Sem.onRaise_eq_wrap]
    refine seg_bind_wrap (wpAny_standAt (seg_bind_wrap ?_))
    rw [over_genL]
    rcases go i m ys H w with ⟨stop, hC⟩ | ⟨goes, Nx, hNx, step⟩
    · refine thn (T.done (gx X s0 H0 A genv fp pn) rfl rfl rfl rfl i _ s _ H _ I (stat I (sOut acc c) fr) st stop) fun r' s1 ⟨hr, I1⟩ => ?_
      subst hr
      exact seg_end (.ok .next) ⟨rfl, ys, acc, c, _, H, hn, r, I1, hC⟩
    · refine thn (T.item (gx X s0 H0 A genv fp pn) rfl rfl rfl rfl i _ s _ H _ I (stat I (sOut acc c) fr) st goes) fun r' s1 ⟨u, hr, h1⟩ => ?_
      subst hr
      refine seg_bind_wrap ?_
      rw [over_genL]
      refine thn h1 fun _ s2 ⟨x, H2, I2, r2, y2, st2, fr2⟩ => ?_
      have I2' := I2.pinned (stat I2 (sOut acc c) fr2) (T.obj _ _ st2)
      refine seg_bind_wrap ?_
      rw [over_genL]
      refine thnF (hg.run _ s2 _ H2 x u _ I2' r2 (step x H2 y2)) fun _ s3 ⟨σ3, H3, I3, hw3, q3⟩ => ?_
      refine seg_bind_wrap ?_
      rw [over_genL]
      refine thnF (ht.run _ s3 σ3 H3 _ I3 q3) fun b s4 ⟨H4, I4, q4⟩ => ?_
      have pin' : ∀ {pins' : List (Addr × Obj)} {σ' : L2.St} {s' : Shared} {H' : Hp}, Inv (gx X s0 H0 A genv fp pn) (pins' ++ pinsAt fp s2.heap) σ' H' s' → ∀ b ∈ fp, ∀ o, s2.heap.get? b = some o → s'.heap.get? b = some o ∧ H' b = none := fun {pins' σ' s' H'} I' b hb o e =>
        let z := I'.pin (b, o) (List.mem_append_right _ (List.mem_append_right _ (mem_pinsAt hb e)))
        ⟨z.1, z.2.1⟩
      have fin : ∀ {n' : Nat} {ys' : List V} {s₀' s' : Shared} {H' : Hp} {acc' : Array Value} {c' : Nat}, n' + ys'.length = sizeLine → Vals ys' acc'.toList → Inv (gx X s0 H0 A genv fp pn) ([(S, lstObj acc' c')] ++ pinsAt fp s2.heap) σ3 H' s' → Nx ys' H' →
          Seg (model X.prog X.w) A (EndX (gx X s0 H0 A genv fp pn) S C) (GY (gx X s0 H0 A genv fp pn) S) n' s₀' (.compLoop (.GeneratorExp elt [⟨tg, iter, ifs, 0⟩] scope pos) 0 (.ref it) .none genv) (.pure (.again (.compLoop (.GeneratorExp elt [⟨tg, iter, ifs, 0⟩] scope pos) 0 (.ref it) .none genv))) [] s' := fun {n' ys' s₀' s' H' acc' c'} hn' r' I' nx => by
        obtain ⟨m', hm, w'⟩ := hNx ys' H' nx
        have hl : (L2.wipe σ vs).length = σ3.length := by rw [← hw3, wipe_length]
        refine seg_again rfl (ih m' hm n' (i + 1) ys' s₀' s' H' acc' c' hn' w' r' ((I'.unpinned (pins := [(S, lstObj acc' c')])).weak hl fun j v e => ?_) (T.keep _ _ _ st2 fun b hb o e => (pin' I' b hb o e).1) fun b hb => ?_)
        · rw [← hw3] at e
          exact (wipe_some e).1
        · obtain ⟨o, e, _⟩ := T.obj _ _ st2 b hb
          exact (pin' I' b hb o e).2
      cases b with
      | false =>
        simp only [Bool.false_eq_true, if_false] at q4 ⊢
        exact fin hn r I4 q4
      | true =>
        simp only [if_true] at q4 ⊢
        have gives : ∀ v, yieldOut genv v = yieldValue v := fun v => by simp only [yieldOut, hco, Bool.false_eq_true, if_false]
        simp only [gives]
        rw [Sem.bind_eq_wrap', Sem.bind_eq_wrap', Sem.wrap_wrap, Sem.wrap_wrap]
        refine seg_wrap ?_
        rw [over_genL]
        refine thnF (he.run _ s4 σ3 H4 _ I4 q4) fun z s5 ⟨yv, H5, I5, r5, lt5, nx⟩ => ?_
        obtain ⟨n, rfl⟩ : ∃ k, n = k + 1 := ⟨n - 1, by omega⟩
        refine seg_at (seg_yield rfl rfl rfl ?_)
        have G5 : GI (gx X s0 H0 A genv fp pn) S (pinsAt fp s2.heap) ys σ3 H5 s5 := ⟨acc, c, r, I5⟩
        refine ⟨ys, yv, pinsAt fp s2.heap, σ3, H5, hn, r5, G5, fun s6 z6 => ?_⟩
        obtain ⟨acc6, c6, r6, I6⟩ := G5.woken hpn (fun p hp e => by
          obtain ⟨hb, _⟩ := of_pinsAt hp
          exact hSfp _ hb e) hA r5 z6
        exact fin (by rw [List.length_append, List.length_singleton]; omega) r6 I6 nx
end
end Dn
namespace Dn
open PySem PySem.Spec PyProof.Rows L2 GenW GxR
open Sem (wp)
def tGx (P : Addr) (wi : TI) (g : TG) (tt : TT) (te : TE) (vs : List Nat) : L2.St → Hp → (List V → Hp → Prop) → Prop := fun σ H C => wi σ H fun J H1 => TabG H1 P ∧ ∀ H2, Tabbed P H1 H2 → ∃ W : Nat → Nat → List V → Hp → Prop, (∃ m, W 0 m [] H2) ∧ GoX J g tt te vs σ C W
section
variable {X : Cx} {pins : List (Addr × Obj)} {σ : L2.St} {H : Hp} {s : Shared} {scope : Scope} {own : List (Str × Nat)} {elt tg iter : Expr} {ifs : List Expr} {pos : Pos} {c P : Addr} {k : Nat} {wi : TI} {g : TG} {tt : TT} {te : TE} {C : List V → Hp → Prop}
theorem gx_made {fp : List Addr} {J : It} {it : Addr} {tn : Nat → Heap → Prop} {W : Nat → Nat → List V → Hp → Prop} {code : Value} {h' : Heap} {tk : Nat} {nm qn : Value} (hN : X.N.Nodup) (S : GenOk X.N X.env.scope scope own) (I : Inv X pins σ H s) (T : Turn X.prog X.w X.K tg J fp it tn) (st : tn 0 s.heap) (hfp : ∀ b ∈ fp, FpOk X pins H b)
    (hg : ∀ (s : Shared) (H : Hp) (A : Around) (C : Addr) (cl : List (Str × Addr)) (code : Value) (fp : List Addr) (pn : List (Addr × Obj)), PG (gx X s H A (genEnv scope cl C code builtinsNs X.env) fp pn) tg g)
    (ht : ∀ (s : Shared) (H : Hp) (A : Around) (C : Addr) (cl : List (Str × Addr)) (code : Value) (fp : List Addr) (pn : List (Addr × Obj)), Pl (gx X s H A (genEnv scope cl C code builtinsNs X.env) fp pn) k → PTs (gx X s H A (genEnv scope cl C code builtinsNs X.env) fp pn) ifs tt)
    (he : ∀ (s : Shared) (H : Hp) (A : Around) (C : Addr) (cl : List (Str × Addr)) (code : Value) (fp : List Addr) (pn : List (Addr × Obj)), Pl (gx X s H A (genEnv scope cl C code builtinsNs X.env) fp pn) k → PE (gx X s H A (genEnv scope cl C code builtinsNs X.env) fp pn) elt te)
    (w0 : ∃ m, W 0 m [] H) (go : GoX J g tt te (own.map (·.2)) σ C W)
    (hn' : ∃ m, h'.Ns s.heap.objs.size m) (same : Heap.SameBut s.heap.objs.size (s.heap.push { cls := .type "frame", data := .dict #[] }) h') :
    GMk X.prog X.w (k + 1) X.stack H s fp C (.ref h'.objs.size) { s with gens := s.gens.push (.fresh (.compStart (.GeneratorExp elt [⟨tg, iter, ifs, 0⟩] scope pos) 0 (.ref it) .none (genEnv scope (cloFrom X.env.cells scope.names []) s.heap.objs.size code builtinsNs X.env))), toks := tk, heap := h'.push { cls := .type "generator", data := .fields #[.int s.gens.size 0, nm, qn] } } := by
  have size5 : h'.objs.size = s.heap.objs.size + 1 := by rw [same.1, Heap.size_push]
  have old5 : ∀ b o, s.heap.get? b = some o → h'.get? b = some o := fun b o e => same.extBut b o (Nat.ne_of_lt (Heap.lt_size e)) (Heap.get?_push_of_some _ e)
  have old6 : ∀ b o, s.heap.get? b = some o → (h'.push { cls := .type "generator", data := .fields #[.int s.gens.size 0, nm, qn] }).get? b = some o := fun b o e => Heap.get?_push_of_some _ (old5 b o e)
  have gAt : (h'.push { cls := .type "generator", data := .fields #[.int s.gens.size 0, nm, qn] }).get? h'.objs.size = some { cls := .type "generator", data := .fields #[.int s.gens.size 0, nm, qn] } := Heap.get?_push_size _ rfl
  refine ⟨h'.objs.size, s.gens.size, _, rfl, by omega, by show _ < (h'.push _).objs.size; rw [Heap.size_push]; exact Nat.lt_succ_self _, ⟨_, _, _, gAt, rfl, rfl, rfl⟩, Array.getElem?_push_size .., rfl, AllBare.push I.bare rfl, I.nolimit.keeps old6, ?_⟩
  intro A Sx s2 hrw hgd hfr hSx hk2 hSo hos hba
  have keep2 : ∀ b o, s.heap.get? b = some o → s2.heap.get? b = some o := fun b o e => hk2 b o (old6 b o e)
  have sz : ∀ b ∈ fp, b < s.heap.objs.size := fun b hb => by
    obtain ⟨o, e, _⟩ := T.obj _ _ st b hb
    exact Heap.lt_size e
  have hSx2 : h'.objs.size < Sx := by
    have z : (h'.push { cls := .type "generator", data := .fields #[.int s.gens.size 0, nm, qn] }).objs.size ≤ Sx := hSx
    rw [Heap.size_push] at z
    exact z
  have hSs : s.heap.objs.size < Sx := Nat.lt_trans (by rw [size5]; exact Nat.lt_succ_self _) hSx2
  obtain ⟨cS, heS⟩ := hSo
  have young : ∀ b, s.heap.objs.size ≤ b → H b = none ∧ b ∉ frs X.stack := fun b hb => by
    refine ⟨I.hok.fresh hb, fun hm => ?_⟩
    rcases List.mem_cons.mp (I.stkSub b hm) with z | z
    · rw [z] at hb
      exact absurd (Nat.lt_of_lt_of_le I.lt hb) (Nat.lt_irrefl _)
    · exact I.nofs hb z
  have gAt2 := hk2 _ _ gAt
  have nsL : ∃ m, s2.heap.Ns s.heap.objs.size m := by
    obtain ⟨m, hm⟩ := hn'
    exact ⟨m, (hm.push _).keeps hk2⟩
  have I2 := gx_start (A := A) (code := code) (pn := [(h'.objs.size, { cls := .type "generator", data := .fields #[.int s.gens.size 0, nm, qn] })]) (s2 := s2) I S hN (fun b hb => ⟨hfp b hb, sz b hb⟩) keep2 nsL hos hba hfr hrw.hd (fun p hp => by
    rw [List.mem_singleton.mp hp]
    obtain ⟨y1, y2⟩ := young h'.objs.size (by omega)
    exact ⟨gAt2, y1, by show h'.objs.size ≠ _; omega, y2, fun v q => by cases q⟩)
  generalize hge : genEnv scope (cloFrom X.env.cells scope.names []) s.heap.objs.size code builtinsNs X.env = genv at I2 ⊢
  generalize hgo : ({ cls := .type "generator", data := .fields #[.int s.gens.size 0, nm, qn] } : Obj) = gob at I2 gAt gAt2 hk2 ⊢
  have hgoc : gob.cls = .type "generator" := by rw [← hgo]
  have hgod : gob.data = .fields #[.int s.gens.size 0, nm, qn] := by rw [← hgo]
  have hgos : gob.slots = #[] := by rw [← hgo]
  have pl : Pl (gx X s H A genv fp [(h'.objs.size, gob)]) k := ⟨hrw.deeper _, guards_deeper.trans hgd⟩
  have pg : PG (gx X s H A genv fp [(h'.objs.size, gob)]) tg g := by rw [← hge]; exact hg ..
  have pt : PTs (gx X s H A genv fp [(h'.objs.size, gob)]) ifs tt := by rw [← hge]; exact ht _ _ _ _ _ _ _ _ (by rw [hge]; exact pl)
  have pe : PE (gx X s H A genv fp [(h'.objs.size, gob)]) elt te := by rw [← hge]; exact he _ _ _ _ _ _ _ _ (by rw [hge]; exact pl)
  have locE : genv.locals = s.heap.objs.size := by rw [← hge]; rfl
  have coE : genv.scope.isCoroutine = false := by rw [← hge]; exact S.co
  have celE : genv.cells = cloFrom X.env.cells scope.names [] := by rw [← hge]; rfl
  have cellLt : ∀ y d, genv.cells.lookup y = some d → d < s.heap.objs.size := fun y d e => by
    rw [celE] at e
    rcases cloFrom_mem (PySem.mem_of_lookup e) with hm | ⟨h1, rfl⟩
    · cases hm
    · have hc : ∃ c, X.env.cells.lookup y = some c := by
        rcases S.free _ h1 rfl with k | k
        · exact I.ok.has _ (.inl k)
        · exact I.ok.has _ (.inr k)
      obtain ⟨d, hc⟩ := hc
      rw [hc]
      obtain ⟨w, z⟩ := I.cell _ _ hc
      exact z.lt
  have apart : Apart (gx X s H A genv fp [(h'.objs.size, gob)]) Sx := ⟨Nat.le_of_lt hSs, by show Sx ≠ genv.locals; rw [locE]; exact Nat.ne_of_gt hSs, fun y d e z => by
    have q := cellLt y d e
    rw [z] at q
    exact Nat.lt_irrefl _ (Nat.lt_trans q hSs)⟩
  have hpn : ∀ p ∈ [(h'.objs.size, gob)], p.1 ≠ Sx := fun p hp => by
    rw [List.mem_singleton.mp hp]
    exact Nat.ne_of_lt hSx2
  have hpf : ∀ p ∈ [(h'.objs.size, gob)], p.1 ∉ fp := fun p hp hb => by
    rw [List.mem_singleton.mp hp] at hb
    have q := sz _ hb
    have q2 : h'.objs.size < s.heap.objs.size := q
    rw [size5] at q2
    exact Nat.lt_irrefl _ (Nat.lt_trans (Nat.lt_succ_self _) q2)
  have I3 : Inv (gx X s H A genv fp [(h'.objs.size, gob)]) [(Sx, lstObj #[] cS)] (L2.wipe σ (own.map (·.2))) H s2 := I2.pins_of fun p hp => by
    rw [List.mem_singleton.mp hp]
    obtain ⟨y1, y2⟩ := young Sx (Nat.le_of_lt hSs)
    exact ⟨heS, y1, by show Sx ≠ genv.locals; rw [locE]; exact Nat.ne_of_gt hSs, y2, fun v q => by cases q⟩
  have st2 : tn 0 s2.heap := T.keep _ _ _ st fun b _ o e => keep2 b o e
  obtain ⟨m0, w0⟩ := w0
  have loop := gx_loop (pos := pos) (iter := iter) (scope := scope) T coE (fun b hb z => by
    have q := sz b hb
    rw [z] at q
    exact Nat.lt_irrefl _ (Nat.lt_trans q hSs)) hpn hpf apart pg pt pe go m0 sizeLine 0 [] s2 s2 H #[] cS (Nat.add_zero _) w0 .nil I3 st2 (fun b hb => (hfp b hb).1)
  have pinned : ∀ {ip : List (Addr × Obj)} {ys : List V} {s' : Shared} {σ' : L2.St} {H' : Hp}, GI (gx X s H A genv fp [(h'.objs.size, gob)]) Sx ip ys σ' H' s' → s'.heap.IsGen h'.objs.size s.gens.size := fun {ip ys s' σ' H'} hI => by
    obtain ⟨acc, cc, _, J⟩ := hI
    exact ⟨gob, nm, qn, (J.pin (h'.objs.size, gob) (List.mem_append_left _ (List.mem_singleton.mpr rfl))).1, hgoc, hgod, hgos⟩
  refine seg_imp (R := EndX (gx X s H A genv fp [(h'.objs.size, gob)]) Sx C) (Y := GY (gx X s H A genv fp [(h'.objs.size, gob)]) Sx) (fun n s₀ r s1' hR => ?_) (fun n s₀ v s1' kap kap' hkk hY => ?_) sizeLine ?_
  · obtain ⟨hr, ys, acc, cc, σ', H', hn, rv, J, hC⟩ := hR
    obtain ⟨z1, z2, _⟩ := J.pin (Sx, lstObj acc cc) (List.mem_append_right _ (List.mem_singleton.mpr rfl))
    exact .inl ⟨.inr hr, H', ys, acc, cc, J.os, J.bare, J.base, J.hok, z2, z1, rv, by omega, hC⟩
  · obtain ⟨ys, xx, ip, σ', H', hn, h2, hI, h3⟩ := hY
    obtain ⟨_, _, _, acc, cc, ra, ea⟩ := hI.at
    have hg := pinned hI
    obtain ⟨_, _, _, J⟩ := hI
    have hsz : acc.size = ys.length := by
      have e1 := ra.length
      have e2 : acc.toList.length = acc.size := by simp
      omega
    exact ⟨J.os, J.bare, J.nolimit, hg, ⟨acc, cc, ea, by rw [hsz]; exact hn⟩, fun s' z => hkk _ _ (h3 s' z)⟩
  · refine (show Seg _ A _ _ _ s2 _ ((compStart (.GeneratorExp elt [⟨tg, iter, ifs, 0⟩] scope pos) 0 (.ref it) .none genv).onRaise (leaving genv)) [] s2 from ?_)
    unfold compStart
    rw [Sem.onRaise_eq_wrap]
    refine (show Seg _ A _ _ _ s2 _ ((ask >>= _).wrap _ _ _ _) [] s2 from seg_bind_wrap (wpAny_askSetting ?_))
    split
    · exact seg_again rfl loop
    · refine seg_bind_wrap (wpAny_rule ?_)
      refine (show Seg _ A _ _ _ s2 _ ((standAt iter.pos >>= _).wrap _ _ _ _) [] s2 from ?_)
      exact seg_bind_wrap (wpAny_standAt (seg_bind_wrap (T.self _ 0 s2 _ _ st2 (seg_again rfl loop))))
end
end Dn
namespace Dn
open PySem PySem.Spec PyProof.Rows L2 GenW GxR
open Sem (wp)
def tTupX (P : Addr) (wi : TI) (g : TG) (tt : TT) (te : TE) (vs : List Nat) : TE := fun σ H Q => tGx P wi g tt te vs σ H fun ys H2 => ys.length ≤ sizeLine → ∀ p, H2 p = none → Q (.ref p) (upd H2 p (.tup ys))
section
variable {X : Cx} {scope : Scope} {own : List (Str × Nat)} {elt tg iter : Expr} {ifs : List Expr} {gpos q0 q3 : Pos} {c P : Addr} {k : Nat} {wi : TI} {g : TG} {tt : TT} {te : TE}
theorem pe_tupX (pl : Pl X (k + 10)) (hg0 : Gl X "tuple") (hm : X.mg "tuple" = none) (TB : TabB X.base X.mg c P) (hcode : X.env.code = .ref c) (hN : X.N.Nodup) (S : GenOk X.N X.env.scope scope own) (hi : PI X tg iter wi)
    (hg : ∀ (s : Shared) (H : Hp) (A : Around) (C : Addr) (cl : List (Str × Addr)) (code : Value) (fp : List Addr) (pn : List (Addr × Obj)), PG (gx X s H A (genEnv scope cl C code builtinsNs X.env) fp pn) tg g)
    (ht : ∀ (s : Shared) (H : Hp) (A : Around) (C : Addr) (cl : List (Str × Addr)) (code : Value) (fp : List Addr) (pn : List (Addr × Obj)), Pl (gx X s H A (genEnv scope cl C code builtinsNs X.env) fp pn) k → PTs (gx X s H A (genEnv scope cl C code builtinsNs X.env) fp pn) ifs tt)
    (he : ∀ (s : Shared) (H : Hp) (A : Around) (C : Addr) (cl : List (Str × Addr)) (code : Value) (fp : List Addr) (pn : List (Addr × Obj)), Pl (gx X s H A (genEnv scope cl C code builtinsNs X.env) fp pn) k → PE (gx X s H A (genEnv scope cl C code builtinsNs X.env) fp pn) elt te)
    (hs : ∀ v, genFold iter X.env v = pure v := by intro _; rfl)
    (hst : starEach [.GeneratorExp elt [⟨tg, iter, ifs, 0⟩] scope gpos] X.env = (false, eval (.GeneratorExp elt [⟨tg, iter, ifs, 0⟩] scope gpos) X.env) :: starEach [] X.env := by rfl) :
    PE X (.Call (.Name "tuple" q0) [.GeneratorExp elt [⟨tg, iter, ifs, 0⟩] scope gpos] [] q3) (tTupX P wi g tt te (own.map (·.2))) := by
  refine ⟨fun pins s σ H Q I h => ?_⟩
  have hfree : ∀ y ∈ scope.names, y.2 = .free → ∃ c, X.env.cells.lookup y.1 = some c := fun y hy e => by
    rcases S.free y hy e with k | k
    · exact I.ok.has _ (.inl k)
    · exact I.ok.has _ (.inr k)
  have room := pl.room
  refine wpAny_Call_Name_kw (ld_blt I hg0 hm PyProof.Rows.boot_tuple ?_)
  refine PyProof.Rows.callWith_type1 ?_ hst (by rfl)
  rw [hst]
  refine (show wpAny _ _ (spliced ((false, eval (.GeneratorExp elt [⟨tg, iter, ifs, 0⟩] scope gpos) X.env) :: backTo q3 (starEach [] X.env))) _ _ s from ?_)
  refine Calls.spliced_cons (wpAny_GeneratorExp_make S.co (closure_ok hfree) S.cell S.dot S.kind room.depth ?_ hs)
  refine thn (hi.run pins s σ H _ I h) fun v s1 hx => thn hx fun itv s2 h2 => ?_
  obtain ⟨it, fp, tn, J, H1, eit, I2, T, st2, f2, ⟨ps, hP, triples⟩, q⟩ := h2
  subst eit
  refine ⟨I2.nolimit, ?_⟩
  have P2 : s2.heap.get? P = some { cls := .none, data := .fields ps } := I2.hok P _ hP
  have cd : PySem.W.CodeHd s2.heap c P := TB.code.keeps fun b o look => I2.bk b o look
  have nfP : ∀ b ∈ fp, b ≠ P := fun b hb z => by
    have := (f2 b hb).1
    rw [z, hP] at this
    cases this
  have behind : ∀ (code : Value) (h3 : Heap) (tk : Nat) (ps3 : Array Value), Heap.ExtBut P s2.heap h3 → h3.get? P = some { cls := .none, data := .fields ps3 } → (∃ more, ps3 = ps ++ more) → TriplesOk ps3.toList →
      wpAny (model X.prog X.w) X.A (builtinsFor X.env.globals X.env.builtins) (fun bi s₄ => ∀ h', h'.Ns s₄.heap.objs.size (fun y => if y = ".0" then some (.ref it) else none) → Heap.SameBut s₄.heap.objs.size (s₄.heap.push { cls := .type "frame", data := .dict #[] }) h' →
          wpAny (model X.prog X.w) X.A (spliced (backTo q3 (starEach [] X.env))) (fun vs s₂ => wpAny (model X.prog X.w) X.A (call (Value.type "tuple") (Value.ref h'.objs.size :: vs)) (EP X pins σ Q) X.xe s₂) X.xe { s₄ with
            gens := s₄.gens.push (.fresh (.compStart (.GeneratorExp elt [⟨tg, iter, ifs, 0⟩] scope gpos) 0 (.ref it) .none (genEnv scope (cloFrom X.env.cells scope.names []) s₄.heap.objs.size code bi X.env))),
            toks := s₄.toks + 1 + 1 + 1,
            heap := h'.push { cls := .type "generator", data := .fields #[.int s₄.gens.size 0, .str "<genexpr>" (s₄.toks + 1), .str (X.env.qual ++ "<genexpr>") (s₄.toks + 1 + 1)] } }) X.xe { s2 with heap := h3, toks := tk } := by
    intro code h3 tk ps3 ext P3 more3 triples3
    obtain ⟨more, em⟩ := more3
    obtain ⟨bm, ob, b1, b2, b3, b4, b5, b6, b7, b8⟩ := TB.bm
    have keep3 : ∀ b o, b ≠ P → s2.heap.get? b = some o → h3.get? b = some o := fun b o nb look => ext b o nb look
    have I3 : Inv X pins σ (upd H1 P (.tbl (ps ++ more))) { s2 with heap := h3, toks := tk } := inv_tab (g' := s2.gens) (d' := s2.drawn) (t' := tk) I2 hP keep3 (by rw [← em]; exact P3) I2.bare
    refine wpAny_builtinsFor (m := X.mg) (by rw [I2.ok.glob]; exact (I2.mod.glob.keeps I2.bk).extBut ext TB.gP) b1 b2 (keep3 _ _ b4 (I2.bk _ _ b5)) b6 b7 b8 ?_
    intro h' hn same
    have f3 : ∀ b ∈ fp, FpOk X pins (upd H1 P (.tbl (ps ++ more))) b := fun b hb => ⟨by rw [upd_ne (nfP b hb)]; exact (f2 b hb).1, (f2 b hb).2⟩
    have st3 : tn 0 h3 := T.keep _ _ _ st2 fun b hb o e => keep3 b o (nfP b hb) e
    obtain ⟨W, w0, go⟩ := q (upd H1 P (.tbl (ps ++ more))) ⟨⟨ps ++ more, upd_same, by rw [← em]; exact triples3⟩, fun b hb => upd_ne hb⟩
    have made := gx_made (iter := iter) (pos := gpos) (code := code) (tk := tk + 1 + 1 + 1) (nm := .str "<genexpr>" (tk + 1)) (qn := .str (X.env.qual ++ "<genexpr>") (tk + 1 + 1)) hN S I3 T st3 f3 hg ht he w0 go ⟨_, hn⟩ same
    refine Calls.spliced_nil (tuple_drain (room.mono (by omega)) pl.gd I3.ok.frames made fun acc s6 d => ?_)
    obtain ⟨H6, ys, rv, hz, os6, ba6, un6, ok6, hC⟩ := d
    have I6 : Inv X pins σ H6 s6 := I3.call' (ch := fp) os6 un6 ok6 ba6 fun b hb => ⟨(f3 b hb).2.2.2.1, (f3 b hb).2.1, (f3 b hb).2.2.2.2.1, (f3 b hb).2.2.2.2.2⟩
    exact ⟨.ref s6.heap.objs.size, upd H6 s6.heap.objs.size (.tup ys), I6.laid (t' := s6.toks) (fun b o look => Heap.get?_push_of_some _ look) (Nat.le_refl _) ⟨hz, acc, rv, ⟨_, Heap.get?_push_size _ rfl, rfl, _, rfl⟩⟩, rfl, hC hz _ (I6.hok.fresh (Nat.le_refl _))⟩
  cases hf : codeAmong gpos ps.toList with
  | none =>
    refine wpAny_genexprCodeX hcode (cd.code P2 triples) (cd.tab P2) hf fun c2 h3 tk ext ge lt isC _ isT _ => ?_
    obtain ⟨o1, v1, m1, m2, m3, m4, m5, m6, m7, m8, _, _, _, _, _, _, _, _, _, tr3, _⟩ := isC
    exact behind _ h3 tk _ ext isT.2 ⟨_, rfl⟩ tr3
  | some cv =>
    refine wpAny_genexprCode_hit hcode (cd.code P2 triples) hf ?_
    exact behind cv s2.heap s2.toks ps (Heap.ExtBut.refl _ _) P2 ⟨#[], by simp⟩ triples
end

/-! ### the same, on values without addresses -/
def genItems (gs : List (Nat × List PV)) (g : GP) (t : DT) (e : DE) (s : Sl) : List PV → List PV → PH → Out (List PV)
  | [], acc, h => if okG gs h then .ok acc h else .no
  | x :: r, acc, h => if okG gs h then match g x with
      | some as => (t (setP as s) h).ne.bind fun b h => if b = true then (e (setP as s) h).ne.bind fun y h =>
          if acc.length < 16777216 then genItems gs g t e s r (acc ++ [y]) h else .no
        else genItems gs g t e s r acc h
      | none => .no
    else .no
def eTupX (it : DI) (g : GP) (t : DT) (e : DE) (vs : List Nat) : DE := fun s h => (it s h).bind fun p h => (genItems p.1 g t e (wipeP s vs) p.2 [] h).bind fun acc h => .ok (.tup acc) h
section
variable {tbs : List Addr} {W : WX} {X : Cx} {tg iter elt : Expr} {pos : Pos}
theorem Wd.tabbed {K : PySem.W.Frag} {μ : List Addr} {ph : PH} {H H' : Hp} {P : Addr} (w : Wd K tbs μ ph H) (hP : P ∈ tbs) (t : Tabbed P H H') : Ex μ H μ H' ∧ Wd K tbs μ ph H' := by
  obtain ⟨ps, h1, _⟩ := w.tb P hP
  have e : Ex μ H μ H' := ⟨fun _ _ h => h, fun a xs h => by
    rw [t.2 a fun z => by rw [z, h1] at h; cases h]
    exact h, fun a o u h => by
    rw [t.2 a fun z => by rw [z, h1] at h; cases h]
    exact h⟩
  refine ⟨e, w.len, w.nd, fun n a o q1 q2 => ?_, fun Q hQ => ?_⟩
  · have r := w.ob n a o q1 q2
    refine r.frame e (t.2 a fun z => ?_)
    obtain ⟨u, hu, _, _, nb⟩ := r.there
    rw [z, h1] at hu
    exact nb _ (Option.some.inj hu).symm
  · by_cases z : Q = P
    · rw [z]
      exact t.1
    · obtain ⟨qs, q1, q2⟩ := w.tb Q hQ
      exact ⟨qs, by rw [t.2 Q z]; exact q1, q2⟩
theorem tupX_ok {P : Addr} {it : DI} {g : GP} {t : DT} {e : DE} {vs : List Nat} {σ : L2.St} {H : Hp} {Q : VK} (hP : P ∈ tbs) (gok : GOk vs g) (h : tD (bs X tbs) W (eTupX it g t e vs) σ H Q) :
    tTupX P (tDI (bs X tbs) W it) (gD X.K g) (tDT (bs X tbs) W0 t) (tD (bs X tbs) W0 e) vs σ H Q := by
  obtain ⟨μ, ps, ph, sr, wd, ok⟩ := h
  refine ⟨μ, ps, ph, sr, wd, OutOk.bind ok fun its ph1 μ1 H1 J e1 w1 wk ok1 => ⟨w1.tb P hP, fun H2 tb => ?_⟩⟩
  obtain ⟨gs, items⟩ := its
  dsimp only at wk ok1
  obtain ⟨x0, w0⟩ := w1.tabbed hP tb
  have ok2 := OutOk.ext ok1 x0
  refine ⟨fun i m ys H => m = items.length - i ∧ i ≤ items.length ∧ ∃ μ ph acc, Ex μ1 H1 μ H ∧ Wd X.K tbs μ ph H ∧ Rls X.K H μ acc ys ∧ OutOk (bs X tbs) W (fun H' μ' => Rl X.K H' μ') μ H σ ((genItems gs g t e (wipeP ps vs) (items.drop i) acc ph).bind fun acc h => .ok (.tup acc) h) Q,
    ⟨items.length, by simp, Nat.zero_le _, _, _, [], x0, w0, .nil, ok2⟩, ?_⟩
  rintro i m ys H3 ⟨rfl, hi, μ2, ph2, acc, e12, w2, ra, ok2⟩
  have gOk : okG gs ph2 = true := by
    cases hz : okG gs ph2 with
    | true => rfl
    | false =>
      cases hd : items.drop i with
      | nil =>
        rw [hd] at ok2
        unfold genItems at ok2
        rw [hz] at ok2
        exact ok2.elim
      | cons x r =>
        rw [hd] at ok2
        unfold genItems at ok2
        rw [hz] at ok2
        exact ok2.elim
  by_cases lt : i < items.length
  · refine .inr ⟨wk.goes i H3 μ2 ph2 lt e12 w2 gOk, _, fun ys' H' h => ⟨items.length - (i + 1), by omega, rfl, lt, h⟩, fun x H' y => ?_⟩
    obtain ⟨px, hx, e3, w3, r3⟩ := wk.yields i H3 μ2 ph2 x H' lt e12 w2 gOk y
    have hd : items.drop i = px :: items.drop (i + 1) := by
      rw [List.drop_eq_getElem_cons lt]
      rw [List.getElem?_eq_getElem lt] at hx
      cases hx
      rfl
    rw [hd] at ok2
    unfold genItems at ok2
    rw [if_pos gOk] at ok2
    cases eg : g px with
    | none =>
      rw [eg] at ok2
      exact ok2.elim
    | some as =>
      rw [eg] at ok2
      dsimp only at ok2
      refine ⟨μ2, px, r3, as, eg, fun bs' rb => ⟨?_, μ2, setP as (wipeP ps vs), ph2, ((sr.mono (e1.trans (e12.trans e3))).wipe vs).sets rb, w3, ?_⟩⟩
      · rw [wipe_sets (rb.slots (gok _ _ eg)), wipe_wipe]
      · have ok3 := OutOk.ext ok2 e3
        have srB := ((sr.mono (e1.trans (e12.trans e3))).wipe vs).sets rb
        have ok4 : OutOk (bs X tbs) W (fun H' μ' => Rl X.K H' μ') μ2 H' σ ((t (setP as (wipeP ps vs)) ph2).ne.bind fun b h => ((if b = true then (e (setP as (wipeP ps vs)) h).ne.bind fun y h =>
            if acc.length < 16777216 then genItems gs g t e (wipeP ps vs) (items.drop (i + 1)) (acc ++ [y]) h else .no
          else genItems gs g t e (wipeP ps vs) (items.drop (i + 1)) acc h)).bind fun acc h => .ok (.tup acc) h) Q := by
          cases et : t (setP as (wipeP ps vs)) ph2 with
          | ok b h => rw [et] at ok3; exact ok3
          | err b h => rw [et] at ok3; exact ok3
          | no => rw [et] at ok3; exact ok3
        refine OutOk.bindN ok4 fun b ph4 μ4 H4 c e4 w4 rb4 ok5 => ?_
        subst rb4
        cases b with
        | false => exact ⟨μ4, ph4, acc, e12.trans (e3.trans e4), w4, ra.mono (e3.trans e4), ok5⟩
        | true =>
          simp only [if_true] at ok5 ⊢
          have ok6 : OutOk (bs X tbs) W (fun H' μ' => Rl X.K H' μ') μ4 H4 σ ((e (setP as (wipeP ps vs)) ph4).ne.bind fun y h => ((if acc.length < 16777216 then genItems gs g t e (wipeP ps vs) (items.drop (i + 1)) (acc ++ [y]) h else .no)).bind fun acc h => .ok (.tup acc) h) Q := by
            cases et : e (setP as (wipeP ps vs)) ph4 with
            | ok b h => rw [et] at ok5; exact ok5
            | err b h => rw [et] at ok5; exact ok5
            | no => rw [et] at ok5; exact ok5
          refine ⟨μ4, _, ph4, srB.mono e4, w4, OutOk.bindN ok6 fun py ph5 μ5 H5 yv e5 w5 r5 ok7 => ?_⟩
          split at ok7
          · rename_i hlt
            have ra5 := ra.mono (e3.trans (e4.trans e5))
            exact ⟨by rw [← ra5.len, sizeLine_eq]; exact hlt, μ5, ph5, acc ++ [py], e12.trans (e3.trans (e4.trans e5)), w5, ra5.snoc r5, ok7⟩
          · exact ok7.elim
  · have e3 : i = items.length := by omega
    subst e3
    refine .inl ⟨wk.stops H3 μ2 ph2 e12 w2 gOk, fun hz p hp => ?_⟩
    rw [List.drop_length] at ok2
    unfold genItems at ok2
    rw [if_pos gOk] at ok2
    obtain ⟨a1, a2, a3⟩ := w2.newTup ra hp
    exact ok2 _ _ _ a1 a2 a3
theorem j_tupX {P c : Addr} {ifs : List Expr} {scope : Scope} {own : List (Str × Nat)} {it : DI} {g : GP} {t : DT} {e : DE} {q0 q3 gpos : Pos} {k : Nat} (pl : Pl X (k + 10)) (hg0 : Gl X "tuple") (hm : X.mg "tuple" = none) (TB : TabB X.base X.mg c P) (hP : P ∈ tbs) (hcode : X.env.code = .ref c) (hN : X.N.Nodup)
    (S : GenOk X.N X.env.scope scope own) (hi : JI (bs X tbs) W X tg iter it) (gok : GOk (own.map (·.2)) g)
    (hg : ∀ (s : Shared) (H : Hp) (A : Around) (C : Addr) (cl : List (Str × Addr)) (code : Value) (fp : List Addr) (pn : List (Addr × Obj)), JG (gx X s H A (genEnv scope cl C code builtinsNs X.env) fp pn) tg g)
    (ht : ∀ (s : Shared) (H : Hp) (A : Around) (C : Addr) (cl : List (Str × Addr)) (code : Value) (fp : List Addr) (pn : List (Addr × Obj)), Pl (gx X s H A (genEnv scope cl C code builtinsNs X.env) fp pn) k → JTs (bs X tbs) W0 (gx X s H A (genEnv scope cl C code builtinsNs X.env) fp pn) ifs t)
    (he : ∀ (s : Shared) (H : Hp) (A : Around) (C : Addr) (cl : List (Str × Addr)) (code : Value) (fp : List Addr) (pn : List (Addr × Obj)), Pl (gx X s H A (genEnv scope cl C code builtinsNs X.env) fp pn) k → JE (bs X tbs) W0 (gx X s H A (genEnv scope cl C code builtinsNs X.env) fp pn) elt e)
    (hs : ∀ v, genFold iter X.env v = pure v := by intro _; rfl)
    (hst : starEach [.GeneratorExp elt [⟨tg, iter, ifs, 0⟩] scope gpos] X.env = (false, eval (.GeneratorExp elt [⟨tg, iter, ifs, 0⟩] scope gpos) X.env) :: starEach [] X.env := by rfl) :
    JE (bs X tbs) W X (.Call (.Name "tuple" q0) [.GeneratorExp elt [⟨tg, iter, ifs, 0⟩] scope gpos] [] q3) (eTupX it g t e (own.map (·.2))) :=
  PE_imp (pe_tupX (g := gD X.K g) (tt := tDT (bs X tbs) W0 t) (te := tD (bs X tbs) W0 e) pl hg0 hm TB hcode hN S hi hg ht he hs hst) fun σ H Q h => tupX_ok hP gok h
end
end Dn
namespace Dn
open PySem PySem.Spec PyProof.Rows L2 PySem.SeqAt

/-! ### an item, a part, a length, whether it is within -/
def getG {κ : Type} [DecidableEq κ] (kvs : List (κ × PV)) (k : κ) : Option PV := (kvs.find? fun kv => decide (kv.1 = k)).map (·.2)
def putG {κ : Type} [DecidableEq κ] (kvs : List (κ × PV)) (k : κ) (v : PV) : List (κ × PV) := if (kvs.any fun kv => decide (kv.1 = k)) = true then kvs.map (fun kv => if kv.1 = k then (kv.1, v) else kv) else kvs ++ [(k, v)]
def seqOf (h : PH) : PV → Option (List PV)
  | .tup xs => some xs
  | .kt xs => some xs
  | .fz xs => some xs
  | .ref n => match h[n]? with
    | some (.lst xs) => some xs
    | _ => none
  | _ => none
def opIx : F2 := fun x y h => match x, y with
  | .str z, .int i => if sizeOk z.length then (atI z.cps.toList i).map fun c => (.str ⟨#[c]⟩, h) else none
  | .ref n, y => match h[n]?, y with
    | some (.lst xs), .int i => (atI xs i).map fun v => (v, h)
    | some (.dK kvs), y => match keyOf y with
      | some k => (getG kvs k).map fun v => (v, h)
      | none => none
    | some (.dT kvs), .tup ks => match keysOf ks with
      | some k => (getG kvs k).map fun v => (v, h)
      | none => none
    | _, _ => none
  | .tup xs, .int i => (atI xs i).map fun v => (v, h)
  | .kt xs, .int i => (atI xs i).map fun v => (v, h)
  | .fz xs, .int i => (atI xs i).map fun v => (v, h)
  | _, _ => none
def cutP (xs : List PV) (lo hi : Option Int) : List PV := (xs.drop (HT.sIx xs.length 0 lo)).take (HT.sIx xs.length xs.length hi - HT.sIx xs.length 0 lo)
section
variable {X : Cx} {tbs : List Addr}
theorem Rls.atI {K : PySem.W.Frag} {H : Hp} {μ : List Addr} {xs : List PV} {vs : List V} {i : Int} {x : PV} (r : Rls K H μ xs vs) (e : L2.atI xs i = some x) : ∃ v, L2.atI vs i = some v ∧ Rl K H μ x v := by
  unfold L2.atI at e ⊢
  rw [← r.len]
  cases z : ixN xs.length i with
  | none => rw [z] at e; cases e
  | some j =>
    rw [z] at e
    obtain ⟨v, h1, h2⟩ := r.at (show xs[j]? = some x from e)
    exact ⟨v, h1, h2⟩
theorem KRl.get {K : PySem.W.Frag} {H : Hp} {μ : List Addr} {κ : Type} [DecidableEq κ] {k : κ} : ∀ {r : List (κ × PV)} {s : List (κ × V)}, KRl K H μ r s → (∀ x, getG r k = some x → ∃ v, valV s k = some v ∧ Rl K H μ x v) ∧ (getG r k = none → valV s k = none)
  | _, _, .nil => ⟨fun x h => (by cases h), fun _ => rfl⟩
  | _, _, @KRl.cons _ _ _ _ k2 x v r s h t => by
    obtain ⟨i1, i2⟩ := KRl.get (k := k) t
    by_cases e : k2 = k
    · refine ⟨fun y hy => ⟨v, valV_pos e, ?_⟩, fun hn => ?_⟩
      · simp only [getG, List.find?_cons, e, decide_true, Option.map_some, Option.some.injEq] at hy
        rw [← hy]
        exact h
      · simp only [getG, List.find?_cons, e, decide_true, Option.map_some] at hn
        cases hn
    · have z : getG ((k2, x) :: r) k = getG r k := by simp only [getG, List.find?_cons, decide_eq_false e]
      rw [z, valV_neg e]
      exact ⟨i1, i2⟩
theorem KRl.put {K : PySem.W.Frag} {H : Hp} {μ : List Addr} {κ : Type} [DecidableEq κ] {k : κ} {y : PV} {u : V} (ry : Rl K H μ y u) {r : List (κ × PV)} {s : List (κ × V)} (h : KRl K H μ r s) : KRl K H μ (putG r k y) (putK s k u) := by
  have any : ∀ {r : List (κ × PV)} {s : List (κ × V)}, KRl K H μ r s → (r.any fun kv => decide (kv.1 = k)) = s.any fun kv => decide (kv.1 = k) := by
    intro r s h
    induction h with
    | nil => rfl
    | cons a b ih => rw [List.any_cons, List.any_cons, ih]
  have map : ∀ {r : List (κ × PV)} {s : List (κ × V)}, KRl K H μ r s → KRl K H μ (r.map fun kv => if kv.1 = k then (kv.1, y) else kv) (s.map fun kv => if kv.1 = k then (kv.1, u) else kv) := by
    intro r s h
    induction h with
    | nil => exact .nil
    | @cons k2 x v r s a b ih =>
      rw [List.map_cons, List.map_cons]
      by_cases e : k2 = k
      · simp only [e, if_true]
        exact .cons ry ih
      · simp only [e, if_false]
        exact .cons a ih
  have snoc : ∀ {r : List (κ × PV)} {s : List (κ × V)}, KRl K H μ r s → KRl K H μ (r ++ [(k, y)]) (s ++ [(k, u)]) := by
    intro r s h
    induction h with
    | nil => exact .cons ry .nil
    | cons a b ih => exact .cons a ih
  unfold putG putK
  rw [any h]
  split
  · exact map h
  · exact snoc h
theorem KRl.len {K : PySem.W.Frag} {H : Hp} {μ : List Addr} {κ : Type} : ∀ {r : List (κ × PV)} {s : List (κ × V)}, KRl K H μ r s → r.length = s.length
  | _, _, .nil => rfl
  | _, _, .cons _ b => by rw [List.length_cons, List.length_cons, KRl.len b]
theorem keyOf_ok {K : PySem.W.Frag} {H : Hp} {μ : List Addr} {x : PV} {v : V} {k : Key} (e : keyOf x = some k) (r : Rl K H μ x v) : v = kV k := by
  cases r <;> simp [keyOf] at e
  · rw [← e]; rfl
  · rw [← e]; rfl
theorem keysOf_ok {K : PySem.W.Frag} {H : Hp} {μ : List Addr} : ∀ {xs : List PV} {vs : List V} {ks : List Key}, keysOf xs = some ks → Rls K H μ xs vs → vs = ks.map kV
  | [], _, _, e, r => by
    cases r
    cases e
    rfl
  | x :: xs, _, ks, e, r => by
    cases r with
    | cons a b =>
      unfold keysOf at e
      split at e
      · rename_i k ks' e1 e2
        cases e
        rw [keyOf_ok e1 a, keysOf_ok e2 b]
        rfl
      · cases e
theorem ix_dict (hu : X.A.units + 1 < cLine) : IxR X (fun x y H Q => ∃ a v, x = .ref a ∧ DGet H a y (some v) ∧ Q v H) := by
  intro value slice pins s σ H x y v u Q I rx ry h hs
  obtain ⟨a, z, rfl, g, q⟩ := h
  obtain rfl : v = Value.ref a := rx
  exact tail_any (dict_typeIs I g) PySem.F.slot_dict_getitem.lookup (d_getItem hu I g ry fun w' s3 I3 rw' => ⟨z, H, I3, rw', q⟩) hs
theorem ir_ix (hu : X.A.units + 1 < cLine) : IxR X (rP (bs X tbs) opIx) := by
  intro value slice pins s σ H x y v u Q I rx ry ⟨μ, ph, px, py, wd, r1, r2, q⟩ hs
  unfold opIx at q
  have sq : ∀ {xs : List PV} {i : Int} {o : Option (PV × PH)}, o = (L2.atI xs i).map (fun v => (v, ph)) → OutN (bs X tbs) μ H o Q → ∃ w, L2.atI xs i = some w ∧ ∀ z, Rl X.K H μ w z → Q z H := fun {xs i o} e q => by
    subst e
    cases z : L2.atI xs i with
    | none => rw [z] at q; exact q.elim
    | some w =>
      rw [z] at q
      exact ⟨w, rfl, fun z r => q.val wd r⟩
  split at q
  · rename_i z i
    split at q
    · rename_i hz
      cases r1
      cases r2
      cases e : L2.atI z.cps.toList i with
      | none => rw [e] at q; exact q.elim
      | some c =>
        rw [e] at q
        exact ix_str value slice pins s σ H _ _ v u Q I rx ry ⟨z, i, c, rfl, rfl, sizeOk_le hz, e, q.val wd (.str _)⟩ hs
    · exact q.elim
  · rename_i n y'
    cases r1 with
    | @ref _ a hk =>
    split at q
    · rename_i xs i hn
      obtain ⟨vs, h1, ra⟩ := wd.ob _ a _ hk hn
      obtain ⟨w, e, k⟩ := sq rfl q
      obtain ⟨z, e2, r3⟩ := ra.atI e
      cases r2
      exact ix_list value slice pins s σ H _ _ v u Q I rx ry ⟨a, vs, i, z, rfl, rfl, SqL.of h1, e2, k z r3⟩ hs
    · rename_i kvs hn
      split at q
      · rename_i k hk2
        obtain ⟨vs, h1, ra⟩ := wd.ob _ a _ hk hn
        cases e : getG kvs k with
        | none => rw [e] at q; exact q.elim
        | some w =>
          rw [e] at q
          obtain ⟨z, e2, r3⟩ := (KRl.get (k := k) ra).1 w e
          have ey := keyOf_ok hk2 r2
          subst ey
          exact ix_dict hu value slice pins s σ H _ _ v u Q I rx ry ⟨a, z, rfl, by rw [← e2]; exact DGet.k h1, q.val wd r3⟩ hs
      · exact q.elim
    · rename_i kvs ks hn
      split at q
      · rename_i k hk2
        obtain ⟨vs, h1, ra⟩ := wd.ob _ a _ hk hn
        cases e : getG kvs k with
        | none => rw [e] at q; exact q.elim
        | some w =>
          rw [e] at q
          obtain ⟨z, e2, r3⟩ := (KRl.get (k := k) ra).1 w e
          cases r2 with
          | @tup b ws _ hb rb =>
            have ey := keysOf_ok hk2 rb
            subst ey
            exact ix_dict hu value slice pins s σ H _ _ v u Q I rx ry ⟨a, z, rfl, by rw [← e2]; exact DGet.t h1 hb, q.val wd r3⟩ hs
      · exact q.elim
    · exact q.elim
  · rename_i xs i
    cases r1 with
    | @tup a vs _ ha ra =>
    cases r2
    obtain ⟨w, e, k⟩ := sq rfl q
    obtain ⟨z, e2, r3⟩ := ra.atI e
    exact ix_tup value slice pins s σ H _ _ v u Q I rx ry ⟨a, vs, i, z, rfl, rfl, SqT.of ha, e2, k z r3⟩ hs
  · rename_i xs i
    cases r1 with
    | @kt a vs _ ha ra =>
    cases r2
    obtain ⟨w, e, k⟩ := sq rfl q
    obtain ⟨z, e2, r3⟩ := ra.atI e
    exact ix_tup value slice pins s σ H _ _ v u Q I rx ry ⟨a, vs, i, z, rfl, rfl, .inr ha, e2, k z r3⟩ hs
  · rename_i xs i
    cases r1 with
    | @fz a vs _ ha ra =>
    cases r2
    obtain ⟨w, e, k⟩ := sq rfl q
    obtain ⟨z, e2, r3⟩ := ra.atI e
    exact ix_list value slice pins s σ H _ _ v u Q I rx ry ⟨a, vs, i, z, rfl, rfl, ha.sql, e2, k z r3⟩ hs
  · exact q.elim
end
end Dn
namespace Dn
open PySem PySem.Spec PyProof.Rows L2 PySem.SeqAt

/-! ### a part of a text, a tuple, a list -/
abbrev DO := Sl → PH → Out (Option Int)
abbrev FS := PV → Option Int → Option Int → PH → Option (PV × PH)
def oNone : DO := fun _ h => .ok none h
def oSome (a : DE) : DO := fun s h => (a s h).bind fun x h => match x with
  | .int i => .ok (some i) h
  | _ => .no
def eSl (f : FS) (a : DE) (lo hi : DO) : DE := fun s h => (a s h).bind fun x h => (lo s h).bind fun l h => (hi s h).bind fun u h => Out.of (f x l u h)
def opSl : FS := fun x lo hi h => match x with
  | .str z => if sizeOk z.length then some (.str (cutS z lo hi), h) else none
  | .tup xs => some (.tup (cutP xs lo hi), h)
  | .kt xs => if HT.sIx xs.length 0 lo = 0 ∧ HT.sIx xs.length xs.length hi = xs.length then some (.kt xs, h) else some (.tup (cutP xs lo hi), h)
  | .fz xs => some (.ref h.length, h ++ [.lst (cutP xs lo hi)])
  | .ref n => match h[n]? with
    | some (.lst xs) => some (.ref h.length, h ++ [.lst (cutP xs lo hi)])
    | _ => none
  | _ => none
def tDO (B : Bs) (W : WX) (f : DO) : TO := fun σ H Q => ∃ μ ps ph, Sr B.K H μ ps σ ∧ Wd B.K B.tbs μ ph H ∧ OutOk B W (fun _ _ (a b : Option Int) => a = b) μ H σ (f ps ph) Q
def JO (B : Bs) (W : WX) (X : Cx) (e : Option Expr) (f : DO) : Prop := PO X e (tDO B W f)
theorem PO_imp {X : Cx} {e : Option Expr} {t t' : TO} (h : PO X e t) (k : ∀ σ H Q, t' σ H Q → t σ H Q) : PO X e t' := ⟨fun pins s σ H Q I q => h.run pins s σ H Q I (k σ H Q q)⟩
def rPS (B : Bs) (f : FS) : V → Option Int → Option Int → Hp → VK → Prop := fun x lo hi H Q => ∃ μ ph px, Wd B.K B.tbs μ ph H ∧ Rl B.K H μ px x ∧ OutN B μ H (f px lo hi ph) Q
theorem cut_whole {α : Type} {xs : List α} {lo hi : Option Int} (h : HT.sIx xs.length 0 lo = 0 ∧ HT.sIx xs.length xs.length hi = xs.length) : (xs.drop (HT.sIx xs.length 0 lo)).take (HT.sIx xs.length xs.length hi - HT.sIx xs.length 0 lo) = xs := by
  rw [h.1, h.2, List.drop_zero, Nat.sub_zero, List.take_length]
theorem Rls.cut {K : PySem.W.Frag} {H : Hp} {μ : List Addr} {xs : List PV} {vs : List V} (r : Rls K H μ xs vs) (lo hi : Option Int) : Rls K H μ (cutP xs lo hi) (cutV vs lo hi) := by
  unfold cutP cutV
  rw [← r.len]
  exact (r.drop _).take _
section
variable {tbs : List Addr} {W : WX} {X : Cx} {pos p2 : Pos}
theorem jo_none : JO (bs X tbs) W X none oNone := PO_imp po_none fun σ H Q ⟨μ, ps, ph, sr, wd, ok⟩ => ok μ H none Ex.refl wd rfl
theorem jo_some {e : Expr} {f : DE} (h : JE (bs X tbs) W X e f) : JO (bs X tbs) W X (some e) (oSome f) := PO_imp (po_some h) fun σ H Q ⟨μ, ps, ph, sr, wd, ok⟩ => ⟨μ, ps, ph, sr, wd, OutOk.bind ok fun x ph1 μ1 H1 v e1 w1 r1 ok1 => by
  cases r1 with
  | int i => exact ⟨i, rfl, ok1 μ1 H1 _ Ex.refl w1 rfl⟩
  | _ => exact ok1.elim⟩
theorem j_sl {e : Expr} {lo hi : Option Expr} {f : DE} {g k : DO} {r : FS} (hr : SlR X (rPS (bs X tbs) r)) (he : JE (bs X tbs) W X e f) (hl : JO (bs X tbs) W X lo g) (hu : JO (bs X tbs) W X hi k) : JE (bs X tbs) W X (.Subscript e (.Slice lo hi none p2) pos) (eSl r f g k) :=
  PE_imp (pe_slice hr he hl hu) fun σ H Q ⟨μ, ps, ph, sr, wd, ok⟩ => ⟨μ, ps, ph, sr, wd, OutOk.bind ok fun x ph1 μ1 H1 v e1 w1 r1 ok1 => ⟨μ1, ps, ph1, sr.mono e1, w1, OutOk.bind ok1 fun l ph2 μ2 H2 l' e2 w2 r2 ok2 => ⟨μ2, ps, ph2, (sr.mono e1).mono e2, w2,
    OutOk.bind ok2 fun u ph3 μ3 H3 u' e3 w3 r3 ok3 => by
      subst r2
      subst r3
      exact ⟨μ3, ph3, x, w3, (r1.mono e2).mono e3, ok3.op⟩⟩⟩⟩
theorem sr_sl : SlR X (rPS (bs X tbs) opSl) := by
  intro pins s σ H x v vl vu lo hi sl Q I rx hs pl pu ⟨μ, ph, px, wd, r1, q⟩
  unfold opSl at q
  split at q
  · rename_i z
    split at q
    · rename_i hz
      cases r1
      exact sl_str pins s σ H _ v vl vu lo hi sl Q I rx hs pl pu ⟨z, rfl, sizeOk_le hz, q.val wd (.str _)⟩
    · exact q.elim
  · rename_i xs
    cases r1 with
    | @tup a vs _ ha ra =>
    refine sl_tupA pins s σ H _ v vl vu lo hi sl Q I rx hs pl pu ⟨a, vs, rfl, SqT.of ha, fun hw => ?_, fun _ p hp => ?_⟩
    · rw [← ra.len] at hw
      refine q.val wd ?_
      unfold cutP
      rw [cut_whole hw]
      exact .tup ha ra
    · obtain ⟨e, w, r⟩ := wd.newTup (ra.cut lo hi) hp
      exact q _ _ _ e w r
  · rename_i xs
    cases r1 with
    | @kt a vs _ ha ra =>
    refine sl_tupA pins s σ H _ v vl vu lo hi sl Q I rx hs pl pu ⟨a, vs, rfl, .inr ha, fun hw => ?_, fun hw p hp => ?_⟩
    · rw [← ra.len] at hw
      rw [if_pos hw] at q
      exact q.val wd (.kt ha ra)
    · rw [← ra.len] at hw
      rw [if_neg hw] at q
      obtain ⟨e, w, r⟩ := wd.newTup (ra.cut lo hi) hp
      exact q _ _ _ e w r
  · rename_i xs
    cases r1 with
    | @fz a vs _ ha ra =>
    refine sl_list pins s σ H _ v vl vu lo hi sl Q I rx hs pl pu ⟨a, vs, rfl, ha.sql, fun p hp => ?_⟩
    obtain ⟨e, w, r⟩ := wd.newLst (ra.cut lo hi) hp
    exact q _ _ _ e w r
  · rename_i n
    split at q
    · rename_i xs hn
      cases r1 with
      | @ref _ a hk =>
      obtain ⟨vs, h1, ra⟩ := wd.ob _ a _ hk hn
      refine sl_list pins s σ H _ v vl vu lo hi sl Q I rx hs pl pu ⟨a, vs, rfl, SqL.of h1, fun p hp => ?_⟩
      obtain ⟨e, w, r⟩ := wd.newLst (ra.cut lo hi) hp
      exact q _ _ _ e w r
    · exact q.elim
  · exact q.elim

/-! ### lengths, numbers, texts of numbers -/
theorem seqOf_ok {K : PySem.W.Frag} {H : Hp} {μ : List Addr} {ph : PH} {x : PV} {v : V} {ys : List PV} (wd : Wd K tbs μ ph H) (h : seqOf ph x = some ys) (r : Rl K H μ x v) : ∃ a vs, v = .ref a ∧ (SqL K H a vs ∨ SqT K H a vs) ∧ Rls K H μ ys vs := by
  unfold seqOf at h
  cases r with
  | @tup a vs _ ha ra =>
    cases h
    exact ⟨a, vs, rfl, .inr (SqT.of ha), ra⟩
  | @kt a vs _ ha ra =>
    cases h
    exact ⟨a, vs, rfl, .inr (.inr ha), ra⟩
  | @fz a vs _ ha ra =>
    cases h
    exact ⟨a, vs, rfl, .inl ha.sql, ra⟩
  | @ref n a hk =>
    dsimp only at h
    split at h
    · rename_i xs hn
      cases h
      obtain ⟨vs, h1, ra⟩ := wd.ob _ a _ hk hn
      exact ⟨a, vs, rfl, .inl (SqL.of h1), ra⟩
    · cases h
  | _ => cases h
def fLen : FN := fun xs h => match xs with
  | [.str z] => if sizeOk z.length then some (.int (z.length : Nat), h) else none
  | [x] => (seqOf h x).map fun ys => (.int (ys.length : Nat), h)
  | _ => none
def fAbs : FN := fun xs h => match xs with
  | [.int i] => some (.int (if i < 0 then -i else i), h)
  | _ => none
def fInt : FN := fun xs h => match xs with
  | [.int i] => some (.int i, h)
  | [.bl b] => some (.int (if b then 1 else 0), h)
  | _ => none
def fBool : FN := fun xs h => match xs with
  | [.int i] => some (.bl (i != 0), h)
  | [.bl b] => some (.bl b, h)
  | _ => none
def fStr : FN := fun xs h => match xs with
  | [.int i] => if decide (i.natAbs.log2 < 1920) then some (.str (toString i), h) else none
  | _ => none
def fMin : FN := fun xs h => match xs with
  | [.int i, .int j] => some (.int (if j < i then j else i), h)
  | _ => none
def fMax : FN := fun xs h => match xs with
  | [.int i, .int j] => some (.int (if j > i then j else i), h)
  | _ => none
theorem Rls.one' {K : PySem.W.Frag} {H : Hp} {μ : List Addr} {x : PV} {vs : List V} (r : Rls K H μ [x] vs) : ∃ v, vs = [v] ∧ Rl K H μ x v := by
  cases r with
  | cons a b =>
    cases b
    exact ⟨_, rfl, a⟩
theorem Rls.two' {K : PySem.W.Frag} {H : Hp} {μ : List Addr} {x y : PV} {vs : List V} (r : Rls K H μ [x, y] vs) : ∃ v w, vs = [v, w] ∧ Rl K H μ x v ∧ Rl K H μ y w := by
  cases r with
  | cons a b =>
    obtain ⟨w, rfl, c⟩ := b.one'
    exact ⟨_, _, rfl, a, c⟩
theorem cl_len : CallR X (.builtin "len") (rPN (bs X tbs) fLen) := by
  intro pins s σ H xs us Q I r ⟨μ, ph, ps, wd, rr, q⟩
  unfold fLen at q
  split at q
  · rename_i z
    split at q
    · rename_i hz
      obtain ⟨v, rfl, rv⟩ := rr.one'
      cases rv
      exact call_len_str pins s σ H _ us Q I r ⟨z, rfl, sizeOk_le hz, q.val wd (.int _)⟩
    · exact q.elim
  · rename_i x _
    obtain ⟨v, rfl, rv⟩ := rr.one'
    cases e : seqOf ph x with
    | none => rw [e] at q; exact q.elim
    | some ys =>
      rw [e] at q
      obtain ⟨a, vs, rfl, hs, ra⟩ := seqOf_ok wd e rv
      refine call_len_seq pins s σ H _ us Q I r ⟨a, vs, rfl, hs, ?_⟩
      rw [← ra.len]
      exact q.val wd (.int _)
  · exact q.elim
theorem cl_abs : CallR X (.builtin "abs") (rPN (bs X tbs) fAbs) := by
  intro pins s σ H xs us Q I r ⟨μ, ph, ps, wd, rr, q⟩
  unfold fAbs at q
  split at q
  · obtain ⟨v, rfl, rv⟩ := rr.one'
    cases rv
    exact call_abs pins s σ H _ us Q I r ⟨_, rfl, q.val wd (.int _)⟩
  · exact q.elim
theorem cl_int : CallR X (.type "int") (rPN (bs X tbs) fInt) := by
  intro pins s σ H xs us Q I r ⟨μ, ph, ps, wd, rr, q⟩
  unfold fInt at q
  split at q
  · obtain ⟨v, rfl, rv⟩ := rr.one'
    cases rv
    exact call_int1 pins s σ H _ us Q I r (.inl ⟨_, rfl, q.val wd (.int _)⟩)
  · obtain ⟨v, rfl, rv⟩ := rr.one'
    cases rv
    exact call_int1 pins s σ H _ us Q I r (.inr ⟨_, rfl, q.val wd (.int _)⟩)
  · exact q.elim
theorem cl_bool : CallR X (.type "bool") (rPN (bs X tbs) fBool) := by
  intro pins s σ H xs us Q I r ⟨μ, ph, ps, wd, rr, q⟩
  unfold fBool at q
  split at q
  · obtain ⟨v, rfl, rv⟩ := rr.one'
    cases rv
    exact call_bool1 pins s σ H _ us Q I r (.inl ⟨_, rfl, q.val wd (.bl _)⟩)
  · obtain ⟨v, rfl, rv⟩ := rr.one'
    cases rv
    exact call_bool1 pins s σ H _ us Q I r (.inr ⟨_, rfl, q.val wd (.bl _)⟩)
  · exact q.elim
theorem cl_str : CallR X (.type "str") (rPN (bs X tbs) fStr) := by
  intro pins s σ H xs us Q I r ⟨μ, ph, ps, wd, rr, q⟩
  unfold fStr at q
  split at q
  · split at q
    · rename_i hz
      obtain ⟨v, rfl, rv⟩ := rr.one'
      cases rv
      exact call_str_int pins s σ H _ us Q I r ⟨_, rfl, of_decide_eq_true hz, q.val wd (.str _)⟩
    · exact q.elim
  · exact q.elim
theorem cl_min (hc : X.calm = true) : CallR X (.builtin "min") (rPN (bs X tbs) fMin) := by
  intro pins s σ H xs us Q I r ⟨μ, ph, ps, wd, rr, q⟩
  unfold fMin at q
  split at q
  · obtain ⟨v, w, rfl, rv, rw_⟩ := rr.two'
    cases rv
    cases rw_
    exact call_min2 hc pins s σ H _ us Q I r ⟨_, _, rfl, q.val wd (.int _)⟩
  · exact q.elim
theorem cl_max (hc : X.calm = true) : CallR X (.builtin "max") (rPN (bs X tbs) fMax) := by
  intro pins s σ H xs us Q I r ⟨μ, ph, ps, wd, rr, q⟩
  unfold fMax at q
  split at q
  · obtain ⟨v, w, rfl, rv, rw_⟩ := rr.two'
    cases rv
    cases rw_
    exact call_max2 hc pins s σ H _ us Q I r ⟨_, _, rfl, q.val wd (.int _)⟩
  · exact q.elim
/-! ### list(..), tuple(..) of a list or a tuple -/
def fList : FN := fun xs h => match xs with
  | [x] => (seqOf h x).map fun ys => (.ref h.length, h ++ [.lst ys])
  | _ => none
def fTuple : FN := fun xs h => match xs with
  | [.kt ys] => some (.kt ys, h)
  | [x] => (seqOf h x).map fun ys => (.tup ys, h)
  | _ => none
theorem cl_list : CallR X (.type "list") (rPN (bs X tbs) fList) := by
  intro pins s σ H xs us Q I r ⟨μ, ph, ps, wd, rr, q⟩
  unfold fList at q
  split at q
  · rename_i x
    obtain ⟨v, rfl, rv⟩ := rr.one'
    cases e : seqOf ph x with
    | none => rw [e] at q; exact q.elim
    | some ys =>
      rw [e] at q
      obtain ⟨a, vs, rfl, hs, ra⟩ := seqOf_ok wd e rv
      refine call_list_of pins s σ H _ us Q I r ⟨a, vs, rfl, hs, fun l hl => ?_⟩
      obtain ⟨x1, w1, r1⟩ := wd.newLst ra hl
      exact q _ _ _ x1 w1 r1
  · exact q.elim
theorem cl_tuple : CallR X (.type "tuple") (rPN (bs X tbs) fTuple) := by
  intro pins s σ H xs us Q I r ⟨μ, ph, ps, wd, rr, q⟩
  unfold fTuple at q
  split at q
  · obtain ⟨v, rfl, rv⟩ := rr.one'
    cases rv with
    | @kt a vs _ ha ra => exact call_tuple_of pins s σ H _ us Q I r ⟨a, vs, rfl, .inr ⟨.inr ha, q.val wd (.kt ha ra)⟩⟩
  · rename_i x hx
    obtain ⟨v, rfl, rv⟩ := rr.one'
    cases e : seqOf ph x with
    | none => rw [e] at q; exact q.elim
    | some ys =>
      rw [e] at q
      have nw : ∀ {vs : List V}, Rls X.K H μ ys vs → ∀ l, H l = none → Q (.ref l) (upd H l (.tup vs)) := fun ra l hl => by
        obtain ⟨x1, w1, r1⟩ := wd.newTup ra hl
        exact q _ _ _ x1 w1 r1
      unfold seqOf at e
      cases rv with
      | @tup a vs _ ha ra =>
        cases e
        exact call_tuple_of pins s σ H _ us Q I r ⟨a, vs, rfl, .inr ⟨SqT.of ha, q.val wd (.tup ha ra)⟩⟩
      | @kt a vs ys ha ra => exact absurd rfl (hx ys)
      | @fz a vs _ ha ra =>
        cases e
        exact call_tuple_of pins s σ H _ us Q I r ⟨a, vs, rfl, .inl ⟨ha.sql, nw ra⟩⟩
      | @ref n a hk =>
        dsimp only at e
        split at e
        · rename_i xs hn
          cases e
          obtain ⟨vs, h1, ra⟩ := wd.ob _ a _ hk hn
          exact call_tuple_of pins s σ H _ us Q I r ⟨a, vs, rfl, .inl ⟨SqL.of h1, nw ra⟩⟩
        · cases e
      | _ => cases e
  · exact q.elim
end
end Dn
namespace Dn
open PySem PySem.Spec PyProof.Rows L2 PySem.SeqAt

/-! ### x in a list, a tuple, a text, a dict -/
def strD : PyData → Bool
  | .str _ => true
  | _ => false
def plainP : PV → Bool
  | .int _ => true
  | .non => true
  | .bl _ => true
  | _ => false
/-- an item y of a sequence beside x, which is sought there -/
def eqJ (h : PH) (x y : PV) : Option Bool := match toD h 50 x with
  | none => none
  | some d => match y with
    | .str a => some (Rw.eqS d a)
    | y => if strD d && plainP y then some false else match toD h 50 y with
      | some e => if shaped d && shaped e then some (PyData.eqv e d) else none
      | none => none
def plainU : Value → Bool
  | .int _ _ => true
  | .none => true
  | .bool _ => true
  | _ => false
open Classical in
/-- how an item compares with data -/
noncomputable def eqU (h : Heap) (d : PyData) (y : Value) : Bool := match y with
  | .str z _ => Rw.eqS d z
  | y => if strD d && plainU y then false else PyData.eqv (readOf h y) d
section
variable {X : Cx} {tbs : List Addr} {pins : List (Addr × Obj)} {σ : L2.St} {H : Hp} {s : Shared} {μ : List Addr} {ph : PH}
theorem eqU_of {h : Heap} {d : PyData} {y : Value} (n : ∀ z t, y ≠ .str z t) : eqU h d y = if strD d && plainU y then false else PyData.eqv (readOf h y) d := by
  unfold eqU
  split
  · exact absurd rfl (n _ _)
  · rfl
theorem eqJ_at (hu : X.A.units + 65 < cLine) (I : Inv X pins σ H s) (wd : Wd X.K tbs μ ph H) {x y : PV} {d : PyData} {v w : V} {u u' : Value} {b : Bool} (rx : Rl X.K H μ x v) (rv : RelV v u) (ry : Rl X.K H μ y w) (rw_ : RelV w u') (ed : toD ph 50 x = some d) (e : eqJ ph x y = some b) :
    eqU s.heap d u' = b ∧ EqAt X.A.in1 s u' u (eqU s.heap d u') := by
  obtain ⟨as, rd, _⟩ := Rl.reads I wd 50 x d v u ed rx rv
  have hu1 : X.A.in1.units < cLine := by show X.A.units + 1 < cLine; omega
  unfold eqJ at e
  rw [ed] at e
  dsimp only at e
  have gen : (∀ z, y ≠ .str z) → (∀ z t, u' ≠ .str z t) → plainU u' = plainP y → (plainP y = true → ∀ z t, EqAt X.A.in1 s u' (.str z t) false) → eqU s.heap d u' = b ∧ EqAt X.A.in1 s u' u (eqU s.heap d u') := fun ny nu pl fl => by
    split at e
    · exact absurd rfl (ny _)
    · rw [eqU_of nu, pl]
      by_cases c : (strD d && plainP y) = true
      · rw [if_pos c] at e ⊢
        refine ⟨Option.some.inj e, ?_⟩
        simp only [Bool.and_eq_true] at c
        cases rd with
        | str z t => exact fl c.2 z t
        | _ => exact absurd c.1 (by simp [strD])
      · rw [if_neg c] at e ⊢
        split at e
        · rename_i e2 e3
          split at e
          · rename_i hs
            simp only [Bool.and_eq_true] at hs
            obtain ⟨bs, re, _⟩ := Rl.reads I wd 50 y e2 w u' e3 ry rw_
            rw [readOf_eq (canLay_of_shaped hs.2) re]
            refine ⟨Option.some.inj e, eqAt_reads e2 d _ s u' u bs as re rd (canLay_of_shaped hs.2) (canLay_of_shaped hs.1) ?_⟩
            have := depth_of_shaped hs.1
            have := Nat.min_le_right e2.depth d.depth
            show X.A.units + 1 + _ < cLine
            omega
          · cases e
        · cases e
  cases ry with
  | str a =>
    obtain ⟨t, rfl⟩ := rw_
    exact ⟨Option.some.inj e, Rw.str_eqAt hu1 rd a t⟩
  | int i =>
    obtain ⟨t, rfl⟩ := rw_
    exact gen nofun nofun rfl fun _ z t2 => EqAt.int_str i t z t2
  | non =>
    cases rw_
    exact gen nofun nofun rfl fun _ z t2 => EqAt.none_str z t2
  | bl c =>
    cases rw_
    exact gen nofun nofun rfl fun _ z t2 => EqAt.bool_str c z t2
  | tup _ _ =>
    cases rw_
    exact gen nofun nofun rfl nofun
  | kt _ _ =>
    cases rw_
    exact gen nofun nofun rfl nofun
  | fz _ _ =>
    cases rw_
    exact gen nofun nofun rfl nofun
  | ref _ =>
    cases rw_
    exact gen nofun nofun rfl nofun
theorem anyO_at (hu : X.A.units + 65 < cLine) (I : Inv X pins σ H s) (wd : Wd X.K tbs μ ph H) {x : PV} {d : PyData} {v : V} {u : Value} (rx : Rl X.K H μ x v) (rv : RelV v u) (ed : toD ph 50 x = some d) : ∀ {ys : List PV} {vs : List V} {us : List Value} {b : Bool}, Rls X.K H μ ys vs → Vals vs us → anyO (eqJ ph x) ys = some b →
    us.any (eqU s.heap d) = b ∧ ∀ u' ∈ us, EqAt X.A.in1 s u' u (eqU s.heap d u')
  | [], _, _, b, r, q, e => by
    cases r
    cases q
    cases e
    exact ⟨rfl, fun _ h => by cases h⟩
  | y :: ys, _, _, b, r, q, e => by
    cases r with
    | cons r1 r2 =>
      cases q with
      | cons q1 q2 =>
        unfold anyO at e
        split at e
        · rename_i b1 b2 e1 e2
          cases e
          obtain ⟨h1, h2⟩ := eqJ_at hu I wd rx rv r1 q1 ed e1
          obtain ⟨h3, h4⟩ := anyO_at hu I wd rx rv ed r2 q2 e2
          refine ⟨by rw [List.any_cons, h1, h3], fun u' hm => ?_⟩
          rcases List.mem_cons.mp hm with z | z
          · rw [z]
            exact h2
          · exact h4 u' z
        · cases e
def inSeq (h : PH) (x : PV) (ys : List PV) : Option Bool := match toD h 50 x with
  | none => none
  | some _ => anyO (eqJ h x) ys
/-- a dict with plain keys -/
def dkOf (h : PH) : PV → Option (List (Key × PV))
  | .ref n => match h[n]? with
    | some (.dK kvs) => some kvs
    | _ => none
  | _ => none
theorem dkOf_ok {K : PySem.W.Frag} {tbs : List Addr} {H : Hp} {μ : List Addr} {ph : PH} {x : PV} {v : V} {kvs : List (Key × PV)} (wd : Wd K tbs μ ph H) (h : dkOf ph x = some kvs) (r : Rl K H μ x v) : ∃ a vs, v = .ref a ∧ H a = some (.dK vs) ∧ KRl K H μ kvs vs := by
  unfold dkOf at h
  cases r with
  | @ref n a ha =>
    dsimp only at h
    cases e : ph[n]? with
    | none => rw [e] at h; cases h
    | some o =>
      rw [e] at h
      cases o with
      | dK kvs2 =>
        cases h
        obtain ⟨vs, e1, ra⟩ := wd.ob _ _ _ ha e
        exact ⟨a, vs, rfl, e1, ra⟩
      | _ => cases h
  | _ => cases h
def inB (h : PH) (x c : PV) : Option Bool := match c with
  | .str j => match x with
    | .str i => some (inStr i j)
    | _ => none
  | c => match seqOf h c with
    | some ys => inSeq h x ys
    | none => match dkOf h c, keyOf x with
      | some kvs, some k => some (getG kvs k).isSome
      | _, _ => none
def opIn : F2 := fun x c h => (inB h x c).map fun b => (.bl b, h)
def opNotIn : F2 := fun x c h => (inB h x c).map fun b => (.bl (!b), h)
theorem inB_run {neg : Bool} {op : CmpOp} (hu : X.A.units + 65 < cLine)
    (ht : ∀ (s : Shared) (x : Value) (l : Addr) (items : Array Value) (e : Value → Bool) (Q : Value → Shared → Prop), s.heap.IsTuple l items → (∀ y, y ∈ items → EqAt X.A.in1 s y x (e y)) → Q (.bool (neg != items.any e)) s → wpAny (model X.prog X.w) X.A (compareOp op x (.ref l)) Q X.xe s)
    (hl : ∀ (s : Shared) (x : Value) (l : Addr) (items : Array Value) (e : Value → Bool) (Q : Value → Shared → Prop), s.heap.IsList l items → (∀ y, y ∈ items → EqAt X.A.in1 s y x (e y)) → Q (.bool (neg != items.any e)) s → wpAny (model X.prog X.w) X.A (compareOp op x (.ref l)) Q X.xe s)
    (hs : ∀ (i j : Str) (v u : Value) (σ : L2.St) (pins : List (Addr × Obj)) (s : Shared) (H : Hp) (Q : VK), Inv X pins σ H s → RelV (.str i) v → RelV (.str j) u → Q (.bl (neg != inStr i j)) H → wpAny (model X.prog X.w) X.A (compareOp op v u) (EP X pins σ Q) X.xe s)
    (hd : ∀ (pins : List (Addr × Obj)) (s : Shared) (σ : L2.St) (H : Hp) (a : Addr) (y : V) (v : Value) (o : Option V) (Q : VK), Inv X pins σ H s → DGet H a y o → RelV y v → Q (.bl (neg != o.isSome)) H → wpAny (model X.prog X.w) X.A (compareOp op v (.ref a)) (EP X pins σ Q) X.xe s) :
    OpR X (compareOp op) (rP (bs X tbs) fun x c h => (inB h x c).map fun b => (.bl (neg != b), h)) := by
  intro pins s σ H x y v u Q I rx ry ⟨μ, ph, px, py, wd, r1, r2, q⟩
  dsimp only at q
  cases e : inB ph px py with
  | none => rw [e] at q; exact q.elim
  | some b =>
    rw [e] at q
    have q2 : Q (.bl (neg != b)) H := q.val wd (.bl _)
    unfold inB at e
    split at e
    · split at e
      · cases e
        cases r1
        cases r2
        exact hs _ _ v u σ pins s H Q I rx ry q2
      · cases e
    · split at e
      · rename_i ys e1
        obtain ⟨a, vs, rfl, hsq, ra⟩ := seqOf_ok wd e1 r2
        cases ry
        unfold inSeq at e
        cases ed : toD ph 50 px with
        | none => rw [ed] at e; cases e
        | some d =>
          rw [ed] at e
          dsimp only at e
          rcases hsq with hsq | hsq
          · obtain ⟨its, rv, ⟨o, n, ho, hc, hn, hd⟩, _⟩ := I.list hsq
            obtain ⟨z1, z2⟩ := anyO_at hu I wd r1 rx ed ra rv e
            refine hl s v a its.toArray (eqU s.heap d) _ ⟨o, ho, hc, n, hd⟩ (fun y hy => z2 y (by simpa using hy)) ⟨.bl _, H, I, rfl, ?_⟩
            rw [← Array.any_toList, z1]
            exact q2
          · obtain ⟨its, rv, ht2, _⟩ := I.tuple hsq
            obtain ⟨z1, z2⟩ := anyO_at hu I wd r1 rx ed ra rv e
            refine ht s v a its.toArray (eqU s.heap d) _ ht2 (fun y hy => z2 y (by simpa using hy)) ⟨.bl _, H, I, rfl, ?_⟩
            rw [← Array.any_toList, z1]
            exact q2
      · split at e
        · rename_i kvs k e1 e2
          cases e
          obtain ⟨a, vs, rfl, ha, kr⟩ := dkOf_ok wd e1 r2
          cases ry
          have ek := keyOf_ok e2 r1
          subst ek
          obtain ⟨g1, g2⟩ := kr.get (k := k)
          refine hd pins s σ H a (kV k) v (valV vs k) Q I (DGet.k ha) rx ?_
          have e3 : (valV vs k).isSome = (getG kvs k).isSome := by
            cases z : getG kvs k with
            | none => rw [g2 z]; rfl
            | some y => obtain ⟨u, z2, _⟩ := g1 y z; rw [z2]; rfl
          rw [e3]
          exact q2
        · cases e
theorem or_in (hu : X.A.units + 65 < cLine) : OpR X (compareOp .In) (rP (bs X tbs) opIn) := by
  have h := inB_run (X := X) (tbs := tbs) (neg := false) (op := .In) hu (fun s x l items e Q h1 h2 h3 => in_tupleAt e h1 h2 (by simpa using h3)) (fun s x l items e Q h1 h2 h3 => in_listAt e h1 h2 (by simpa using h3))
    (fun i j v u σ pins s H Q I rx ry q => op_in_str pins s σ H _ _ v u Q I rx ry ⟨i, j, rfl, rfl, by simpa [inStr] using q⟩)
    (fun pins s σ H a y v o Q I g ry q => d_in (by omega) I g ry fun s' I' => ⟨.bl o.isSome, H, I', rfl, by simpa using q⟩)
  have e : (fun x c h => (inB h x c).map fun b => (PV.bl (false != b), h) : F2) = opIn := by
    funext x c h
    simp [opIn]
  rw [← e]
  exact h
theorem or_notIn (hu : X.A.units + 65 < cLine) : OpR X (compareOp .NotIn) (rP (bs X tbs) opNotIn) := by
  have h := inB_run (X := X) (tbs := tbs) (neg := true) (op := .NotIn) hu (fun s x l items e Q h1 h2 h3 => notIn_tupleAt e h1 h2 (by simpa using h3)) (fun s x l items e Q h1 h2 h3 => notIn_listAt e h1 h2 (by simpa using h3))
    (fun i j v u σ pins s H Q I rx ry q => op_notIn_str pins s σ H _ _ v u Q I rx ry ⟨i, j, rfl, rfl, by simpa [inStr] using q⟩)
    (fun pins s σ H a y v o Q I g ry q => d_notIn (by omega) I g ry fun s' I' => ⟨.bl (!o.isSome), H, I', rfl, by simpa using q⟩)
  have e : (fun x c h => (inB h x c).map fun b => (PV.bl (true != b), h) : F2) = opNotIn := by
    funext x c h
    simp [opNotIn]
  rw [← e]
  exact h
end
end Dn
namespace Dn
open PySem PySem.Spec PyProof.Rows L2 PySem.SeqAt

/-! ### is, truth, kinds, chains -/
def isNon : PV → Bool
  | .non => true
  | _ => false
def opIs : F2 := fun x y h => match x, y with
  | x, .non => some (.bl (isNon x), h)
  | .bl a, .bl b => some (.bl (decide (a = b)), h)
  | _, _ => none
def opIsNot : F2 := fun x y h => match x, y with
  | x, .non => some (.bl (!isNon x), h)
  | .bl a, .bl b => some (.bl (!decide (a = b)), h)
  | _, _ => none
def truB (h : PH) : PV → Option Bool
  | .non => some false
  | .bl b => some b
  | .int i => some (i != 0)
  | .str z => if sizeOk z.length then some ((z.length : Int) != 0) else none
  | x => (seqOf h x).map fun ys => !ys.isEmpty
/-- a value's truth as a test -/
def tTru (a : DE) : DT := fun s h => (a s h).bind fun x h => match truB h x with
  | some b => .ok b h
  | none => .no
def tyP (h : PH) : PV → Option String
  | .non => some "NoneType"
  | .bl _ => some "bool"
  | .int _ => some "int"
  | .str _ => some "str"
  | .tup _ => some "tuple"
  | .kt _ => some "tuple"
  | .fz _ => some "list"
  | .ref n => match h[n]? with
    | some (.lst _) => some "list"
    | some (.dK _) => some "dict"
    | some (.dT _) => some "dict"
    | none => none
def eIsi (n : String) (a : DE) : DE := fun s h => (a s h).bind fun x h => match tyP h x with
  | some c => .ok (.bl (Rw.isC n c)) h
  | none => .no
def eChain (f g : F2) (a b c : DE) : DE := fun s h => (a s h).bind fun x h => (b s h).bind fun y h => (Out.of (f x y h)).bind fun z h => match z with
  | .bl true => (c s h).bind fun u h => Out.of (g y u h)
  | .bl false => .ok (.bl false) h
  | _ => .no
section
variable {tbs : List Addr} {W : WX} {X : Cx} {pos : Pos}
theorem Rl.isNon {K : PySem.W.Frag} {H : Hp} {μ : List Addr} {x : PV} {v : V} (r : Rl K H μ x v) : decide (v = V.non) = Dn.isNon x := by
  cases r <;> first | rfl | exact decide_eq_false (fun z => by cases z)
theorem or_is : OpR X (compareOp .Is) (rP (bs X tbs) opIs) := by
  intro pins s σ H x y v u Q I rx ry ⟨μ, ph, px, py, wd, r1, r2, q⟩
  unfold opIs at q
  split at q
  · cases r2
    refine op_isN pins s σ H _ _ v u Q I rx ry ⟨rfl, ?_⟩
    rw [r1.isNon]
    exact q.val wd (.bl _)
  · cases r1
    cases r2
    exact op_isBl pins s σ H _ _ v u Q I rx ry ⟨_, _, rfl, rfl, q.val wd (.bl _)⟩
  · exact q.elim
theorem or_isNot : OpR X (compareOp .IsNot) (rP (bs X tbs) opIsNot) := by
  intro pins s σ H x y v u Q I rx ry ⟨μ, ph, px, py, wd, r1, r2, q⟩
  unfold opIsNot at q
  split at q
  · cases r2
    refine op_notN pins s σ H _ _ v u Q I rx ry ⟨rfl, ?_⟩
    rw [r1.isNon]
    exact q.val wd (.bl _)
  · cases r1
    cases r2
    exact op_notBl pins s σ H _ _ v u Q I rx ry ⟨_, _, rfl, rfl, q.val wd (.bl _)⟩
  · exact q.elim
theorem Rls.isEmpty {K : PySem.W.Frag} {H : Hp} {μ : List Addr} {xs : List PV} {vs : List V} (r : Rls K H μ xs vs) : vs.isEmpty = xs.isEmpty := by
  cases r <;> rfl
theorem j_tru {e : Expr} {f : DE} (h : JE (bs X tbs) W X e f) (he : ∀ whole, isTrue e X.env whole = (do let v ← whole; standAt e.pos; holding [v] (truthy v)) := by intro _; rfl) : JT (bs X tbs) W X e (tTru f) :=
  PT_imp (pt_truth h he) fun σ H Q ⟨μ, ps, ph, sr, wd, ok⟩ => ⟨μ, ps, ph, sr, wd, OutOk.bind ok fun x ph1 μ1 H1 v e1 w1 r1 ok1 => by
    cases eb : truB ph1 x with
    | none => simp only [eb] at ok1; exact ok1.elim
    | some b =>
      simp only [eb] at ok1
      refine ⟨b, ?_, ok1 μ1 H1 b Ex.refl w1 rfl⟩
      unfold truB at eb
      split at eb
      · cases eb; cases r1; rfl
      · cases eb; cases r1; rfl
      · cases eb; cases r1; rfl
      · split at eb
        · rename_i hz
          cases eb; cases r1; exact ⟨sizeOk_le hz, rfl⟩
        · cases eb
      · cases es : seqOf ph1 x with
        | none => rw [es] at eb; cases eb
        | some ys =>
          rw [es] at eb
          cases eb
          obtain ⟨a, vs, rfl, hs, ra⟩ := seqOf_ok w1 es r1
          rcases hs with hs | hs
          · exact .inl ⟨vs, hs, by rw [ra.isEmpty]⟩
          · exact .inr (.inl ⟨vs, hs, by rw [ra.isEmpty]⟩)⟩
theorem tyX_of {H : Hp} {μ : List Addr} {ph : PH} {x : PV} {v : V} {c : String} (wd : Wd X.K tbs μ ph H) (r : Rl X.K H μ x v) (e : tyP ph x = some c) : TyX X.K H v (.type c) := by
  unfold tyP at e
  cases r with
  | non => cases e; exact .base .non
  | bl b => cases e; exact .base (.bl b)
  | int b => cases e; exact .base (.int b)
  | str b => cases e; exact .base (.str b)
  | tup h _ => cases e; exact .base (.tup h)
  | kt h _ =>
    cases e
    obtain ⟨o, its, n, h1, h2, _⟩ := h
    exact .kTuple h1 h2
  | fz h _ =>
    cases e
    rcases h with ⟨o, h⟩ | ⟨o, its, n, h1, h2, _⟩
    · exact .base (.frz h)
    · exact .kList h1 h2
  | @ref n a hk =>
    dsimp only at e
    obtain ⟨o, ho, r2⟩ := wd.there hk
    rw [ho] at e
    cases o with
    | lst xs =>
      cases e
      obtain ⟨vs, h1, _⟩ := r2
      exact .base (.lst h1)
    | dK xs =>
      cases e
      obtain ⟨vs, h1, _⟩ := r2
      exact .base (.dK h1)
    | dT xs =>
      cases e
      obtain ⟨vs, h1, _⟩ := r2
      exact .base (.dT h1)
theorem tyP_mem {h : PH} {x : PV} {c : String} (e : tyP h x = some c) : c ∈ Rw.clsAll := by
  unfold tyP at e
  split at e <;> first
    | (cases e; simp [Rw.clsAll]; done)
    | (split at e <;> first | (cases e; simp [Rw.clsAll]; done) | cases e)
/-- isinstance(e, T) -/
theorem j_isi {e : Expr} {f : DE} {x : Str} {n : String} {p1 p2 : Pos} (hn : n ∈ ["tuple", "int", "bool", "str", "list"]) (he : JE (bs X tbs) W X e f) (hi : X.mg ("isinstance" : Str) = none) (hm : X.mg x = none) (hv : bootBuiltins x = some (.type n)) (hg : Gl X ("isinstance" : Str) := by rfl) (hg2 : Gl X x := by rfl)
    (hn2 : x ≠ "__name__" := by decide) (hd2 : (x == ("__debug__" : Str)) = false := by decide)
    (hs : starEach [e, .Name x p2] X.env = (false, eval e X.env) :: starEach [.Name x p2] X.env := by rfl) (hp : (backTo pos (starEach [.Name x p2] X.env)).any (·.1) = false := by rfl) :
    JE (bs X tbs) W X (.Call (.Name ("isinstance" : Str) p1) [e, .Name x p2] [] pos) (eIsi n f) :=
  PE_imp (pe_callB call_isi hg hi (by decide +kernel) (pa_cons he (pa_cons (pe_bltn hg2 hm hv (show RelV (.ty n) (.type n) from rfl) hn2 hd2) pa_nil) hs) (by decide) (by decide) hs hp) fun σ H Q ⟨μ, ps, ph, sr, wd, ok⟩ => ⟨μ, ps, ph, sr, wd, OutOk.bind ok fun z ph1 μ1 H1 v e1 w1 r1 ok1 => by
    cases ec : tyP ph1 z with
    | none => simp only [ec] at ok1; exact ok1.elim
    | some c =>
      simp only [ec] at ok1
      exact ⟨v, .ty n, .type c, .type n, Rw.isC n c, rfl, .ty n, tyX_of w1 r1 ec, kit_ty (Rw.kit_all _ (tyP_mem ec) n hn), ok1 μ1 H1 _ Ex.refl w1 (.bl _)⟩⟩
theorem chain_ok {fa fb fc : DE} {f g : F2} {σ : L2.St} {H : Hp} {Q : VK} (h : tD (bs X tbs) W (eChain f g fa fb fc) σ H Q) : tChain (rP (bs X tbs) f) (rP (bs X tbs) g) (tD (bs X tbs) W fa) (tD (bs X tbs) W fb) (tD (bs X tbs) W fc) σ H Q := by
  obtain ⟨μ, ps, ph, sr, wd, ok⟩ := h
  refine ⟨μ, ps, ph, sr, wd, OutOk.bind ok fun x ph1 μ1 H1 v e1 w1 r1 ok1 => ⟨μ1, ps, ph1, sr.mono e1, w1, OutOk.bind ok1 fun y ph2 μ2 H2 u e2 w2 r2 ok2 => ?_⟩⟩
  refine ⟨μ2, ph2, x, y, w2, r1.mono e2, r2, (OutOk.bind ok2 fun z ph3 μ3 H3 z' e3 w3 r3 ok3 => ?_).op⟩
  cases r3 with
  | bl b =>
    cases b with
    | true => exact ⟨true, rfl, iteT ⟨μ3, ps, ph3, ((sr.mono e1).mono e2).mono e3, w3, OutOk.bind ok3 fun t ph4 μ4 H4 t' e4 w4 r4 ok4 => ⟨μ4, ph4, y, t, w4, (r2.mono e3).mono e4, r4, ok4.op⟩⟩⟩
    | false => exact ⟨false, rfl, iteF (ok3 μ3 H3 _ Ex.refl w3 (.bl false))⟩
  | _ => exact ok3.elim
theorem j_chain {op op' : CmpOp} {a b c : Expr} {fa fb fc : DE} {f g : F2} (ho : OpR X (compareOp op) (rP (bs X tbs) f)) (ho' : OpR X (compareOp op') (rP (bs X tbs) g)) (ha : JE (bs X tbs) W X a fa) (hb : JE (bs X tbs) W X b fb) (hc : JE (bs X tbs) W X c fc)
    (hm : lastMarks [op, op'] [b, c] = false := by with_unfolding_all rfl) : JE (bs X tbs) W X (.Compare a [op, op'] [b, c] pos) (eChain f g fa fb fc) :=
  PE_imp (pe_chain ho ho' ha hb hc hm) fun σ H Q h => chain_ok h
theorem j_tchain {op op' : CmpOp} {a b c : Expr} {fa fb fc : DE} {f g : F2} (ho : OpR X (compareOp op) (rP (bs X tbs) f)) (ho' : OpR X (compareOp op') (rP (bs X tbs) g)) (ha : JE (bs X tbs) W X a fa) (hb : JE (bs X tbs) W X b fb) (hc : JE (bs X tbs) W X c fc)
    (hm : lastMarks [op, op'] [b, c] = false := by with_unfolding_all rfl) : JT (bs X tbs) W X (.Compare a [op, op'] [b, c] pos) (tV (eChain f g fa fb fc)) :=
  PT_imp (pt_chain ho ho' ha hb hc hm) fun σ H Q ⟨μ, ps, ph, sr, wd, ok⟩ => chain_ok (W := W) ⟨μ, ps, ph, sr, wd, OutOk.bind (k := fun x h => match x with | .bl b => .ok b h | _ => .no) ok fun x ph1 μ1 H1 v e1 w1 r1 ok1 => by
    cases r1 with
    | bl b => exact ⟨b, rfl, ok1 μ1 H1 b Ex.refl w1 rfl⟩
    | _ => exact ok1.elim⟩
end
end Dn
namespace Dn
open PySem PySem.Spec PyProof.Rows L2 PySem.SeqAt

/-! ### methods of lists, dicts, texts -/
abbrev FM := PV → List PV → PH → Option (PV × PH)
/-- the kind of a value on which a method is called -/
def kindP (h : PH) : PV → Option String
  | .str _ => some "str"
  | .ref n => match h[n]? with
    | some (.lst _) => some "list"
    | some (.dK _) => some "dict"
    | some (.dT _) => some "dict"
    | none => none
  | .fz _ => some "list"
  | _ => none
def eMt (T : String) (f : FM) (o : DE) (as : DA) : DE := fun s h => (o s h).bind fun x h => if kindP h x = some T then (as s h).bind fun xs h => Out.of (f x xs h) else .no
def rPM (B : Bs) (f : FM) : V → List V → Hp → VK → Prop := fun x xs H Q => ∃ μ ph px ps, Wd B.K B.tbs μ ph H ∧ Rl B.K H μ px x ∧ Rls B.K H μ ps xs ∧ OutN B μ H (f px ps ph) Q
def lstAt (h : PH) (n : Nat) : Option (List PV) := match h[n]? with
  | some (.lst xs) => some xs
  | _ => none
def mAppend : FM := fun x ys h => match x, ys with
  | .ref n, [y] => (lstAt h n).bind fun xs => if decide (xs.length < 16777216) then some (.non, h.set n (.lst (xs ++ [y]))) else none
  | _, _ => none
def mPop : FM := fun x ys h => match x, ys with
  | .ref n, [] => (lstAt h n).bind fun xs => xs[xs.length - 1]?.map fun y => (y, h.set n (.lst xs.dropLast))
  | .ref n, [.int i] => (lstAt h n).bind fun xs => if smallB (2 * i) then (seqIndex? i xs.length).bind fun k => xs[k]?.map fun y => (y, h.set n (.lst (xs.eraseIdx k))) else none
  | _, _ => none
def mExtend : FM := fun x ys h => match x, ys with
  | .ref n, [.ref m] => (lstAt h n).bind fun xs => (lstAt h m).bind fun zs => if sizeOk (xs.length + zs.length) then some (.non, h.set n (.lst (xs ++ zs))) else none
  | _, _ => none
def mReverse : FM := fun x ys h => match x, ys with
  | .ref n, [] => (lstAt h n).map fun xs => (.non, h.set n (.lst xs.reverse))
  | _, _ => none
section
variable {tbs : List Addr} {W : WX} {X : Cx} {pos : Pos}
theorem kind_ok {H : Hp} {μ : List Addr} {ph : PH} {x : PV} {v : V} {T : String} (wd : Wd X.K tbs μ ph H) (r : Rl X.K H μ x v) (e : kindP ph x = some T) : tyV X.K T v H := by
  unfold kindP at e
  cases r with
  | str z => cases e; exact rfl
  | fz h _ => cases e; exact .inl ⟨rfl, _, h.sql⟩
  | @ref n a hk =>
    dsimp only at e
    obtain ⟨o, ho, r2⟩ := wd.there hk
    rw [ho] at e
    cases o with
    | lst xs =>
      cases e
      obtain ⟨vs, h1, _⟩ := r2
      exact .inl ⟨rfl, vs, SqL.of h1⟩
    | dK xs =>
      cases e
      obtain ⟨vs, h1, _⟩ := r2
      exact .inr (.inr (.inl ⟨rfl, .inl ⟨vs, h1⟩⟩))
    | dT xs =>
      cases e
      obtain ⟨vs, h1, _⟩ := r2
      exact .inr (.inr (.inl ⟨rfl, .inr ⟨vs, h1⟩⟩))
  | _ => cases e
variable {o e : Expr} {es : List Expr} {fo : DE} {g : DA} {name : Str} {apos cpos : Pos} {T id : String} {f : FM}
theorem j_mt (pa : PlainAttrs T) (slot : Slot T name id) (hty : typeOf (.builtin id) = pure (.type "method_descriptor")) (hm : MtR X id (rPM (bs X tbs) f)) (ho : JE (bs X tbs) W X o fo) (ha : JA (bs X tbs) W X (e :: es) g)
    (hbase : attributeBase o name X.env (eval o X.env) = eval o X.env := by rfl)
    (hfew : ((backTo cpos (starEach (e :: es) X.env)).all (fun x => !x.1) && (backToKw cpos (keywordEach [] X.env)).all (fun x => x.1.isSome)
      && decide ((e :: es).length + ([] : List Keyword).length + (if ([] : List Keyword).isEmpty then 0 else 1) < 30)) = true := by rfl)
    (hline : (apos.endLine == cpos.line) = true := by rfl) (hs : starEach (e :: es) X.env = (false, eval e X.env) :: starEach es X.env := by rfl) (hplain : (backTo cpos (starEach es X.env)).any (·.1) = false := by rfl) :
    JE (bs X tbs) W X (.Call (.Attribute o name apos) (e :: es) [] cpos) (eMt T f fo g) :=
  PE_imp (pe_bm pa slot hty hm ho ha hbase hfew hline hs hplain) fun σ H Q ⟨μ, ps, ph, sr, wd, ok⟩ => ⟨μ, ps, ph, sr, wd, OutOk.bind ok fun x ph1 μ1 H1 v e1 w1 r1 ok1 => by
    by_cases c : kindP ph1 x = some T
    · simp only [c, if_true] at ok1
      exact ⟨kind_ok w1 r1 c, μ1, ps, ph1, sr.mono e1, w1, OutOk.bind ok1 fun xs ph2 μ2 H2 vs e2 w2 r2 ok2 => ⟨μ2, ph2, x, xs, w2, r1.mono e2, r2, ok2.op⟩⟩
    · simp only [c, if_false] at ok1
      exact ok1.elim⟩
theorem j_mt0 (pa : PlainAttrs T) (slot : Slot T name id) (hty : typeOf (.builtin id) = pure (.type "method_descriptor")) (hm : MtR X id (rPM (bs X tbs) f)) (ho : JE (bs X tbs) W X o fo)
    (hbase : attributeBase o name X.env (eval o X.env) = eval o X.env := by rfl) (hline : (apos.endLine == cpos.line) = true := by rfl) :
    JE (bs X tbs) W X (.Call (.Attribute o name apos) [] [] cpos) (eMt T f fo eNil) :=
  PE_imp (pe_bm0 pa slot hty hm ho hbase hline) fun σ H Q ⟨μ, ps, ph, sr, wd, ok⟩ => ⟨μ, ps, ph, sr, wd, OutOk.bind ok fun x ph1 μ1 H1 v e1 w1 r1 ok1 => by
    by_cases c : kindP ph1 x = some T
    · simp only [c, if_true] at ok1
      exact ⟨kind_ok w1 r1 c, μ1, ph1, x, [], w1, r1, .nil, ok1.op⟩
    · simp only [c, if_false] at ok1
      exact ok1.elim⟩
theorem lstAt_ok {H : Hp} {μ : List Addr} {ph : PH} {n : Nat} {a : Addr} {xs : List PV} (wd : Wd X.K tbs μ ph H) (hk : μ[n]? = some a) (e : lstAt ph n = some xs) : ∃ vs, H a = some (.lst vs) ∧ Rls X.K H μ xs vs := by
  unfold lstAt at e
  split at e
  · rename_i ys h
    cases e
    exact wd.ob _ a _ hk h
  · cases e
theorem Wd.setLst {K : PySem.W.Frag} {H : Hp} {μ : List Addr} {ph : PH} {n : Nat} {a : Addr} {xs : List PV} {vs : List V} (wd : Wd K tbs μ ph H) (hk : μ[n]? = some a) (r : Rls K H μ xs vs) : Wd K tbs μ (ph.set n (.lst xs)) (upd H a (.lst vs)) ∧ Ex μ H μ (upd H a (.lst vs)) := by
  obtain ⟨m0, h0, r0⟩ := wd.there hk
  obtain ⟨u, hu, nt, nf, nb⟩ := r0.there
  exact wd.put hk ⟨vs, upd_same, r.mono (Ex.put hu nt nf)⟩
theorem Rls.dropLast {K : PySem.W.Frag} {H : Hp} {μ : List Addr} {xs : List PV} {vs : List V} (r : Rls K H μ xs vs) : Rls K H μ xs.dropLast vs.dropLast := by
  rw [List.dropLast_eq_take, List.dropLast_eq_take, r.len]
  exact r.take _
theorem Rls.erase {K : PySem.W.Frag} {H : Hp} {μ : List Addr} : ∀ {xs : List PV} {vs : List V} (k : Nat), Rls K H μ xs vs → Rls K H μ (xs.eraseIdx k) (vs.eraseIdx k)
  | _, _, _, .nil => .nil
  | _, _, 0, .cons _ b => b
  | _, _, k + 1, .cons a b => .cons a (Rls.erase k b)
theorem sizeLt {n : Nat} (h : n < 16777216) : n < sizeLine := by
  rw [sizeLine_eq]
  exact h
theorem mr_append : MtR X "list.append" (rPM (bs X tbs) mAppend) := by
  intro pins s σ H x xs v us Q I rx rs ⟨μ, ph, px, ps, wd, r1, r2, q⟩
  unfold mAppend at q
  split at q
  · rename_i n y
    cases r1 with
    | @ref _ a hk =>
    obtain ⟨w, rfl, rw_⟩ := r2.one'
    cases el : lstAt ph n with
    | none => rw [el] at q; exact q.elim
    | some ys =>
      rw [el] at q
      simp only [Option.bind_some] at q
      split at q
      · rename_i hz
        obtain ⟨vs, h1, ra⟩ := lstAt_ok wd hk el
        obtain ⟨w2, e2⟩ := wd.setLst hk (ra.snoc rw_)
        exact mt_append pins s σ H _ _ v us Q I rx rs ⟨a, vs, w, rfl, rfl, h1, by rw [← ra.len]; exact sizeLt (of_decide_eq_true hz), q _ _ _ e2 w2 .non⟩
      · exact q.elim
  · exact q.elim
theorem mr_pop : MtR X "list.pop" (rPM (bs X tbs) mPop) := by
  intro pins s σ H x xs v us Q I rx rs ⟨μ, ph, px, ps, wd, r1, r2, q⟩
  unfold mPop at q
  split at q
  · rename_i n
    cases r1 with
    | @ref _ a hk =>
    cases r2
    cases el : lstAt ph n with
    | none => rw [el] at q; exact q.elim
    | some ys =>
      rw [el] at q
      simp only [Option.bind_some] at q
      cases e : ys[ys.length - 1]? with
      | none => rw [e] at q; exact q.elim
      | some y =>
        rw [e] at q
        obtain ⟨vs, h1, ra⟩ := lstAt_ok wd hk el
        obtain ⟨w, h2, rw_⟩ := ra.at e
        obtain ⟨w2, e2⟩ := wd.setLst hk ra.dropLast
        exact mt_pop pins s σ H _ _ v us Q I rx rs ⟨a, vs, w, rfl, rfl, h1, by rw [← ra.len]; exact h2, q _ _ _ e2 w2 (rw_.mono e2)⟩
  · rename_i n i
    cases r1 with
    | @ref _ a hk =>
    obtain ⟨w0, rfl, rw0⟩ := r2.one'
    cases rw0
    cases el : lstAt ph n with
    | none => rw [el] at q; exact q.elim
    | some ys =>
      rw [el] at q
      simp only [Option.bind_some] at q
      split at q
      · rename_i hz
        have hz := of_decide_eq_true hz
        cases ek : seqIndex? i ys.length with
        | none => rw [ek] at q; exact q.elim
        | some k =>
          rw [ek] at q
          simp only [Option.bind_some] at q
          cases e : ys[k]? with
          | none => rw [e] at q; exact q.elim
          | some y =>
            rw [e] at q
            obtain ⟨vs, h1, ra⟩ := lstAt_ok wd hk el
            obtain ⟨w, h2, rw_⟩ := ra.at e
            obtain ⟨w2, e2⟩ := wd.setLst hk (ra.erase k)
            exact mt_popAt pins s σ H _ _ v us Q I rx rs ⟨a, vs, i, k, w, rfl, rfl, h1, by omega, by omega, by rw [← ra.len]; exact ek, h2, q _ _ _ e2 w2 (rw_.mono e2)⟩
      · exact q.elim
  · exact q.elim
theorem mr_extend : MtR X "list.extend" (rPM (bs X tbs) mExtend) := by
  intro pins s σ H x xs v us Q I rx rs ⟨μ, ph, px, ps, wd, r1, r2, q⟩
  unfold mExtend at q
  split at q
  · rename_i n m
    cases r1 with
    | @ref _ a hk =>
    obtain ⟨w, rfl, rw_⟩ := r2.one'
    cases rw_ with
    | @ref _ b hkb =>
    cases el : lstAt ph n with
    | none => rw [el] at q; exact q.elim
    | some ys =>
      rw [el] at q
      simp only [Option.bind_some] at q
      cases em : lstAt ph m with
      | none => rw [em] at q; exact q.elim
      | some zs =>
        rw [em] at q
        simp only [Option.bind_some] at q
        split at q
        · rename_i hz
          obtain ⟨vs, h1, ra⟩ := lstAt_ok wd hk el
          obtain ⟨vz, h3, rb⟩ := lstAt_ok wd hkb em
          obtain ⟨w2, e2⟩ := wd.setLst hk (ra.app rb)
          exact mt_extend pins s σ H _ _ v us Q I rx rs ⟨a, b, vs, vz, rfl, rfl, h1, h3, by rw [← ra.len, ← rb.len]; exact sizeOk_le hz, q _ _ _ e2 w2 .non⟩
        · exact q.elim
  · exact q.elim
theorem mr_reverse : MtR X "list.reverse" (rPM (bs X tbs) mReverse) := by
  intro pins s σ H x xs v us Q I rx rs ⟨μ, ph, px, ps, wd, r1, r2, q⟩
  unfold mReverse at q
  split at q
  · rename_i n
    cases r1 with
    | @ref _ a hk =>
    cases r2
    cases el : lstAt ph n with
    | none => rw [el] at q; exact q.elim
    | some ys =>
      rw [el] at q
      obtain ⟨vs, h1, ra⟩ := lstAt_ok wd hk el
      obtain ⟨w2, e2⟩ := wd.setLst hk ra.rev
      exact mt_reverse pins s σ H _ _ v us Q I rx rs ⟨a, vs, rfl, rfl, h1, q _ _ _ e2 w2 .non⟩
  · exact q.elim
end
end Dn
namespace Dn
open PySem PySem.Spec PyProof.Rows L2 PySem.SeqAt

/-! ### targets of any kind -/
abbrev GH := PV → Sl → PH → Option (Sl × PH)
abbrev GHs := List PV → Sl → PH → Option (Sl × PH)
abbrev F3 := PV → PV → PV → PH → Option PH
def OutH (B : Bs) (μ : List Addr) (H : Hp) (o : Option (Sl × PH)) (Q : L2.St → Hp → Prop) : Prop := match o with
  | some (s, h) => ∀ μ' H' σ', Ex μ H μ' H' → Wd B.K B.tbs μ' h H' → Sr B.K H' μ' s σ' → Q σ' H'
  | none => False
def gH (B : Bs) (g : GH) : TG := fun v σ H Q => ∃ μ ps ph px, Sr B.K H μ ps σ ∧ Wd B.K B.tbs μ ph H ∧ Rl B.K H μ px v ∧ OutH B μ H (g px ps ph) Q
def gHs (B : Bs) (g : GHs) : TGs := fun vs σ H Q => ∃ μ ps ph pxs, Sr B.K H μ ps σ ∧ Wd B.K B.tbs μ ph H ∧ Rls B.K H μ pxs vs ∧ OutH B μ H (g pxs ps ph) Q
def JH (B : Bs) (X : Cx) (tg : Expr) (g : GH) : Prop := PG X tg (gH B g)
def JHs (B : Bs) (X : Cx) (tg : List Expr) (g : GHs) : Prop := PGs X tg (gHs B g)
def hNm (i : Nat) : GH := fun v s h => some (s.set i (some v), h)
def hSub (f : F3) (o i : DE) : GH := fun v s h => match o s h with
  | .ok ov h1 => match i s h1 with
    | .ok iv h2 => (f ov iv v h2).map fun h3 => (s, h3)
    | _ => none
  | _ => none
def hsNil : GHs := fun vs s h => match vs with
  | [] => some (s, h)
  | _ => none
def hsCons (g : GH) (r : GHs) : GHs := fun vs s h => match vs with
  | v :: vs => (g v s h).bind fun p => r vs p.1 p.2
  | [] => none
def hTp (n : Nat) (g : GHs) : GH := fun v s h => match v with
  | .tup xs => if xs.length = n then g xs s h else none
  | .kt xs => if xs.length = n then g xs s h else none
  | _ => none
def sAsgH (g : GH) (f : DE) : DS := fun s h => (f s h).then s fun v h => match g v s h with
  | some (s', h') => .nx s' h'
  | none => .no
/-- o[i] = v -/
def rP3 (B : Bs) (f : F3) : TSet := fun o i v H Q => ∃ μ ph po pi pv, Wd B.K B.tbs μ ph H ∧ Rl B.K H μ po o ∧ Rl B.K H μ pi i ∧ Rl B.K H μ pv v ∧ match f po pi pv ph with
  | some h => ∀ μ' H', Ex μ H μ' H' → Wd B.K B.tbs μ' h H' → Q H'
  | none => False
def fSet : F3 := fun o i v h => match o with
  | .ref n => match h[n]?, i with
    | some (.lst xs), .int k => (ixN xs.length k).map fun j => h.set n (.lst (xs.set j v))
    | some (.dK kvs), i => (keyOf i).bind fun k => if decide (kvs.length < 16777216) then some (h.set n (.dK (putG kvs k v))) else none
    | some (.dT kvs), .tup ks => (keysOf ks).bind fun k => if decide (kvs.length < 16777216) then some (h.set n (.dT (putG kvs k v))) else none
    | _, _ => none
  | _ => none
section
variable {tbs : List Addr} {W : WX} {X : Cx} {pos : Pos}
theorem PG_imp' {X : Cx} {tg : Expr} {t t' : TG} (h : PG X tg t) (k : ∀ v σ H Q, t' v σ H Q → t v σ H Q) : PG X tg t' := ⟨fun pins s σ H v u Q I r q => h.run pins s σ H v u Q I r (k v σ H Q q)⟩
theorem h_nm (i : Nat) {x : Str} (hN : X.N.Nodup) (hi : X.N[i]? = some x := by rfl) (hx : Loc X.env.scope x := by first | exact Or.inl rfl | exact Or.inr rfl) (hf : X.fn x = true ∨ X.env.scope.names.lookup x = some .local := by first | exact .inl rfl | exact .inr rfl | assumption) : JH (bs X tbs) X (.Name x pos) (hNm i) :=
  PG_imp' (pg_name hN hi hx hf) fun v σ H Q ⟨μ, ps, ph, px, sr, wd, r, ok⟩ => ok μ H _ Ex.refl wd (sr.set i r)
theorem h_sub {o i : Expr} {fo fi : DE} {f : F3} (hs : PSet X (rP3 (bs X tbs) f)) (ho : JE (bs X tbs) W0 X o fo) (hi : JE (bs X tbs) W0 X i fi)
    (ha : ∀ v, assign (.Subscript o i pos) X.env v = (do
      let ov ← holding [v] (eval o X.env)
      let iv ← holding [v, ov] (eval i X.env)
      standAt pos
      holding [v, ov, iv] (setItem ov iv v)
      release [v, ov, iv] []) := by intro _; rfl) : JH (bs X tbs) X (.Subscript o i pos) (hSub f fo fi) :=
  PG_imp' (pg_sub ho hi hs ha) fun v σ H Q ⟨μ, ps, ph, px, sr, wd, r, ok⟩ => by
    unfold hSub at ok
    refine ⟨μ, ps, ph, sr, wd, ?_⟩
    cases e1 : fo ps ph with
    | no => rw [e1] at ok; exact ok.elim
    | err x h => rw [e1] at ok; exact ok.elim
    | ok ov h1 =>
      rw [e1] at ok
      dsimp only at ok
      intro μ1 H1 v1 x1 w1 r1
      refine ⟨μ1, ps, h1, sr.mono x1, w1, ?_⟩
      cases e2 : fi ps h1 with
      | no => rw [e2] at ok; exact ok.elim
      | err x h => rw [e2] at ok; exact ok.elim
      | ok iv h2 =>
        rw [e2] at ok
        dsimp only at ok
        intro μ2 H2 v2 x2 w2 r2
        refine ⟨μ2, h2, ov, iv, px, w2, r1.mono x2, r2, (r.mono x1).mono x2, ?_⟩
        cases e3 : f ov iv px h2 with
        | none => rw [e3] at ok; exact ok.elim
        | some h3 =>
          rw [e3] at ok
          exact fun μ3 H3 x3 w3 => ok μ3 H3 σ ((x1.trans x2).trans x3) w3 (((sr.mono x1).mono x2).mono x3)
theorem hs_nil : JHs (bs X tbs) X [] hsNil := PGs_imp pgs_nil fun vs σ H Q ⟨μ, ps, ph, pxs, sr, wd, r, ok⟩ => by
  unfold hsNil at ok
  cases r with
  | nil => exact ⟨rfl, ok μ H σ Ex.refl wd sr⟩
  | cons _ _ => exact ok.elim
theorem hs_cons {e : Expr} {es : List Expr} {g : GH} {r : GHs} (h1 : JH (bs X tbs) X e g) (h2 : JHs (bs X tbs) X es r) (hs : (assignEach (e :: es) X.env).map (·.2) = assign e X.env :: (assignEach es X.env).map (·.2) := by rfl) : JHs (bs X tbs) X (e :: es) (hsCons g r) :=
  PGs_imp (pgs_cons h1 h2 hs) fun vs σ H Q ⟨μ, ps, ph, pxs, sr, wd, rr, ok⟩ => by
    cases rr with
    | nil => exact ok.elim
    | @cons x v xs ws ra rb =>
      unfold hsCons at ok
      dsimp only at ok
      refine ⟨v, ws, rfl, μ, ps, ph, x, sr, wd, ra, ?_⟩
      cases e1 : g x ps ph with
      | none => rw [e1] at ok; exact ok.elim
      | some p =>
        rw [e1] at ok
        obtain ⟨s1, h1⟩ := p
        simp only [Option.bind_some] at ok
        intro μ1 H1 σ1 x1 w1 sr1
        refine ⟨μ1, s1, h1, xs, sr1, w1, rb.mono x1, ?_⟩
        cases e2 : r xs s1 h1 with
        | none => rw [e2] at ok; exact ok.elim
        | some p2 =>
          rw [e2] at ok
          obtain ⟨s2, h2⟩ := p2
          exact fun μ2 H2 σ2 x2 => ok μ2 H2 σ2 (x1.trans x2)
theorem h_tp {es : List Expr} {k n : Nat} {g : GHs} (hc : X.calm = true) (h : JHs (bs X tbs) X es g) (hn : (assignEach es X.env).length = n := by rfl) (hst : (assignEach es X.env).findIdx? (·.1) = none := by rfl) : JH (bs X tbs) X (.Tuple es k pos) (hTp n g) :=
  PG_imp' (pg_tup hc h hn hst) fun v σ H Q ⟨μ, ps, ph, px, sr, wd, r, ok⟩ => by
    unfold hTp at ok
    cases r with
    | @tup a vs xs ha ra =>
      dsimp only at ok
      split at ok
      · rename_i hl
        exact ⟨a, vs, rfl, SqT.of ha, by rw [← ra.len]; exact hl, μ, ps, ph, xs, sr, wd, ra, ok⟩
      · exact ok.elim
    | @kt a vs xs ha ra =>
      dsimp only at ok
      split at ok
      · rename_i hl
        exact ⟨a, vs, rfl, .inr ha, by rw [← ra.len]; exact hl, μ, ps, ph, xs, sr, wd, ra, ok⟩
      · exact ok.elim
    | _ => exact ok.elim
theorem js_asgH {tg e : Expr} {f : DE} {g : GH} (he : JE (bs X tbs) W X e f) (hg : JH (bs X tbs) X tg g) (hs : swapsWithSole [tg] e pos.line X.env = pure false := by rfl) (hw : swappedStores [tg] e X.env = pure none := by rfl)
    (h1 : (assignEach [tg] X.env).map (·.2) = [assign tg X.env] := by rfl) : JS (bs X tbs) W X (.Assign [tg] e pos) (sAsgH g f) :=
  PS_imp (ps_asg he hg hs hw h1) fun D σ H ⟨μ, ps, ph, sr, wd, ok⟩ => ⟨μ, ps, ph, sr, wd, OutOk.then_ sr ok fun x ph1 μ1 H1 v e1 w1 r1 ok1 => by
    refine ⟨μ1, ps, ph1, x, sr.mono e1, w1, r1, ?_⟩
    cases eg : g x ps ph1 with
    | none => rw [eg] at ok1; exact ok1.elim
    | some p =>
      rw [eg] at ok1
      obtain ⟨s2, h2⟩ := p
      exact ok1⟩
theorem Wd.setK {K : PySem.W.Frag} {H : Hp} {μ : List Addr} {ph : PH} {n : Nat} {a : Addr} {xs : List (Key × PV)} {vs : List (Key × V)} (wd : Wd K tbs μ ph H) (hk : μ[n]? = some a) (r : KRl K H μ xs vs) : Wd K tbs μ (ph.set n (.dK xs)) (upd H a (.dK vs)) ∧ Ex μ H μ (upd H a (.dK vs)) := by
  obtain ⟨m0, h0, r0⟩ := wd.there hk
  obtain ⟨u, hu, nt, nf, nb⟩ := r0.there
  exact wd.put hk ⟨vs, upd_same, r.mono (Ex.put hu nt nf)⟩
theorem Wd.setT {K : PySem.W.Frag} {H : Hp} {μ : List Addr} {ph : PH} {n : Nat} {a : Addr} {xs : List (List Key × PV)} {vs : List (List Key × V)} (wd : Wd K tbs μ ph H) (hk : μ[n]? = some a) (r : KRl K H μ xs vs) : Wd K tbs μ (ph.set n (.dT xs)) (upd H a (.dT vs)) ∧ Ex μ H μ (upd H a (.dT vs)) := by
  obtain ⟨m0, h0, r0⟩ := wd.there hk
  obtain ⟨u, hu, nt, nf, nb⟩ := r0.there
  exact wd.put hk ⟨vs, upd_same, r.mono (Ex.put hu nt nf)⟩
theorem st_set (hu : X.A.units + 1 < cLine) : PSet X (rP3 (bs X tbs) fSet) := by
  intro pins s σ H o i v ov iv u Q I ro ri rv ⟨μ, ph, po, pi, pv, wd, r1, r2, r3, q⟩
  unfold fSet at q
  cases r1 with
  | @ref n a hk =>
    dsimp only at q
    obtain ⟨m, hm, r0⟩ := wd.there hk
    rw [hm] at q
    cases m with
    | lst xs =>
      cases r2 with
      | int k =>
        obtain ⟨vs, h1, ra⟩ := r0
        dsimp only at q
        cases e : ixN xs.length k with
        | none => rw [e] at q; exact q.elim
        | some j =>
          rw [e] at q
          obtain ⟨w2, e2⟩ := wd.setLst hk (ra.set r3 j)
          exact set_list pins s σ H _ _ _ ov iv u Q I ro ri rv ⟨a, vs, k, j, rfl, rfl, h1, by rw [← ra.len]; exact e, q μ _ e2 w2⟩
      | _ => exact q.elim
    | dK kvs =>
      dsimp only at q
      cases e : keyOf pi with
      | none => rw [e] at q; exact q.elim
      | some k =>
        rw [e] at q
        simp only [Option.bind_some] at q
        by_cases hz : kvs.length < 16777216
        · rw [if_pos (decide_eq_true hz)] at q
          obtain ⟨vs, h1, ra⟩ := r0
          obtain ⟨w2, e2⟩ := wd.setK hk (ra.put (k := k) r3)
          have ey := keyOf_ok e r2
          subst ey
          cases ro
          exact d_setItem hu I (DPut.k (v := v) h1 (by rw [← ra.len]; exact sizeLt hz)) ri rv fun s' I' => ⟨_, I', q μ _ e2 w2⟩
        · rw [if_neg (by simpa using hz)] at q
          exact q.elim
    | dT kvs =>
      cases r2 with
      | @tup b ws ks hb rb =>
        dsimp only at q
        cases e : keysOf ks with
        | none => rw [e] at q; exact q.elim
        | some k =>
          rw [e] at q
          simp only [Option.bind_some] at q
          by_cases hz : kvs.length < 16777216
          · rw [if_pos (decide_eq_true hz)] at q
            obtain ⟨vs, h1, ra⟩ := r0
            obtain ⟨w2, e2⟩ := wd.setT hk (ra.put (k := k) r3)
            have ey := keysOf_ok e rb
            subst ey
            cases ro
            exact d_setItem hu I (DPut.t (v := v) h1 hb (by rw [← ra.len]; exact sizeLt hz)) ri rv fun s' I' => ⟨_, I', q μ _ e2 w2⟩
          · rw [if_neg (by simpa using hz)] at q
            exact q.elim
      | _ => exact q.elim
  | _ => exact q.elim

/-! ### while -/
def sWhile (c : DT) (b : DS) : Nat → DS
  | 0, _, _ => .no
  | n + 1, s, h => match c s h with
    | .ok true h1 => match b s h1 with
      | .nx s2 h2 => sWhile c b n s2 h2
      | .ct s2 h2 => sWhile c b n s2 h2
      | .bk s2 h2 => .nx s2 h2
      | .rt v h2 => .rt v h2
      | .err e s2 h2 => .err e s2 h2
      | .no => .no
    | .ok false h1 => .nx s h1
    | .err e h1 => .err e s h1
    | .no => .no
theorem js_while {c : Expr} {body : List Stmt} {t : DT} {f : DS} (n : Nat) (hp : PassesOwn (model X.prog X.w) X.A X.env X.xe) (hc : JT (bs X tbs) W X c t) (hb : JSs (bs X tbs) W X body f) : JS (bs X tbs) W X (.While c body [] pos) (sWhile t f n) :=
  PS_imp (ps_while hp hc hb) fun D σ H ⟨μ, ps, ph, sr, wd, ok⟩ => by
    refine ⟨fun m σ H => ∃ μ ps ph, Sr X.K H μ ps σ ∧ Wd X.K tbs μ ph H ∧ OutSOk (bs X tbs) W μ H (sWhile t f m ps ph) D, ⟨n, μ, ps, ph, sr, wd, ok⟩, ?_⟩
    rintro m σ H ⟨μ, ps, ph, sr, wd, ok⟩
    cases m with
    | zero => exact ok.elim
    | succ m =>
      unfold sWhile at ok
      refine ⟨μ, ps, ph, sr, wd, ?_⟩
      cases e : t ps ph with
      | no => rw [e] at ok; exact ok.elim
      | err x h => 
        rw [e] at ok
        exact fun μ1 H1 cls d x1 w1 r1 => ok μ1 H1 σ cls d x1 w1 (sr.mono x1) r1
      | ok b h1 =>
        rw [e] at ok
        intro μ1 H1 b' x1 w1 eb
        subst eb
        cases b with
        | false => exact iteF (ok μ1 H1 σ x1 w1 (sr.mono x1))
        | true =>
          dsimp only at ok
          refine iteT ⟨fun σ' H' => ∃ μ ps ph, Sr X.K H' μ ps σ' ∧ Wd X.K tbs μ ph H' ∧ OutSOk (bs X tbs) W μ H' (sWhile t f m ps ph) D, fun σ' H' h => ⟨m, Nat.lt_succ_self m, h⟩, μ1, ps, h1, sr.mono x1, w1, ?_⟩
          cases e2 : f ps h1 with
          | nx s2 h2 => rw [e2] at ok; exact fun μ2 H2 σ2 x2 w2 r2 => ⟨μ2, s2, h2, r2, w2, OutSOk.ext ok (x1.trans x2)⟩
          | ct s2 h2 => rw [e2] at ok; exact fun μ2 H2 σ2 x2 w2 r2 => ⟨μ2, s2, h2, r2, w2, OutSOk.ext ok (x1.trans x2)⟩
          | bk s2 h2 => rw [e2] at ok; exact fun μ2 H2 σ2 x2 w2 r2 => ok μ2 H2 σ2 (x1.trans x2) w2 r2
          | rt v h2 => rw [e2] at ok; exact fun μ2 H2 σ2 x2 w2 r2 => ok μ2 H2 σ2 (x1.trans x2) w2 r2
          | err z s2 h2 => rw [e2] at ok; exact fun μ2 H2 σ2 cls d x2 w2 r2 r3 => ok μ2 H2 σ2 cls d (x1.trans x2) w2 r2 r3
          | no => rw [e2] at ok; exact ok.elim
end
end Dn
namespace Dn
open PySem PySem.Spec PyProof.Rows L2 PySem.SeqAt

/-! ### dict displays -/
def pairsD : List (DE × DE) → Sl → PH → Out (List (Key × PV))
  | [], _, h => .ok [] h
  | (k, v) :: r, s, h => (k s h).bind fun kx h => (v s h).bind fun y h => match keyOf kx with
    | some k => (pairsD r s h).bind fun ps h => .ok ((k, y) :: ps) h
    | none => .no
def mergeG (kvs more : List (Key × PV)) : List (Key × PV) := more.foldl (fun acc kv => putG acc kv.1 kv.2) kvs
def isNewK (h : PH) (n : Nat) : Bool := match h[n]? with
  | some (.dK []) => true
  | _ => false
def eDisp (ps : List (DE × DE)) : DE := fun s h => (pairsD ps s (h ++ [.dK []])).bind fun kvs h1 => if isNewK h1 h.length = true ∧ kvs.length ≤ 15 then .ok (.ref h.length) (h1.set h.length (.dK (mergeG [] kvs))) else .no
def eDictK : DE := fun _ h => .ok (.ref h.length) (h ++ [.dK []])
def eDictT : DE := fun _ h => .ok (.ref h.length) (h ++ [.dT []])
section
variable {tbs : List Addr} {W : WX} {X : Cx} {pos : Pos}
theorem j_dictK : JE (bs X tbs) W X (.Dict [] [] pos) eDictK := PE_imp pe_dnewK fun σ H Q ⟨μ, ps, ph, sr, wd, ok⟩ p hp =>
  ok _ _ _ (Ex.grow hp _) (wd.grow hp ⟨[], upd_same, .nil⟩) (.ref (by rw [← wd.len]; simp))
theorem j_dictT : JE (bs X tbs) W X (.Dict [] [] pos) eDictT := PE_imp pe_dnewT fun σ H Q ⟨μ, ps, ph, sr, wd, ok⟩ p hp =>
  ok _ _ _ (Ex.grow hp _) (wd.grow hp ⟨[], upd_same, .nil⟩) (.ref (by rw [← wd.len]; simp))
/-- the pairs of a display -/
inductive JPs (B : Bs) (W : WX) (X : Cx) (pos : Pos) : List (Option Expr) → List Expr → List (DE × DE) → Prop
  | nil : JPs B W X pos [] [] []
  | cons {k v : Expr} {ks : List (Option Expr)} {vs : List Expr} {f g : DE} {r : List (DE × DE)} : JE B W X k f → JE B W X v g → JPs B W X pos ks vs r → JPs B W X pos (some k :: ks) (v :: vs) ((f, g) :: r)
theorem JPs.pps {B : Bs} {ks : List (Option Expr)} {vs : List Expr} {r : List (DE × DE)} (h : JPs B W X pos ks vs r) : PPs X pos ks vs (r.map fun p => (tD B W p.1, tD B W p.2)) := by
  induction h with
  | nil => exact pps_nil
  | cons a b _ ih => exact pps_cons a b ih
theorem KRl.keys {K : PySem.W.Frag} {H : Hp} {μ : List Addr} {kvs : List (Key × PV)} {r : List (Key × V)} (h : KRl K H μ kvs r) : kvs.length = r.length := h.len
theorem pairs_ok : ∀ {r : List (DE × DE)} {μ : List Addr} {ps : Sl} {ph : PH} {H : Hp} {σ : L2.St} {Q : List (V × V) → Hp → Prop}, Sr X.K H μ ps σ → Wd X.K tbs μ ph H →
    OutOk (bs X tbs) W (fun H' μ' (kvs : List (Key × PV)) (vs : List (V × V)) => ∃ rs, KRl X.K H' μ' kvs rs ∧ vs = rs.map fun kv => (kV kv.1, kv.2)) μ H σ (pairsD r ps ph) Q →
    tPairs (r.map fun p => (tD (bs X tbs) W p.1, tD (bs X tbs) W p.2)) σ H Q
  | [], μ, ps, ph, H, σ, Q, sr, wd, ok => ok μ H [] Ex.refl wd ⟨[], .nil, rfl⟩
  | (f, g) :: r, μ, ps, ph, H, σ, Q, sr, wd, ok => by
    unfold pairsD at ok
    refine ⟨μ, ps, ph, sr, wd, OutOk.bind ok fun x ph1 μ1 H1 v e1 w1 r1 ok1 => ⟨μ1, ps, ph1, sr.mono e1, w1, OutOk.bind ok1 fun y ph2 μ2 H2 u e2 w2 r2 ok2 => ?_⟩⟩
    cases ek : keyOf x with
    | none => rw [ek] at ok2; exact ok2.elim
    | some k =>
      rw [ek] at ok2
      refine pairs_ok ((sr.mono e1).mono e2) w2 (OutOk.bind ok2 fun kvs ph3 μ3 H3 vs e3 w3 r3 ok3 => ?_)
      obtain ⟨rs, q1, rfl⟩ := r3
      have ev := keyOf_ok ek r1
      subst ev
      exact ok3 μ3 H3 _ Ex.refl w3 ⟨(k, u) :: rs, .cons (r2.mono e3) q1, rfl⟩
theorem KRl.merge {K : PySem.W.Frag} {H : Hp} {μ : List Addr} : ∀ {more : List (Key × PV)} {ms : List (Key × V)} {kvs : List (Key × PV)} {rs : List (Key × V)}, KRl K H μ more ms → KRl K H μ kvs rs → KRl K H μ (mergeG kvs more) (mergeK rs ms)
  | _, _, _, _, .nil, h => h
  | _, _, _, _, @KRl.cons _ _ _ _ k x v r t a b, h => by
    have z := KRl.merge b (h.put (k := k) a)
    exact z
theorem j_disp {ks : List (Option Expr)} {vs : List Expr} {r : List (DE × DE)} (h : JPs (bs X tbs) W X pos ks vs r) (hall : ks.all (·.isSome) = true := by rfl) (hl : ks.length = vs.length := by rfl) (h0 : ks ≠ [] := by exact nofun) (h15 : ks.length ≤ 15 := by decide) :
    JE (bs X tbs) W X (.Dict ks vs pos) (eDisp r) := PE_imp (pe_disp h.pps hall hl h0 h15) fun σ H Q ⟨μ, ps, ph, sr, wd, ok⟩ p hp => by
  have x0 : Ex μ H (μ ++ [p]) (upd H p (.dK [])) := Ex.grow hp _
  have w0 : Wd X.K tbs (μ ++ [p]) (ph ++ [.dK []]) (upd H p (.dK [])) := wd.grow hp ⟨[], upd_same, .nil⟩
  have hat : (μ ++ [p])[ph.length]? = some p := by rw [← wd.len]; simp
  refine pairs_ok (sr.mono x0) w0 (OutOk.bind (OutOk.ext ok x0) fun kvs ph1 μ1 H1 vs1 e1 w1 r1 ok1 => ?_)
  obtain ⟨rs, q1, rfl⟩ := r1
  have hat1 := e1.pre _ _ hat
  by_cases c : isNewK ph1 ph.length = true ∧ kvs.length ≤ 15
  · rw [if_pos c] at ok1
    obtain ⟨c1, c2⟩ := c
    unfold isNewK at c1
    split at c1
    · rename_i hd
      obtain ⟨r0, h1, h2⟩ := w1.ob _ p _ hat1 hd
      cases h2
      refine ⟨h1, rs, rfl, by rw [← q1.len]; exact c2, ?_⟩
      obtain ⟨w2, e2⟩ := w1.setK hat1 (KRl.merge q1 (KRl.nil (K := X.K) (H := H1) (μ := μ1)))
      exact ok1 _ _ _ e2 w2 (.ref hat1)
    · cases c1
  · rw [if_neg c] at ok1
    exact ok1.elim

/-! ### list(range(..)), tuple(range(..)), xs[::-1] -/
abbrev DRg := Sl → PH → Out (Int × Int)
def rg1 (a : DE) : DRg := fun s h => (a s h).bind fun x h => match x with
  | .int n => .ok (0, n) h
  | _ => .no
def rg2 (a b : DE) : DRg := fun s h => (a s h).bind fun x h => (b s h).bind fun y h => match x, y with
  | .int i, .int j => .ok (i, j) h
  | _, _ => .no
def tRgD (B : Bs) (W : WX) (f : DRg) : L2.St → Hp → (Int → Int → Hp → Prop) → Prop := fun σ H Q => ∃ μ ps ph, Sr B.K H μ ps σ ∧ Wd B.K B.tbs μ ph H ∧ OutOk B W (fun _ _ (a b : Int × Int) => a = b) μ H σ (f ps ph) fun p H' => Q p.1 p.2 H'
def JRg (B : Bs) (W : WX) (X : Cx) (e : Expr) (f : DRg) : Prop := PRg X e (tRgD B W f)
theorem PRg_imp {e : Expr} {t t' : L2.St → Hp → (Int → Int → Hp → Prop) → Prop} (h : PRg X e t) (k : ∀ σ H Q, t' σ H Q → t σ H Q) : PRg X e t' := fun pins s σ H Q I q => h pins s σ H Q I (k σ H Q q)
theorem jr_1 {a : Expr} {f : DE} {p : Pos} (hg : Gl X "range") (hm : X.mg "range" = none) (ha : JE (bs X tbs) W X a f) (na : starEach [a] X.env = (false, eval a X.env) :: starEach [] X.env := by rfl) : JRg (bs X tbs) W X (.Call (.Name "range" p) [a] [] pos) (rg1 f) :=
  PRg_imp (prg_1 hg hm ha na) fun σ H Q ⟨μ, ps, ph, sr, wd, ok⟩ => ⟨μ, ps, ph, sr, wd, OutOk.bind ok fun x ph1 μ1 H1 v e1 w1 r1 ok1 => by
    cases r1 with
    | int n => exact ⟨n, rfl, ok1 μ1 H1 _ Ex.refl w1 rfl⟩
    | _ => exact ok1.elim⟩
theorem jr_2 {a b : Expr} {f g : DE} {p : Pos} (hg : Gl X "range") (hm : X.mg "range" = none) (ha : JE (bs X tbs) W X a f) (hb : JE (bs X tbs) W X b g) (na : starEach [a, b] X.env = (false, eval a X.env) :: starEach [b] X.env := by rfl)
    (nb : starEach [b] X.env = (false, eval b X.env) :: starEach [] X.env := by rfl) (hp : (backTo pos (starEach [b] X.env)).any (·.1) = false := by rfl) : JRg (bs X tbs) W X (.Call (.Name "range" p) [a, b] [] pos) (rg2 f g) :=
  PRg_imp (prg_2 hg hm ha hb na nb hp) fun σ H Q ⟨μ, ps, ph, sr, wd, ok⟩ => ⟨μ, ps, ph, sr, wd, OutOk.bind ok fun x ph1 μ1 H1 v e1 w1 r1 ok1 => ⟨μ1, ps, ph1, sr.mono e1, w1, OutOk.bind ok1 fun y ph2 μ2 H2 u e2 w2 r2 ok2 => by
    cases r1 with
    | int i =>
      cases r2 with
      | int j => exact ⟨i, j, rfl, rfl, ok2 μ2 H2 _ Ex.refl w2 rfl⟩
      | _ => exact ok2.elim
    | _ => exact ok2.elim⟩⟩
def rgOk (p : Int × Int) : Bool := decide (0 ≤ p.1 ∧ p.1 ≤ 16777216 ∧ 0 ≤ p.2 ∧ p.2 ≤ 16777216)
def rgP (a b : Int) : List PV := (List.range (b - a).toNat).map fun i => PV.int (a + (i : Nat))
theorem rg_rel {K : PySem.W.Frag} {H : Hp} {μ : List Addr} (a b : Int) : Rls K H μ (rgP a b) (rgV a b) := by
  unfold rgP rgV
  generalize List.range (b - a).toNat = l
  induction l with
  | nil => exact .nil
  | cons i l ih => exact .cons (.int _) ih
theorem rgOk_ok {p : Int × Int} (h : rgOk p = true) : RgOk p.1 p.2 := by
  obtain ⟨h1, h2, h3, h4⟩ := of_decide_eq_true h
  exact .of_le h1 h4 h2 h3
def eLstRg (f : DRg) : DE := fun s h => (f s h).bind fun p h => if rgOk p then .ok (.ref h.length) (h ++ [.lst (rgP p.1 p.2)]) else .no
def eTupRg (f : DRg) : DE := fun s h => (f s h).bind fun p h => if rgOk p then .ok (.tup (rgP p.1 p.2)) h else .no
theorem j_lstRg {e : Expr} {f : DRg} {p : Pos} (hc : X.calm = true) (hg : Gl X "list") (hm : X.mg "list" = none) (he : JRg (bs X tbs) W X e f) (na : starEach [e] X.env = (false, eval e X.env) :: starEach [] X.env := by rfl) : JE (bs X tbs) W X (.Call (.Name "list" p) [e] [] pos) (eLstRg f) :=
  PE_imp (pe_listRg hc hg hm he na) fun σ H Q ⟨μ, ps, ph, sr, wd, ok⟩ => ⟨μ, ps, ph, sr, wd, OutOk.bind ok fun x ph1 μ1 H1 v e1 w1 r1 ok1 => by
    subst r1
    dsimp only at ok1
    by_cases c : rgOk x = true
    · rw [if_pos c] at ok1
      refine ⟨rgOk_ok c, fun q hq => ?_⟩
      obtain ⟨a, b, c⟩ := w1.newLst (rg_rel x.1 x.2) hq
      exact ok1 _ _ _ a b c
    · rw [if_neg c] at ok1
      exact ok1.elim⟩
theorem j_tupRg {e : Expr} {f : DRg} {p : Pos} (hc : X.calm = true) (hg : Gl X "tuple") (hm : X.mg "tuple" = none) (he : JRg (bs X tbs) W X e f) (na : starEach [e] X.env = (false, eval e X.env) :: starEach [] X.env := by rfl) : JE (bs X tbs) W X (.Call (.Name "tuple" p) [e] [] pos) (eTupRg f) :=
  PE_imp (pe_tupRg hc hg hm he na) fun σ H Q ⟨μ, ps, ph, sr, wd, ok⟩ => ⟨μ, ps, ph, sr, wd, OutOk.bind ok fun x ph1 μ1 H1 v e1 w1 r1 ok1 => by
    subst r1
    dsimp only at ok1
    by_cases c : rgOk x = true
    · rw [if_pos c] at ok1
      refine ⟨rgOk_ok c, fun q hq => ?_⟩
      obtain ⟨a, b, c⟩ := w1.newTup (rg_rel x.1 x.2) hq
      exact ok1 _ _ _ a b c
    · rw [if_neg c] at ok1
      exact ok1.elim⟩
/-- xs[::-1] of a list -/
def lsOf (h : PH) : PV → Option (List PV)
  | .fz xs => some xs
  | .ref n => lstAt h n
  | _ => none
theorem lsOf_ok {H : Hp} {μ : List Addr} {ph : PH} {x : PV} {v : V} {ys : List PV} (wd : Wd X.K tbs μ ph H) (h : lsOf ph x = some ys) (r : Rl X.K H μ x v) : ∃ a vs, v = .ref a ∧ SqL X.K H a vs ∧ Rls X.K H μ ys vs := by
  unfold lsOf at h
  cases r with
  | @fz a vs _ ha ra =>
    cases h
    exact ⟨a, vs, rfl, ha.sql, ra⟩
  | @ref n a hk =>
    obtain ⟨vs, h1, ra⟩ := lstAt_ok wd hk h
    exact ⟨a, vs, rfl, SqL.of h1, ra⟩
  | _ => cases h
def eRev (f : DE) : DE := fun s h => (f s h).bind fun x h => match lsOf h x with
  | some ys => .ok (.ref h.length) (h ++ [.lst ys.reverse])
  | none => .no
theorem j_rev {e : Expr} {f : DE} {k : Nat} {p1 p2 p3 : Pos} (he : JE (bs X tbs) W X e f) : JE (bs X tbs) W X (.Subscript e (.Slice none none (some (.UnaryOp .USub (.Constant (.int 1) k p1) p2)) p3) pos) (eRev f) :=
  PE_imp (pe_revL he) fun σ H Q ⟨μ, ps, ph, sr, wd, ok⟩ => ⟨μ, ps, ph, sr, wd, OutOk.bind ok fun x ph1 μ1 H1 v e1 w1 r1 ok1 => by
    cases el : lsOf ph1 x with
    | none => simp only [el] at ok1; exact ok1.elim
    | some ys =>
      simp only [el] at ok1
      obtain ⟨a, vs, rfl, hs, ra⟩ := lsOf_ok w1 el r1
      refine ⟨a, vs, rfl, hs, fun p hp => ?_⟩
      obtain ⟨x1, w2, r2⟩ := w1.newLst ra.rev hp
      exact ok1 _ _ _ x1 w2 r2⟩

/-! ### all, any, sum, max, min of a list -/
def blsOf : List PV → Option (List Bool)
  | [] => some []
  | .bl b :: r => (blsOf r).map (b :: ·)
  | _ => none
def intsOf : List PV → Option (List Int)
  | [] => some []
  | .int b :: r => (intsOf r).map (b :: ·)
  | _ => none
theorem bls_rel {K : PySem.W.Frag} {H : Hp} {μ : List Addr} : ∀ {xs : List PV} {vs : List V} {b : List Bool}, blsOf xs = some b → Rls K H μ xs vs → vs = b.map V.bl
  | [], _, _, e, r => by cases r; cases e; rfl
  | x :: xs, _, b, e, r => by
    cases r with
    | cons r1 r2 =>
      cases r1 with
      | bl c =>
        unfold blsOf at e
        cases e2 : blsOf xs with
        | none => rw [e2] at e; cases e
        | some l =>
          rw [e2] at e
          cases e
          rw [bls_rel e2 r2]
          rfl
      | _ => cases e
theorem ints_rel {K : PySem.W.Frag} {H : Hp} {μ : List Addr} : ∀ {xs : List PV} {vs : List V} {b : List Int}, intsOf xs = some b → Rls K H μ xs vs → vs = b.map V.int
  | [], _, _, e, r => by cases r; cases e; rfl
  | x :: xs, _, b, e, r => by
    cases r with
    | cons r1 r2 =>
      cases r1 with
      | int c =>
        unfold intsOf at e
        cases e2 : intsOf xs with
        | none => rw [e2] at e; cases e
        | some l =>
          rw [e2] at e
          cases e
          rw [ints_rel e2 r2]
          rfl
      | _ => cases e
def onL {α : Type} (g : List PV → Option α) (k : α → PV) : FN := fun xs h => match xs with
  | [x] => (lsOf h x).bind fun ys => (g ys).map fun b => (k b, h)
  | _ => none
def fAll : FN := onL blsOf fun b => .bl (b.all id)
def fAny : FN := onL blsOf fun b => .bl (b.any id)
def fSum : FN := onL intsOf fun b => .int b.sum
theorem one_ls {H : Hp} {μ : List Addr} {ph : PH} {ps : List PV} {xs : List V} {α : Type} {g : List PV → Option α} {k : α → PV} {Q : VK} (wd : Wd X.K tbs μ ph H) (rr : Rls X.K H μ ps xs)
    (q : OutN (bs X tbs) μ H (onL g k ps ph) Q) : ∃ x v ys b a vs, ps = [x] ∧ xs = [v] ∧ lsOf ph x = some ys ∧ g ys = some b ∧ v = .ref a ∧ SqL X.K H a vs ∧ Rls X.K H μ ys vs ∧ OutN (bs X tbs) μ H (some (k b, ph)) Q := by
  unfold onL at q
  match ps, rr, q with
  | [], _, q => exact q.elim
  | _ :: _ :: _, _, q => exact q.elim
  | [x], rr, q =>
    obtain ⟨v, rfl, rv⟩ := rr.one'
    dsimp only at q
    cases e : lsOf ph x with
    | none => rw [e] at q; exact q.elim
    | some ys =>
      rw [e] at q
      simp only [Option.bind_some] at q
      cases e2 : g ys with
      | none => rw [e2] at q; exact q.elim
      | some b =>
        rw [e2] at q
        obtain ⟨a, vs, ev, hs, ra⟩ := lsOf_ok wd e rv
        exact ⟨x, v, ys, b, a, vs, rfl, rfl, e, e2, ev, hs, ra, q⟩
theorem cl_all (hc : X.calm = true) : CallR X (.builtin "all") (rPN (bs X tbs) fAll) := by
  intro pins s σ H xs us Q I r ⟨μ, ph, ps, wd, rr, q⟩
  obtain ⟨x, v, ys, b, a, vs, rfl, rfl, _, e2, rfl, hs, ra, q⟩ := one_ls (tbs := tbs) wd rr q
  have ev := bls_rel e2 ra
  subst ev
  exact cr_all hc pins s σ H _ us Q I r ⟨a, b, rfl, hs, q.val wd (.bl _)⟩
theorem cl_any (hc : X.calm = true) : CallR X (.builtin "any") (rPN (bs X tbs) fAny) := by
  intro pins s σ H xs us Q I r ⟨μ, ph, ps, wd, rr, q⟩
  obtain ⟨x, v, ys, b, a, vs, rfl, rfl, _, e2, rfl, hs, ra, q⟩ := one_ls (tbs := tbs) wd rr q
  have ev := bls_rel e2 ra
  subst ev
  exact cr_any hc pins s σ H _ us Q I r ⟨a, b, rfl, hs, q.val wd (.bl _)⟩
theorem cl_sum (hc : X.calm = true) : CallR X (.builtin "sum") (rPN (bs X tbs) fSum) := by
  intro pins s σ H xs us Q I r ⟨μ, ph, ps, wd, rr, q⟩
  obtain ⟨x, v, ys, b, a, vs, rfl, rfl, _, e2, rfl, hs, ra, q⟩ := one_ls (tbs := tbs) wd rr q
  have ev := ints_rel e2 ra
  subst ev
  exact cr_sum hc pins s σ H _ us Q I r ⟨a, b, rfl, hs, q.val wd (.int _)⟩
end
end Dn
namespace Dn
open PySem PySem.Spec PyProof.Rows L2 PySem.SeqAt GxR

/-! ### repr -/
def fRepr : FN := fun xs h => match xs with
  | [x] => match toD h 50 x with
    | some d => if d.showable && sizeOk d.shown.length && decide (d.depth ≤ 100) then some (.str d.shown, h) else none
    | none => none
  | _ => none
section
variable {tbs : List Addr} {W : WX} {X : Cx} {pos : Pos}
theorem cl_repr (hg : X.A.guards = some []) (hu : X.A.units + 102 < cLine) (hk : ∃ o, X.base.get? sysModules = some o) : CallR X (.builtin "repr") (rPN (bs X tbs) fRepr) := by
  intro pins s σ H xs us Q I r ⟨μ, ph, ps, wd, rr, q⟩
  unfold fRepr at q
  split at q
  · rename_i x
    split at q
    · rename_i d ed
      split at q
      · rename_i hc
        simp only [Bool.and_eq_true] at hc
        obtain ⟨⟨hs, hz⟩, hd⟩ := hc
        have hz := sizeOk_le hz
        have hd := of_decide_eq_true hd
        have q : Q (.str d.shown) H := q.val wd (.str _)
        obtain ⟨v, rfl, rv⟩ := rr.one'
        obtain ⟨u, rfl, r1⟩ := vals1 r
        obtain ⟨o, hk⟩ := hk
        have off : ∀ {a : Addr} {w : HO}, H a = some w → a ≠ sysModules := fun {a w} e z => by
          have n := (I.bs sysModules o hk).2
          rw [← z, e] at n
          cases n
        obtain ⟨as, rd, ht⟩ := Rl.reads I wd 50 x d v u ed rv r1
        cases rd with
        | none => exact PySem.P.repr_of_none ⟨.str _, H, I.tok _, ⟨_, rfl⟩, q⟩
        | bool b => exact PySem.P.repr_of_bool ⟨.str _, H, I.tok _, ⟨_, rfl⟩, q⟩
        | int i t => exact PySem.P.repr_of_int (of_decide_eq_true hs) ⟨.str _, H, I.tok _, ⟨_, rfl⟩, q⟩
        | str x t => exact PySem.P.repr_of_str ⟨.str _, H, I.tok _, ⟨_, rfl⟩, q⟩ hz
        | list h1 h2 h3 h4 =>
          refine repr_of_reads' (.list h1 h2 h3 h4) hs (fun _ hm => ?_) hg (by omega) (fun _ _ e => e) (fun h' u tk hk2 => ⟨.str _, H, I.kept hk2, ⟨_, rfl⟩, q⟩) hz
          obtain ⟨w, hw⟩ := ht _ hm
          exact off hw rfl
        | tuple h1 h2 h3 h4 =>
          refine repr_of_reads' (.tuple h1 h2 h3 h4) hs (fun _ hm => ?_) hg (by omega) (fun _ _ e => e) (fun h' u tk hk2 => ⟨.str _, H, I.kept hk2, ⟨_, rfl⟩, q⟩) hz
          obtain ⟨w, hw⟩ := ht _ hm
          exact off hw rfl
        | dict h1 h2 h3 h4 h5 =>
          refine repr_of_reads' (.dict h1 h2 h3 h4 h5) hs (fun _ hm => ?_) hg (by omega) (fun _ _ e => e) (fun h' u tk hk2 => ⟨.str _, H, I.kept hk2, ⟨_, rfl⟩, q⟩) hz
          obtain ⟨w, hw⟩ := ht _ hm
          exact off hw rfl
      · exact q.elim
    · exact q.elim
  · exact q.elim
end
/-! ### a def called by names alone -/
/-- the words in the order of the def: perm tells the place in the call of each parameter -/
def atPl {α : Type} (pl : List Nat) (xs : List α) : List α := pl.filterMap fun i => xs[i]?
def plOk (n : Nat) (pl : List Nat) : Bool := decide (pl.length = n) && pl.all fun i => decide (i < n)
theorem atPl_vals {pl : List Nat} {xs : List V} {us : List Value} (r : Vals xs us) : Vals (atPl pl xs) (atPl pl us) := by
  induction pl with
  | nil => exact .nil
  | cons i pl ih =>
    unfold atPl at ih ⊢
    have l := r.length
    by_cases h : i < xs.length
    · have e1 : xs[i]? = some xs[i] := List.getElem?_eq_getElem h
      obtain ⟨u, hu, ru⟩ := r.get e1
      rw [List.filterMap_cons, List.filterMap_cons, e1, hu]
      exact .cons ru ih
    · rw [List.filterMap_cons, List.filterMap_cons, List.getElem?_eq_none (by omega), List.getElem?_eq_none (by omega)]
      exact ih
theorem atPl_rls {K : PySem.W.Frag} {H : Hp} {μ : List Addr} {pl : List Nat} {xs : List PV} {vs : List V} (r : Rls K H μ xs vs) : Rls K H μ (atPl pl xs) (atPl pl vs) := by
  induction pl with
  | nil => exact .nil
  | cons i pl ih =>
    unfold atPl at ih ⊢
    have l := r.len
    by_cases h : i < xs.length
    · have e1 : xs[i]? = some xs[i] := List.getElem?_eq_getElem h
      obtain ⟨u, hu, ru⟩ := r.at e1
      rw [List.filterMap_cons, List.filterMap_cons, e1, hu]
      exact .cons ru ih
    · rw [List.filterMap_cons, List.filterMap_cons, List.getElem?_eq_none (by omega), List.getElem?_eq_none (by omega)]
      exact ih
def eCallK (m : DF) (pl : List Nat) (a : DA) : DE := fun s h => (a s h).bind fun xs h => m (atPl pl xs) h
/-- a def, how it takes the names ks -/
structure Kd (P : Program) (w : World) (base : Heap) (B : Bs) (k : Nat) (x : Str) (n : Nat) (m : DF) (ks : List Str) (pl : List Nat) : Prop where
  len : LenF n m
  ex : ∃ (f : Addr) (fd : FuncData) (ps : List Str), B.mg x = some (.ref f) ∧ PySem.W.keepIn B.K (.ref f) = true ∧ ps.length = n ∧
    (∀ (s : Shared) (ws : List Value), B.K.In s.heap → (atPl pl ws).length = n → BindsTo s fd ⟨[], ks.zip ws⟩ (ps.zip (atPl pl ws))) ∧
    ∀ (A : Around) (outer : List Env) (s : Shared) (H : Hp) (args : Args) (us : List Value) (vs : List V) (Q : VK) (E : XK), Room k A → A.guards = some [] → Env0 P w B.K B.mg base A outer s H → BindsTo s fd args (ps.zip us) → Vals vs us → spD B n m vs H Q E →
      codeAny (model P w) A (.call (.ref f) args) (CR (CX P w) outer P w H s Q E) s
section
variable {tbs : List Addr} {W : WX} {X : Cx} {p pos : Pos} {k n : Nat} {x : Str} {m : DF} {ks : List Str} {pl : List Nat}
/-- arguments by names -/
def JK (B : Bs) (W : WX) (X : Cx) (kws : List Keyword) (g : DA) : Prop := PK X kws (tDA B W g)
theorem PK_imp {kws : List Keyword} {t t' : TA} (h : PK X kws t) (k : ∀ σ H Q, t' σ H Q → t σ H Q) : PK X kws t' := ⟨fun p pins s σ H Q I q => h.run p pins s σ H Q I (k σ H Q q)⟩
theorem jk_nil : JK (bs X tbs) W X [] eNil := PK_imp pk_nil fun σ H Q ⟨μ, ps, ph, sr, wd, ok⟩ => ok μ H [] Ex.refl wd .nil
theorem jk_cons {nm : Option Str} {kpos : Pos} {e : Expr} {kws : List Keyword} {f : DE} {g : DA} (he : JE (bs X tbs) W X e f) (hr : JK (bs X tbs) W X kws g) : JK (bs X tbs) W X (⟨nm, e, kpos⟩ :: kws) (eCons f g) :=
  PK_imp (pk_cons he hr) fun σ H Q ⟨μ, ps, ph, sr, wd, ok⟩ => ⟨μ, ps, ph, sr, wd, OutOk.bind ok fun x ph1 μ1 H1 v e1 w1 r1 ok1 => ⟨μ1, ps, ph1, sr.mono e1, w1,
    OutOk.bind ok1 fun xs ph2 μ2 H2 vs e2 w2 r2 ok2 => ok2 μ2 H2 _ Ex.refl w2 (.cons (r1.mono e2) r2)⟩⟩
theorem j_kd {kws : List Keyword} {g : DA} (F : Kd X.prog X.w X.base (bs X tbs) k x n m ks pl) (hpl : Pl X k) (tk : Takes X W) (hg : Gl X x) (hkw : JK (bs X tbs) W X kws g)
    (hall : (backToKw pos (keywordEach kws X.env)).all (·.1.isSome) = true := by rfl) (hks : (backToKw pos (keywordEach kws X.env)).filterMap (·.1) = ks := by rfl)
    (hdb : (x == ("__debug__" : Str)) = false := by decide) (hpl2 : ((backTo pos (starEach [] X.env)).any (·.1) || (backToKw pos (keywordEach kws X.env)).any (·.1.isNone)) = false := by rfl) :
    JE (bs X tbs) W X (.Call (.Name x p) [] kws pos) (eCallK m pl g) := by
  obtain ⟨f, fd, ps, hm, hk, hn, hb, run⟩ := F.ex
  refine ⟨fun pins s σ H Q I ⟨μ, sl, ph, sr, wd, ok⟩ => ?_⟩
  refine wpAny_Call_Name_kw (ld_glob I hg hm ?_ hdb)
  refine PySem.W.callWith_KW0 (h₀ := X.base) I.ok.mod.kin hk hall ?_ hpl2
  refine thn (hkw.run pos pins s σ H (fun vs H1 => (atPl pl vs).length = n ∧ spD (bs X tbs) n m (atPl pl vs) H1 Q fun cls d H' => W cls d σ H') I ⟨μ, sl, ph, sr, wd, ?_⟩) fun ws s2 ⟨zs, H2, I2, rz, q1, q2⟩ => ⟨I2.kIn, ?_⟩
  · unfold eCallK at ok
    cases eg : g sl ph with
    | no => rw [eg] at ok; exact ok
    | err x h => rw [eg] at ok; exact ok
    | ok xs ph1 =>
      rw [eg] at ok
      simp only [Out.bind_ok] at ok
      by_cases hx : (atPl pl xs).length = n
      · refine fun μ1 H1 vs e1 w1 r1 => ?_
        have r2 := atPl_rls (pl := pl) r1
        have l2 : (atPl pl vs).length = n := by rw [← r2.len]; exact hx
        refine ⟨l2, l2, μ1, atPl pl xs, ph1, r2, w1, ?_⟩
        have ok2 := OutOk.ext ok e1
        cases em : m (atPl pl xs) ph1 with
        | ok v h => rw [em] at ok2; exact ok2
        | err v h => rw [em] at ok2; exact ok2
        | no => rw [em] at ok2; exact ok2
      · rw [F.len _ ph1 hx] at ok
        exact ok.elim
  · rw [hks]
    have r2 := atPl_vals (pl := pl) rz
    have hl : (atPl pl ws).length = n := by rw [← r2.length]; exact q1
    refine wpAny_call (codeAny_mono (run X.A X.stack s2 H2 ⟨[], ks.zip ws⟩ (atPl pl ws) (atPl pl zs) Q _ hpl.room hpl.gd I2.env0 (hb s2 ws I2.kIn hl) r2 q2) fun r s' hq => ?_)
    cases r with
    | error e => exact tk e s' (XE.of_call I2 (fun cls d H' h => h) hq)
    | ok fl =>
      cases fl with
      | ret u => exact I2.after hq
      | next => exact False.elim hq
      | brk => exact False.elim hq
      | cont => exact False.elim hq
end
end Dn
/-! the end of a law, as tools/E0, the script a list that nobody changes -/
namespace Dn
open PySem L2 PySem.Spec PyProof.Rows GxR
/-- the law's own call; cs: code objects and their tables, empty at the start -/
def RunsG (P : Program) (w : World) (K : PySem.W.Frag) (mg : Str → Option Value) (fa : Addr) (cs : List (Addr × Addr)) (a : Addr) (ns : List Int) : Prop :=
  ∀ (base : Heap) (H : Hp) (s0 : Shared), Env0 P w K mg base callerA [] s0 H → SqF K H a (ns.map V.int) → (∀ p ∈ cs, H p.2 = some (.tbl #[])) → (∀ p ∈ cs, TabB base mg p.1 p.2) → (∃ o, base.get? sysModules = some o) →
    codeAny (model P w) callerA (.call (.ref fa) ⟨[.ref a], []⟩) (CR CX0 [] P w H s0 (fun v _ => v = V.bl true) E0) s0
/-- what the head knows of the tables -/
structure Tabs (K : PySem.W.Frag) (h : Heap) (mg : Str → Option Value) (cs : List (Addr × Addr)) : Prop where
  at_ : ∀ p ∈ cs, h.get? p.2 = some { cls := .none, data := .fields #[] }
  noK : ∀ p ∈ cs, K.lookup p.2 = none
  hd : ∀ p ∈ cs, PySem.W.CodeHd h p.1 p.2
  bm : ∃ (m : Addr) (ob : Obj), mg "__builtins__" = some (.ref m) ∧ m ≠ builtinsNs ∧ h.get? m = some ob ∧ ob.cls = .type "module" ∧ ob.dict = some builtinsNs ∧ ob.data = .plain
  sys : ∃ (o : Obj) (es : Array DictEntry) (n : Nat), h.get? sysModules = some o ∧ o.data = .dict es n
section
variable {P : Program} {w : World} {K : PySem.W.Frag} {mg mb : Str → Option Value} {fa a : Addr} {cs : List (Addr × Addr)} {s1 : Shared} {us : List Value} {ns : List Int}
theorem from_heapG (KX : K.In s1.heap) (gN : s1.heap.Ns mainGlobals mg) (bN : s1.heap.Ns builtinsNs mb) (bB : ∀ y : Str, y ≠ "__name__" → mb y = bootBuiltins y) (nl : s1.heap.NoLimit) (ng : s1.gens = #[]) (tabs : Tabs K s1.heap mg cs)
    (scr : s1.heap.get? a = some { cls := .type "list", data := .seq us.toArray }) (F : RunsG P w K mg fa cs a ns) {H : Hp} (atT : ∀ p ∈ cs, H p.2 = some (.tbl #[])) (only : ∀ b, H b = none ∨ (b = a ∧ K.lookup a = none ∧ ∃ o xs, H b = some (.frz o (.lst xs))) ∨ ∃ p ∈ cs, b = p.2) (hS : SqF K H a (ns.map V.int)) (ok : HOk P w H s1.heap) :
    codeAny (model P w) callerA (.call (.ref fa) ⟨[.ref a], []⟩) (fun r s2 => r = .ok (.ret (.bool true)) ∧ OldK s1.heap s2.heap ∧ s2.os = s1.os ∧ AllBare s2.gens) s1 := by
  have other : ∀ {b : Addr} {o : Obj}, s1.heap.get? b = some o → (∀ vs n, o.data ≠ .seq vs n) → o.data ≠ .fields #[] → H b = none := fun {b o} e n1 n2 => by
    rcases only b with z | z | ⟨p, hp, z⟩
    · exact z
    · rw [z.1, scr] at e
      rw [← Option.some.inj e] at n1
      exact absurd rfl (n1 _ _)
    · rw [z, tabs.at_ p hp] at e
      rw [← Option.some.inj e] at n2
      exact absurd rfl n2
  have ns_hid : ∀ {b : Addr} {m : Str → Option Value}, s1.heap.Ns b m → (hidT s1.heap H).Ns b m := fun {b m} h => by
    obtain ⟨o, es, n, e, d, r⟩ := h
    exact ⟨o, es, n, hidT_get e (other e (fun vs k z => by rw [d] at z; cases z) fun z => by rw [d] at z; cases z), d, r⟩
  have k_hid : K.In (hidT s1.heap H) := fun b o e => hidT_get (KX b o e) (by
    rcases only b with z | z | ⟨p, hp, z⟩
    · exact z
    · rw [z.1, z.2.1] at e
      cases e
    · rw [z, tabs.noK p hp] at e
      cases e)
  obtain ⟨mc, n1, n2⟩ := nl
  have M : Mod K mg (hidT s1.heap H) := ⟨k_hid, ns_hid gN, ⟨mb, ns_hid bN, bB⟩, ⟨mc, ns_hid n1, n2⟩⟩
  have en : Env0 P w K mg (hidT s1.heap H) callerA [] s1 H := { frames := rfl, mod := M, bs := fun b o e => of_hidT e, bsz := Nat.le_of_eq (hidT_size _ _), funs := trivial, frf := fun b hb => absurd (show b ∈ ([] : List Addr) from hb) List.not_mem_nil, hok := ok, bare := .of_eq ng }
  have TB : ∀ p ∈ cs, TabB (hidT s1.heap H) mg p.1 p.2 := fun p hp => by
    have tab := tabs.at_ p hp
    have mainT : mainGlobals ≠ p.2 := fun z => by
      obtain ⟨o, es, n, e, d, _⟩ := gN
      rw [z, tab] at e
      rw [← Option.some.inj e] at d
      cases d
    refine ⟨?_, ?_, mainT⟩
    · obtain ⟨o, us2, x1, x2, x3, x4, x5, x6, x7, e1, r1, r2, rest⟩ := tabs.hd p hp
      refine ⟨o, us2, x1, x2, x3, x4, x5, x6, x7, hidT_get e1 (other e1 (fun vs n z => ?_) fun z => ?_), r1, r2, rest⟩
      · rw [r2] at z
        cases z
      · rw [r2] at z
        cases z
        obtain ⟨z2, _⟩ := rest
        simp at z2
    · obtain ⟨m, ob, b1, b2, b3, b4, b5, b6⟩ := tabs.bm
      refine ⟨m, ob, b1, b2, fun z => ?_, fun z => ?_, hidT_get b3 (other b3 (fun vs n z => ?_) fun z => ?_), b4, b5, b6⟩
      · obtain ⟨o, es, n, e, d, _⟩ := gN
        rw [← z, b3] at e
        cases e
        rw [b6] at d
        cases d
      · rw [z, tab] at b3
        cases b3
        cases b6
      · rw [b6] at z
        cases z
      · rw [b6] at z
        cases z
  have sys : ∃ o, (hidT s1.heap H).get? sysModules = some o := by
    obtain ⟨o, es, n, e, d⟩ := tabs.sys
    exact ⟨o, hidT_get e (other e (fun vs k z => by rw [d] at z; cases z) fun z => by rw [d] at z; cases z)⟩
  refine codeAny_mono (F _ H s1 en hS atT TB sys) fun r s2 h => ?_
  cases r with
  | error e => exact (show False from h).elim
  | ok fl =>
    cases fl with
    | next => exact (show False from h).elim
    | brk => exact (show False from h).elim
    | cont => exact (show False from h).elim
    | ret u =>
      obtain ⟨v, H2, os, bare, un, ok2, rv, q⟩ := h
      rw [show v = V.bl true from q] at rv
      have eu : u = Value.bool true := rv
      have keep : ∀ b o, (¬ ∃ p ∈ cs, b = p.2) → s1.heap.get? b = some o → s2.heap.get? b = some o := fun b o nb e => by
        rcases only b with z | ⟨_, _, ob, xs, z⟩ | z
        · exact un.keep b o e z (fun y => absurd (show b ∈ ([] : List Addr) from y) List.not_mem_nil) List.not_mem_nil
        · have y1 := (ok b _ z).1
          have y2 := (ok2 b _ (un.frzs b ob _ z)).1
          rw [e] at y1
          rw [← Option.some.inj y1] at y2
          exact y2
        · exact absurd z nb
      refine ⟨by rw [eu], ⟨fun b o e => ?_, fun b o e => ?_⟩, os, bare⟩
      · by_cases nb : ∃ p ∈ cs, b = p.2
        · obtain ⟨p, hp, rfl⟩ := nb
          obtain ⟨more, zt⟩ := un.tbls p.2 #[] (atT p hp)
          have now := ok2 p.2 _ zt
          rw [tabs.at_ p hp] at e
          cases e
          exact .inr (.inl ⟨((tabs.hd p hp).tab (tabs.at_ p hp)).isCodeTable, rfl, #[], #[] ++ more, rfl, by rw [Array.empty_append]; exact now⟩)
        · exact .inl (keep b o nb e)
      · by_cases nb : ∃ p ∈ cs, b = p.2
        · obtain ⟨p, hp, rfl⟩ := nb
          obtain ⟨more, zt⟩ := un.tbls p.2 #[] (atT p hp)
          exact ⟨_, ok2 p.2 _ zt⟩
        · exact ⟨o, keep b o nb e⟩
theorem law_runsG (KX : K.In s1.heap) (gN : s1.heap.Ns mainGlobals mg) (bN : s1.heap.Ns builtinsNs mb) (bB : ∀ y : Str, y ≠ "__name__" → mb y = bootBuiltins y) (nl : s1.heap.NoLimit) (ng : s1.gens = #[]) (tabs : Tabs K s1.heap mg cs)
    (scr : s1.heap.get? a = some { cls := .type "list", data := .seq us.toArray }) (isInts : IntsAre us ns) (hl : ns.length ≤ sizeLine) (F : RunsG P w K mg fa cs a ns) :
    codeAny (model P w) callerA (.call (.ref fa) ⟨[.ref a], []⟩) (fun r s2 => r = .ok (.ret (.bool true)) ∧ OldK s1.heap s2.heap ∧ s2.os = s1.os ∧ AllBare s2.gens) s1 := by
  have rel := vals_ints isInts
  have len := isInts.length
  have aT : ¬ ∃ p ∈ cs, a = p.2 := fun ⟨p, hp, z⟩ => by
    rw [z, tabs.at_ p hp] at scr
    cases scr
  classical
  cases e : K.lookup a with
  | some o =>
    have e2 := KX a o e
    rw [scr] at e2
    have e3 := Option.some.inj e2
    refine from_heapG KX gN bN bB nl ng tabs scr F (H := fun b => if ∃ p ∈ cs, b = p.2 then some (.tbl #[]) else none) (fun p hp => if_pos ⟨p, hp, rfl⟩) (fun b => ?_) (.inr ⟨o, us.toArray, 0, e, ?_, ?_, ?_, ?_, by simpa using rel⟩) fun b u z => ?_
    · by_cases q : ∃ p ∈ cs, b = p.2
      · exact .inr (.inr q)
      · exact .inl (if_neg q)
    · rw [← e3]
    · rw [← e3]
    · rw [← e3]
    · rw [List.size_toArray, len]
      exact hl
    · by_cases q : ∃ p ∈ cs, b = p.2
      · have z := (if_pos q).symm.trans z
        cases z
        obtain ⟨p, hp, rfl⟩ := q
        exact tabs.at_ p hp
      · have z := (if_neg q).symm.trans z
        cases z
  | none =>
    refine from_heapG KX gN bN bB nl ng tabs scr F (H := fun b => if b = a then some (.frz { cls := .type "list", data := .seq us.toArray } (.lst (ns.map V.int))) else if ∃ p ∈ cs, b = p.2 then some (.tbl #[]) else none)
      (fun p hp => (if_neg fun z => aT ⟨p, hp, z.symm⟩).trans (if_pos ⟨p, hp, rfl⟩)) (fun b => ?_) (.inl ⟨_, if_pos rfl⟩) fun b u z => ?_
    · by_cases q : b = a
      · exact .inr (.inl ⟨q, e, _, _, if_pos q⟩)
      · by_cases q2 : ∃ p ∈ cs, b = p.2
        · exact .inr (.inr q2)
        · exact .inl ((if_neg q).trans (if_neg q2))
    · by_cases q : b = a
      · have z := (if_pos q).symm.trans z
        cases z
        rw [q]
        exact ⟨scr, by rw [List.length_map]; exact hl, us, _, rel, scr⟩
      · have z := (if_neg q).symm.trans z
        by_cases q2 : ∃ p ∈ cs, b = p.2
        · have z := (if_pos q2).symm.trans z
          cases z
          obtain ⟨p, hp, rfl⟩ := q2
          exact tabs.at_ p hp
        · have z := (if_neg q2).symm.trans z
          cases z
end
/-- a def with its code object and table, as the fragment shows them -/
structure TabOf (K : PySem.W.Frag) (mg : Str → Option Value) (x : Str) (p : Addr × Addr) : Prop where
  ex : ∃ (f : Addr) (o : Obj) (fd : FuncData) (e : Value) (dd : Option Addr) (vs : Array Value) (sl : Array (Option Value)), mg x = some (.ref f) ∧ K.lookup f = some o ∧ o.data = .func fd ∧ fd.code = .ref p.1 ∧ K.lookup p.1 = some ⟨e, dd, .fields vs, sl⟩ ∧ vs[11]? = some (.ref p.2) ∧ K.lookup p.2 = none
/-- what k_head leaves; xs: the defs with generator expressions -/
theorem walksG {l : PySem.W.OpenLaw} {n : Nat} {q : Program} {loose : List Str} {XP : (Str → Option Value) → Heap → Prop} {YP : World → Heap → Prop} {d : DefRec} {K : Params → PySem.W.Frag} {xs : List Str}
    (hn : l.most = some n) (small : n ≤ sizeLine) (hdf : d.params.defaults = []) (named : (xs.all fun x => (recsOf q).any fun e => e.name == x) = true) (quiet : importsNone q = true) (hY : ∀ (w : World) (h : Heap), YP w h → (K w.params).In h)
    (F : ∀ (w : World) (mg : Str → Option Value) (fa : Addr) (h : Heap), (K w.params).In h → h.Ns mainGlobals mg → mg d.name = some (.ref fa) → ∃ cs : List (Addr × Addr), (∀ p ∈ cs, ∃ x ∈ xs, TabOf (K w.params) mg x p) ∧
      ∀ (a : Addr) (ns : List Int), ns.length ≤ n → RunsG l.prog w (K w.params) mg fa cs a ns) :
    PySem.W.WalkO q loose XP YP l.row.toRowW d [] (fun g vs => PySem.call g vs) := by
  refine Att.attach_call hn hdf fun w s₀ s1 mg mb fa o pm cd doc a us ns G Y look dat code glob scr isInts len gens => ?_
  have kin := hY w _ Y
  obtain ⟨cs, of, run⟩ := F w mg fa _ kin G.T.g glob
  have each : ∀ p ∈ cs, s1.heap.get? p.2 = some { cls := .none, data := .fields #[] } ∧ (K w.params).lookup p.2 = none ∧ PySem.W.CodeHd s1.heap p.1 p.2 := fun p hp => by
    obtain ⟨x, hx, ⟨f, o, fd, e, dd, vs, sl, k0, k1, k2, k3, k4, k5, k6⟩⟩ := of p hp
    obtain ⟨dx, mem, nameB⟩ := List.any_eq_true.mp (List.all_eq_true.mp named x hx)
    have nameE : dx.name = x := beq_iff_eq.mp nameB
    obtain ⟨f2, o2, fd2, c2, T2, h1, h2, h3, h4, h5, h6⟩ := G.T.tab dx mem
    rw [nameE, k0] at h1
    cases h1
    rw [kin _ _ k1] at h2
    cases h2
    rw [k2] at h3
    cases h3
    rw [k3] at h4
    cases h4
    have hdT := PySem.W.CodeHd.of h5 h6
    obtain ⟨⟨oc, vc, e1, _, e3, e4⟩, tabT⟩ := h6
    rw [kin _ _ k4] at e1
    cases e1
    cases e3
    rw [k5] at e4
    cases e4
    exact ⟨tabT, k6, hdT⟩
  have seer := G.T.seer quiet
  exact law_runsG kin G.T.g G.T.b G.T.builtins G.T.nolimit gens ⟨fun p hp => (each p hp).1, fun p hp => (each p hp).2.1, fun p hp => (each p hp).2.2, G.T.bmain, (by obtain ⟨mm, ⟨o, es, n, e, d, _⟩, _⟩ := seer.mods; exact ⟨o, es, n, e, d⟩)⟩ scr isInts (Nat.le_trans len small) (run a ns len)
/-- a law whose function tells True -/
theorem run_law {P : Program} {w : World} {K : PySem.W.Frag} {mg : Str → Option Value} {base : Heap} {tbs : List Addr} {k : Nat} {m : DF} {fa a : Addr} {H : Hp} {s0 : Shared} {ns : List Int} {h' : PH} (F : Fd P w base ⟨K, mg, tbs⟩ k "law" 1 m) (room : Room k callerA) (hfa : mg "law" = some (.ref fa))
    (en : Env0 P w K mg base callerA [] s0 H) (hS : SqF K H a (ns.map V.int)) (hT : ∀ p ∈ tbs, H p = some (.tbl #[])) (hm : m [.fz (ns.map PV.int)] [] = .ok (.bl true) h') :
    codeAny (model P w) callerA (.call (.ref fa) ⟨[.ref a], []⟩) (CR CX0 [] P w H s0 (fun v _ => v = V.bl true) E0) s0 := by
  obtain ⟨f, fd, ps, h1, h2, h3, h4, run⟩ := F.ex
  cases hfa.symm.trans h1
  have kin : K.In s0.heap := en.mod.kin.keeps fun z o e => (en.bs z o e).1
  have bt := h4 s0 [.ref a] kin (by rw [List.append_nil]; exact h3.symm)
  rw [List.append_nil] at bt
  refine codeAny_mono (run callerA [] s0 H ⟨[.ref a], []⟩ [.ref a] [.ref a] (fun v _ => v = V.bl true) (fun _ _ _ => False) room rfl en bt (.cons rfl .nil) ⟨rfl, [], [.fz (ns.map PV.int)], [], .cons (.fz hS (Rls.ints ns)) .nil, ⟨rfl, fun i j a h => by simp at h, fun n a o h => by simp at h, fun p hp => ⟨#[], hT p hp, by constructor⟩⟩, ?_⟩) fun r s' h => ?_
  · rw [hm]
    intro μ' H' v _ _ r
    cases r
    rfl
  · cases r with
    | error e =>
      obtain ⟨_, _, _, _, _, _, _, _, _, _, _, _, z⟩ := h
      exact z.elim
    | ok fl => cases fl <;> exact h
end Dn
namespace Dn
open PySem PySem.Spec PyProof.Rows L2 PySem.SeqAt

/-! ### behind a def the new objects to which nothing leads are forgotten -/
mutual
/-- only objects of a number below n are within -/
def PV.lowr (n : Nat) : PV → Bool
  | .ref k => decide (k < n)
  | .tup xs => PV.lowrs n xs
  | .kt xs => PV.lowrs n xs
  | .fz xs => PV.lowrs n xs
  | _ => true
def PV.lowrs (n : Nat) : List PV → Bool
  | [] => true
  | x :: r => PV.lowr n x && PV.lowrs n r
end
def kvLowr {κ : Type} (n : Nat) : List (κ × PV) → Bool
  | [] => true
  | (_, x) :: r => PV.lowr n x && kvLowr n r
def MO.lowr (n : Nat) : MO → Bool
  | .lst xs => PV.lowrs n xs
  | .dK kvs => kvLowr n kvs
  | .dT kvs => kvLowr n kvs
def phLowr (n : Nat) : PH → Bool
  | [] => true
  | o :: r => MO.lowr n o && phLowr n r
theorem phLowr_at {n : Nat} : ∀ {h : PH} {i : Nat} {o : MO}, phLowr n h = true → h[i]? = some o → MO.lowr n o = true
  | [], _, _, _, e => by simp at e
  | x :: r, 0, o, b, e => by
    simp only [phLowr, Bool.and_eq_true] at b
    cases e
    exact b.1
  | x :: r, i + 1, o, b, e => by
    simp only [phLowr, Bool.and_eq_true] at b
    exact phLowr_at b.2 (by simpa using e)
section
variable {K : PySem.W.Frag} {tbs : List Addr} {H H' : Hp} {μ μ' : List Addr} {n : Nat}
mutual
theorem Rl.lowr (e : ∀ k, k < n → μ[k]? = μ'[k]?) : ∀ {x : PV} {v : V}, x.lowr n = true → Rl K H μ' x v → Rl K H μ x v
  | _, _, _, .non => .non
  | _, _, _, .bl b => .bl b
  | _, _, _, .int b => .int b
  | _, _, _, .str b => .str b
  | _, _, b, .tup h r => .tup h (Rls.lowr e (by simpa [PV.lowr] using b) r)
  | _, _, b, .kt h r => .kt h (Rls.lowr e (by simpa [PV.lowr] using b) r)
  | _, _, b, .fz h r => .fz h (Rls.lowr e (by simpa [PV.lowr] using b) r)
  | _, _, b, .ref h => .ref ((e _ (by simpa [PV.lowr] using b)).trans h)
theorem Rls.lowr (e : ∀ k, k < n → μ[k]? = μ'[k]?) : ∀ {x : List PV} {v : List V}, PV.lowrs n x = true → Rls K H μ' x v → Rls K H μ x v
  | _, _, _, .nil => .nil
  | _, _, b, .cons a r => by
    simp only [PV.lowrs, Bool.and_eq_true] at b
    exact .cons (Rl.lowr e b.1 a) (Rls.lowr e b.2 r)
end
theorem KRl.lowr {κ : Type} (e : ∀ k, k < n → μ[k]? = μ'[k]?) : ∀ {x : List (κ × PV)} {v : List (κ × V)}, kvLowr n x = true → KRl K H μ' x v → KRl K H μ x v
  | _, _, _, .nil => .nil
  | _, _, b, .cons a r => by
    simp only [kvLowr, Bool.and_eq_true] at b
    exact .cons (a.lowr e b.1) (KRl.lowr e b.2 r)
theorem OR.lowr (e : ∀ k, k < n → μ[k]? = μ'[k]?) {a : Addr} {o : MO} (b : o.lowr n = true) (h : OR K H μ' a o) : OR K H μ a o := by
  cases o with
  | lst xs =>
    obtain ⟨vs, h1, r⟩ := h
    exact ⟨vs, h1, r.lowr e b⟩
  | dK xs =>
    obtain ⟨vs, h1, r⟩ := h
    exact ⟨vs, h1, r.lowr e b⟩
  | dT xs =>
    obtain ⟨vs, h1, r⟩ := h
    exact ⟨vs, h1, r.lowr e b⟩
theorem Wd.cutoff {ph h' : PH} (w : Wd K tbs μ ph H) (e : Ex μ H μ' H') (w' : Wd K tbs μ' h' H') (hl : ph.length ≤ h'.length) (b : phLowr ph.length (h'.take ph.length) = true) :
    Ex μ H μ H' ∧ Wd K tbs μ (h'.take ph.length) H' ∧ ∀ k, k < ph.length → μ[k]? = μ'[k]? := by
  have at_ : ∀ k, k < ph.length → μ[k]? = μ'[k]? := fun k hk => by
    have lt : k < μ.length := by rw [w.len]; exact hk
    have z := e.pre k _ (List.getElem?_eq_getElem lt)
    rw [z, List.getElem?_eq_getElem lt]
  refine ⟨⟨fun _ _ h => h, e.tup, e.frz⟩, ⟨by rw [List.length_take, w.len]; omega, w.nd, fun n a o h1 h2 => ?_, w'.tb⟩, at_⟩
  have ln : n < ph.length := by
    have := (List.getElem?_eq_some_iff.mp h2).1
    rw [List.length_take] at this
    omega
  have h3 : h'[n]? = some o := by
    rw [List.getElem?_take_of_lt ln] at h2
    exact h2
  exact OR.lowr at_ (phLowr_at b h2) (w'.ob n a o (by rw [← at_ n ln]; exact h1) h3)
end
def errLowr (n : Nat) (e : PErr) : Bool := match e.fld with
  | some (_, x) => PV.lowr n x
  | none => true
def gcN (h : PH) (o : Out PV) : Out PV := match o with
  | .ok v h' => if (v.lowr h.length && (decide (h.length ≤ h'.length) && phLowr h.length (h'.take h.length))) = true then .ok v (h'.take h.length) else .ok v h'
  | .err e h' => if (errLowr h.length e && (decide (h.length ≤ h'.length) && phLowr h.length (h'.take h.length))) = true then .err e (h'.take h.length) else .err e h'
  | .no => .no
theorem OutOk.gcN {B : Bs} {W : WX} {μ : List Addr} {ph : PH} {H : Hp} {σ : L2.St} {o : Out PV} {Q : VK} (w : Wd B.K B.tbs μ ph H) (q : OutOk B W (fun H' μ' => Rl B.K H' μ') μ H σ (gcN ph o) Q) : OutOk B W (fun H' μ' => Rl B.K H' μ') μ H σ o Q := by
  cases o with
  | no => exact q
  | ok v h' =>
    unfold Dn.gcN at q
    dsimp only at q
    by_cases c : (v.lowr ph.length && (decide (ph.length ≤ h'.length) && phLowr ph.length (h'.take ph.length))) = true
    · rw [if_pos c] at q
      simp only [Bool.and_eq_true, decide_eq_true_eq] at c
      intro μ' H' x e1 w1 r1
      obtain ⟨a, b, at_⟩ := w.cutoff e1 w1 c.2.1 c.2.2
      exact q μ H' x a b (r1.lowr at_ c.1)
    · rw [if_neg c] at q
      exact q
  | err e h' =>
    unfold Dn.gcN at q
    dsimp only at q
    by_cases c : (errLowr ph.length e && (decide (ph.length ≤ h'.length) && phLowr ph.length (h'.take ph.length))) = true
    · rw [if_pos c] at q
      simp only [Bool.and_eq_true, decide_eq_true_eq] at c
      intro μ' H' cls d e1 w1 r1
      obtain ⟨a, b, at_⟩ := w.cutoff e1 w1 c.2.1 c.2.2
      refine q μ H' cls d a b ?_
      obtain ⟨z1, z2⟩ := r1
      refine ⟨z1, ?_⟩
      have cb := c.1
      unfold errLowr at cb
      cases he : e.fld with
      | none => rw [he] at z2; exact z2
      | some p =>
        rw [he] at z2 cb
        obtain ⟨da, v, y1, y2, y3⟩ := z2
        exact ⟨da, v, y1, y2, y3.lowr at_ cb⟩
    · rw [if_neg c] at q
      exact q
end Dn
namespace Dn
open PySem PySem.Spec PyProof.Rows L2 PySem.SeqAt GxR

/-! ### what the generated texts stand on -/
/-- the place where a def's body runs -/
abbrev cxd (P : Program) (w : World) (K : PySem.W.Frag) (mg : Str → Option Value) (base : Heap) (N : List Str) (x : Str) (st : Stmt) (f : Addr) (cdv : Value) (A : Around) (outer : List Env) (s : Shared) (H : Hp) (E : XK) : Cx :=
  cxOf (CX P w) P w K mg base N x (defScope st) f cdv A outer s H E
/-- a def of the text, its code object c -/
abbrev Kws := List (List Str × List Nat)
/-- how a def takes arguments by names alone -/
def KwOk (K : PySem.W.Frag) (fd : FuncData) (ps : List Str) (kws : Kws) : Prop := ∀ kp ∈ kws, ∀ (s : Shared) (ws : List Value), K.In s.heap → (atPl kp.2 ws).length = ps.length → BindsTo s fd ⟨[], kp.1.zip ws⟩ (ps.zip (atPl kp.2 ws))
structure DefP (K : PySem.W.Frag) (mg : Str → Option Value) (x : Str) (st : Stmt) (ps : List Str) (c : Option Addr) (kws : Kws) : Prop where
  ex : ∃ (f : Addr) (fd : FuncData), Fun K x x st f fd ∧ mg x = some (.ref f) ∧ Binds K fd ps [] ∧ (∀ a, c = some a → fd.code = .ref a) ∧ KwOk K fd ps kws
/-- a def that keeps its function, called by place or by names -/
structure FdK (P : Program) (w : World) (base : Heap) (B : Bs) (k : Nat) (x : Str) (n : Nat) (m : DF) (kws : Kws) : Prop where
  len : LenF n m
  ex : ∃ (f : Addr) (fd : FuncData) (ps : List Str), B.mg x = some (.ref f) ∧ PySem.W.keepIn B.K (.ref f) = true ∧ ps.length = n ∧ Binds B.K fd ps [] ∧ KwOk B.K fd ps kws ∧
    ∀ (A : Around) (outer : List Env) (s : Shared) (H : Hp) (args : Args) (us : List Value) (vs : List V) (Q : VK) (E : XK), Room k A → A.guards = some [] → Env0 P w B.K B.mg base A outer s H → BindsTo s fd args (ps.zip us) → Vals vs us → spD B n m vs H Q E →
      codeAny (model P w) A (.call (.ref f) args) (CR (CX P w) outer P w H s Q E) s
theorem FdK.fd {P : Program} {w : World} {base : Heap} {B : Bs} {k : Nat} {x : Str} {n : Nat} {m : DF} {kws : Kws} (F : FdK P w base B k x n m kws) : Fd P w base B k x n m := by
  obtain ⟨f, fd, ps, h1, h2, h3, h4, _, h6⟩ := F.ex
  exact ⟨F.len, f, fd, ps, h1, h2, h3, h4, h6⟩
theorem FdK.kd {P : Program} {w : World} {base : Heap} {B : Bs} {k : Nat} {x : Str} {n : Nat} {m : DF} {kws : Kws} (F : FdK P w base B k x n m kws) {ks : List Str} {pl : List Nat} (h : (ks, pl) ∈ kws) : Kd P w base B k x n m ks pl := by
  obtain ⟨f, fd, ps, h1, h2, h3, h4, h5, h6⟩ := F.ex
  refine ⟨F.len, f, fd, ps, h1, h2, h3, fun s ws kin hl => ?_, h6⟩
  exact h5 _ h s ws kin (by rw [h3]; exact hl)
theorem takes0 {X : Cx} : Takes X W0 := fun u s' h => by
  obtain ⟨_, _, _, _, _, _, _, _, _, _, _, _, _, _, _, _, z⟩ := h
  exact z.elim
section
variable {P : Program} {w : World} {K : PySem.W.Frag} {mg : Str → Option Value} {base : Heap} {tbs : List Addr}
/-- a def's function from its body's -/
@[irreducible] def mk (n N : Nat) (g : DS) : DF := fun xs h => if xs.length = n then gcN h (runB g N xs h) else .no
theorem mk_len {n N : Nat} {g : DS} : LenF n (mk n N g) := fun xs h e => by unfold mk; exact if_neg e
theorem fd_ofP {x : Str} {st : Stmt} {N ps : List Str} {k : Nat} {g : DS} {c : Option Addr} {kws : Kws} (D : DefP K mg x st ps c kws) (S : FnScope N ps (defScope st))
    (body : ∀ (f : Addr) (cdv : Value) (A : Around) (outer : List Env) (s : Shared) (H : Hp) (E : XK), (∀ a, c = some a → cdv = .ref a) → Pl (cxd P w K mg base N x st f cdv A outer s H E) k → Takes (cxd P w K mg base N x st f cdv A outer s H E) (fun cls d _ H' => E cls d H') →
      PassesOwn (model P w) (cxd P w K mg base N x st f cdv A outer s H E).A (cxd P w K mg base N x st f cdv A outer s H E).env (cxd P w K mg base N x st f cdv A outer s H E).xe →
      JSs (bs (cxd P w K mg base N x st f cdv A outer s H E) tbs) (fun cls d _ H' => E cls d H') (cxd P w K mg base N x st f cdv A outer s H E) (defBody st) g) :
    FdK P w base ⟨K, mg, tbs⟩ (k + 1) x ps.length (mk ps.length N.length g) kws := by
  obtain ⟨f, fd, F, hm, hb, hc, hkw⟩ := D.ex
  refine ⟨mk_len, f, fd, ps, hm, F.kp, rfl, hb, hkw, fun Ao fr s0 Hq gs us vs Q E room gd en bt rv hsp => ?_⟩
  obtain ⟨c1, c2, c3, c4, c5, c6, c7, c8, c9, rfl, look, code⟩ := F.ex
  have kin : K.In s0.heap := en.mod.kin.keeps fun z o e => (en.bs z o e).1
  refine codeAny_call_function room.depth (kin _ _ look) rfl S.co S.gen rfl (PySem.W.codeRec_of kin code) (bt _ _ _ _ ?_)
  refine wpAny_newFunctionEnv_cells S.kind (fun y m => ?_) fun en1 same s1 there => ?_
  · have m1 := (List.of_mem_zip (show (y.1, y.2) ∈ ps.zip us from m)).1
    exact (S.par y.1 m1).elim .inl fun z => .inr ⟨z, PySem.W.cellsFrom_some _ _ _ (.inl z)⟩
  subst same
  refine ⟨(en.mod.nolimit.keeps fun z o e => (en.bs z o e).1).keeps there.toInCall.keep, codeAny_func ?_⟩
  have inv := inv_start (CX := CX P w) (E := E) S room.hd en hsp.1 rv there
  have bd := body f c7 Ao fr s0 Hq E (fun a e => hc a e) ⟨room.deeper _, guards_deeper.trans gd⟩ (takes_of rfl rfl rfl rfl) (passes_of rfl)
  obtain ⟨_, μ, xs, ph, rs, wd, ok⟩ := hsp
  have hx : xs.length = ps.length := by
    rw [rs.len]
    assumption
  have ok1 : OutOk ⟨K, mg, tbs⟩ (fun cls d _ H' => E cls d H') (fun H' μ' => Rl K H' μ') μ Hq [] (gcN ph (runB g N.length xs ph)) Q := by
    have z := ok
    unfold mk at z
    rw [if_pos hx] at z
    exact z
  have ok2 := OutOk.gcN wd ok1
  refine wpAny_mono (bd.run [] s1 (L2.start N vs) Hq { nx := fun _ H2 => Q V.non H2, rt := Q } inv ⟨μ, args0 N.length xs, ph, sr_start rs, wd, ?_⟩) (fun fl s2 h => ?_) fun _ _ h => h
  · unfold runB at ok2
    cases e : g (args0 N.length xs) ph with
    | nx s h =>
      rw [e] at ok2
      exact fun μ' H' σ' x1 w1 _ => ok2 μ' H' _ x1 w1 .non
    | rt v h =>
      rw [e] at ok2
      exact ok2
    | err z s h =>
      rw [e] at ok2
      exact fun μ' H' σ' cls d x1 w1 _ r1 => ok2 μ' H' cls d x1 w1 r1
    | bk s h => rw [e] at ok2; exact ok2.elim
    | ct s h => rw [e] at ok2; exact ok2.elim
    | no => rw [e] at ok2; exact ok2.elim
  · cases fl with
    | ret u =>
      obtain ⟨v, σ2, H2, J, r2, q2⟩ := h
      exact ⟨v, H2, J.os, J.bare, J.base, J.hok, r2, q2⟩
    | next =>
      obtain ⟨σ2, H2, J, q2⟩ := h
      exact ⟨V.non, H2, J.os, J.bare, J.base, J.hok, rfl, q2⟩
    | brk => exact absurd h fun ⟨_, _, _, z⟩ => z
    | cont => exact absurd h fun ⟨_, _, _, z⟩ => z
/-- a def that never tells anything -/
def mNo : DF := fun _ _ => .no
theorem fd_no {x : Str} {st : Stmt} {ps : List Str} {k : Nat} {c : Option Addr} {kws : Kws} (D : DefP K mg x st ps c kws) : FdK P w base ⟨K, mg, tbs⟩ k x ps.length mNo kws := by
  obtain ⟨f, fd, F, hm, hb, hc, hkw⟩ := D.ex
  refine ⟨fun _ _ _ => rfl, f, fd, ps, hm, F.kp, rfl, hb, hkw, fun Ao fr s0 Hq gs us vs Q E room gd en bt rv hsp => ?_⟩
  obtain ⟨_, μ, xs, ph, rs, wd, ok⟩ := hsp
  exact ok.elim
end
/-- a, b, c = x, y, z -/
def sPar3 (i j l : Nat) (f : DA) : DS := fun s h => (f s h).then s fun vs h => match vs with
  | [v, w, u] => .nx (((s.set i (some v)).set j (some w)).set l (some u)) h
  | _ => .no
section
variable {tbs : List Addr} {W : WX} {X : Cx} {pos : Pos}
theorem js_par3 {i j l : Nat} {x y z : Str} {a b c : Expr} {f : DA} {px py pz pt : Pos} {kt k2 pt2} (hc : X.calm = true) (hN : X.N.Nodup) (ha : JA (bs X tbs) W X [a, b, c] f) (hi : X.N[i]? = some x := by rfl) (hj : X.N[j]? = some y := by rfl) (hl : X.N[l]? = some z := by rfl) (hij : i ≠ j := by decide) (hil : i ≠ l := by decide) (hjl : j ≠ l := by decide)
    (hx : X.env.scope.names.lookup x = some .local := by rfl) (hy : X.env.scope.names.lookup y = some .local := by rfl) (hz : X.env.scope.names.lookup z = some .local := by rfl)
    (hw : swappedStores [.Tuple [.Name x px, .Name y py, .Name z pz] kt pt] (.Tuple [a, b, c] k2 pt2) X.env = pure (some [x, y, z]) := by rfl)
    (hs : swapsWithSole [.Tuple [.Name x px, .Name y py, .Name z pz] kt pt] (.Tuple [a, b, c] k2 pt2) pos.line X.env = pure false := by rfl) : JS (bs X tbs) W X (.Assign [.Tuple [.Name x px, .Name y py, .Name z pz] kt pt] (.Tuple [a, b, c] k2 pt2) pos) (sPar3 i j l f) :=
  PS_imp (ps_par3 hc hN hi hj hl hij hil hjl hx hy hz ha hw hs) fun D σ H ⟨μ, ps, ph, sr, wd, ok⟩ => ⟨μ, ps, ph, sr, wd, OutOk.then_ sr ok fun xs ph1 μ1 H1 vs e1 w1 r1 ok1 => by
    split at ok1
    · cases r1 with
      | cons ra rr =>
        obtain ⟨v2, v3, rfl, rb, rc⟩ := rr.two'
        exact ⟨_, _, _, rfl, ok1 μ1 H1 _ Ex.refl w1 ((((sr.mono e1).set _ ra).set _ rb).set _ rc)⟩
    · exact ok1.elim⟩
end
end Dn
namespace Dn
open PySem PySem.Spec PyProof.Rows L2 PySem.SeqAt GxR
section
variable {tbs : List Addr} {W : WX} {X : Cx} {pos : Pos}
/-- name = [a comprehension] -/
theorem js_setLc {i : Nat} {y : Str} {py spos : Pos} {elt tg iter : Expr} {ifs : List Expr} {scope : Scope} {own : List (Str × Nat)} {it : DI} {g : GP} {t : DT} {e : DE} (hc : X.calm = true) (hN : X.N.Nodup)
    (hi : JI (bs X tbs) W X tg iter it) (ok : BlkOk X.N X.env.scope scope own) (gok : GOk (own.map (·.2)) g)
    (hg : ∀ (s : Shared) (H : Hp) (C : Addr) (cl : List (Str × Addr)) (fp : List Addr), JG (X.blk s H scope (compEnvC scope cl C X.env) fp) tg g) (ht : ∀ (s : Shared) (H : Hp) (C : Addr) (cl : List (Str × Addr)) (fp : List Addr), JTs (bs X tbs) W0 (X.blk s H scope (compEnvC scope cl C X.env) fp) ifs t)
    (he : ∀ (s : Shared) (H : Hp) (C : Addr) (cl : List (Str × Addr)) (fp : List Addr), JE (bs X tbs) W0 (X.blk s H scope (compEnvC scope cl C X.env) fp) elt e)
    (hy : X.N[i]? = some y := by rfl) (hyl : X.env.scope.names.lookup y = some .local := by rfl)
    (hsw : swapsWith (.ListComp elt [⟨tg, iter, ifs, 0⟩] scope pos) (some (.Name y py)) spos.line X.env = pure true := by exact sw_true rfl rfl rfl (by decide +kernel)) (hs : ∀ x, foldedSetIterable iter X.env x = pure x := by intro _; rfl) :
    JS (bs X tbs) W X (.Assign [.Name y py] (.ListComp elt [⟨tg, iter, ifs, 0⟩] scope pos) spos) (sAsg (gNm i) (eLc it g t e (own.map (·.2)))) :=
  PS_imp (ps_setLc (g := gD X.K g) (tt := tDT (bs X tbs) W0 t) (te := tD (bs X tbs) W0 e) hc hN hy hyl hsw hi ok hg ht he hs) fun D σ H h => by
    obtain ⟨μ, ps, ph, sr, wd, q⟩ := asg_ok h
    refine lc_ok (Q := fun x H1 => gName i x σ H1 D.nx) gok ⟨μ, ps, ph, sr, wd, q.mono fun v H1 z => ?_⟩
    obtain ⟨μ1, px, r, as, e1, k⟩ := z
    cases e1
    exact k [(i, v)] (.cons r .nil)
end
end Dn
namespace Dn
open PySem PySem.Spec PyProof.Rows L2 PySem.SeqAt GxR

/-! ### raise X(), X an own class without an own __init__ -/
/-- the class x of the text, straight or not beneath ValueError -/
structure ExcP (K : PySem.W.Frag) (mg : Str → Option Value) (x : Str) : Prop where
  ex : ∃ (C : Addr), mg x = some (.ref C) ∧ PySem.W.keepIn K (.ref C) = true ∧ PySem.W.subIn K (.ref C) (.type "BaseException") = some true ∧ PySem.W.typeIn K (.ref C) = some (.type "type") ∧
    ∃ (bmB : List Value) (B newId initId : String), ExcBaseFacts B newId initId bmB ∧ PySem.W.excIn K C bmB newId = true
section
variable {X : Cx} {tbs : List Addr} {W : WX} {p pos : Pos}
theorem pmk_own0 {C : Addr} {bmB : List Value} {B newId initId : String} {x : Str} (F : ExcBaseFacts B newId initId bmB) (q : PySem.W.excIn X.K C bmB newId = true) (gC : X.mg x = some (.ref C))
    (kC : PySem.W.keepIn X.K (.ref C) = true) (r : Raises X (.ref C)) (hg : Gl X x) (hdb : (x == ("__debug__" : Str)) = false := by decide) : PMk X (.Call (.Name x p) [] [] pos) (fun _ H Q => Q (.ref C) none H) := by
  intro pins s σ H Q I h
  refine wpAny_Call_Name_kw (ld_glob I hg gC ?_ hdb)
  refine PySem.W.callWith_K0 I.kIn kC ?_
  show wpAny _ _ (call (.ref C) []) _ _ _
  obtain ⟨bm, N, nm, qn, bs, hdct, sn, sub, ab, col, dd, k0, k1, k2, k3, k5, mN, hC, hN, hni, T⟩ := exc_obj I.kIn q
  refine wpAny_call_exc_subT F T hC hN hni (fun h' e hm => ?_) (Nat.zero_le _)
  exact mk_of I hm r h (I.hok.gone hm.new)
def sRaise0 (x : Str) : DS := fun s h => .err ⟨x, none⟩ s h
theorem js_raise0 {x : Str} {rpos : Pos} (D : ExcP X.K X.mg x) (hc : X.calm = true) (tk : Takes X W) (hg : Gl X x) (hdb : (x == ("__debug__" : Str)) = false := by decide) : JS (bs X tbs) W X (.Raise (some (.Call (.Name x p) [] [] pos)) none rpos) (sRaise0 x) := by
  obtain ⟨C, h1, h2, h3, h4, bmB, B, n1, n2, F, h5⟩ := D.ex
  exact PS_imp (ps_raise hc tk (pmk_own0 F h5 h1 h2 (raises_own h3 h4) hg hdb)) fun D σ H ⟨μ, ps, ph, sr, wd, ok⟩ => ok μ H σ _ _ Ex.refl wd sr ⟨h1, rfl⟩
end
end Dn
namespace Dn
open PySem PySem.Spec PyProof.Rows L2 PySem.SeqAt GxR

/-! ### raise X(e), X a class that keeps its one argument under one name -/
/-- what such an __init__ does -/
def spInit (C : Addr) (f : Str) : Sp := fun vs H Q _ => ∃ (a : Addr) (y : V), vs = [.ref a, y] ∧ H a = some (exo a C none) ∧ ∀ d, H d = none → d ≠ a → Q .non (upd (upd H d (exd d [(f, y)])) a (exo a C (some d)))
structure ExcP1 (P : Program) (w : World) (K : PySem.W.Frag) (mg : Str → Option Value) (base : Heap) (x f : Str) : Prop where
  ex : ∃ (C fI : Addr) (fd : FuncData), mg x = some (.ref C) ∧ OexC K C ∧ PySem.W.findIn K (.ref C) "__init__" = some (some (.ref fI)) ∧ PySem.W.typeIn K (.ref fI) = some (.type "function") ∧
    FnOk P w K mg base CX0 1 fI fd ["self", f] (spInit C f) ∧ Binds K fd ["self", f] []
def sRaise1 (x f : Str) (e : DE) : DS := fun s h => (e s h).then s fun v h => .err ⟨x, some (f, v)⟩ s h
section
variable {X : Cx} {tbs : List Addr} {W : WX} {p pos : Pos}
theorem js_raise1 {x f : Str} {e : Expr} {g : DE} {k : Nat} {rpos : Pos} (D : ExcP1 X.prog X.w X.K X.mg X.base x f) (pl : Pl X (k + 2)) (hc : X.calm = true) (tk : Takes X W) (hg : Gl X x) (he : JE (bs X tbs) W X e g) (hdb : (x == ("__debug__" : Str)) = false := by decide)
    (hs : starEach (e :: []) X.env = (false, eval e X.env) :: starEach [] X.env := by rfl) (hpl : (backTo pos (starEach [] X.env)).any (·.1) = false := by rfl) : JS (bs X tbs) W X (.Raise (some (.Call (.Name x p) [e] [] pos)) none rpos) (sRaise1 x f g) := by
  obtain ⟨C, fI, fd, h1, T, h3, h4, F, hb⟩ := D.ex
  refine PS_imp (ps_raise hc tk (pmk_oex T h3 h4 F (pl.room.mono (by omega)) hb .nil pass0 hg h1 (j_cons he j_nil hs) hdb hs hpl)) fun D σ H ⟨μ, ps, ph, sr, wd, ok⟩ => ⟨μ, ps, ph, sr, wd, ?_⟩
  unfold eCons eNil
  have e0 : ((g ps ph).bind fun x h => (Out.ok ([] : List PV) h).bind fun xs h => .ok (x :: xs) h) = (g ps ph).bind fun x h => .ok [x] h := by
    cases g ps ph <;> rfl
  rw [e0]
  unfold sRaise1 at ok
  cases eg : g ps ph with
  | no => rw [eg] at ok; exact ok
  | err z h =>
    rw [eg] at ok
    exact fun μ1 H1 cls d x1 w1 r1 => ok μ1 H1 σ cls d x1 w1 (sr.mono x1) r1
  | ok v h =>
    rw [eg] at ok
    intro μ1 H1 vs x1 w1 r1
    obtain ⟨u, rfl, ru⟩ := r1.one'
    refine ⟨by show 1 ≤ 1000; decide, fun a ha => ⟨a, u, rfl, upd_same, fun d hd hda => ⟨rfl, d, [(f, u)], upd_same, ?_, ?_, ?_⟩⟩⟩
    · rw [upd_ne hda, upd_same]
    · rw [upd_ne hda] at hd
      exact hd
    · have hd1 : H1 d = none := by
        rw [upd_ne hda] at hd
        exact hd
      have eH : upd (del (upd (upd (upd H1 a (exo a C none)) d (exd d [(f, u)])) a (exo a C (some d))) a) d (.xd [(f, u)]) = upd H1 d (.xd [(f, u)]) := by
        funext b
        by_cases e1 : b = d
        · subst e1
          rw [upd_same, upd_same]
        · rw [upd_ne e1, upd_ne e1]
          by_cases e2 : b = a
          · subst e2
            rw [del_same]
            exact ha.symm
          · rw [del_ne e2, upd_ne e2, upd_ne e1, upd_ne e2]
      rw [eH]
      exact ok μ1 _ σ _ _ (x1.trans (Ex.new hd1 _)) (w1.new hd1 _) ((sr.mono x1).mono (Ex.new hd1 _)) ⟨h1, d, u, rfl, upd_same, ru.mono (Ex.new hd1 _)⟩
end
end Dn
namespace Dn
open PySem PySem.Spec PyProof.Rows L2 PySem.SeqAt

/-! ### a, b = xs, a list -/
def hUn (n : Nat) (g : GHs) : GH := fun v s h => match lsOf h v with
  | some xs => if xs.length = n then g xs s h else none
  | none => none
section
variable {tbs : List Addr} {W : WX} {X : Cx} {pos : Pos}
theorem h_un {es : List Expr} {k n : Nat} {g : GHs} (hc : X.calm = true) (h : JHs (bs X tbs) X es g) (hn : (assignEach es X.env).length = n := by rfl) (hst : (assignEach es X.env).findIdx? (·.1) = none := by rfl) : JH (bs X tbs) X (.Tuple es k pos) (hUn n g) :=
  PG_imp' (pg_unl hc h hn hst) fun v σ H Q ⟨μ, ps, ph, px, sr, wd, r, ok⟩ => by
    unfold hUn at ok
    cases e : lsOf ph px with
    | none => rw [e] at ok; exact ok.elim
    | some xs =>
      rw [e] at ok
      dsimp only at ok
      split at ok
      · rename_i hl
        obtain ⟨a, vs, ev, hs, ra⟩ := lsOf_ok wd e r
        exact ⟨a, vs, ev, hs, by rw [← ra.len]; exact hl, μ, ps, ph, xs, sr, wd, ra, ok⟩
      · exact ok.elim
end
end Dn
namespace Dn
open PySem PySem.Spec PyProof.Rows L2 PySem.SeqAt GxR

/-! ### try .. except X as n: what the suite reads of the exception -/
/-- isinstance of the caught exception, with or without its own dict -/
def rIsE2 (K : PySem.W.Frag) (D a : Addr) (d : Option Addr) : List V → Hp → VK → Prop := fun xs H Q => ∃ (c : V) (cv : Value) (b : Bool), xs = [.ref a, c] ∧ (∀ u, RelV c u → u = cv) ∧ PySem.W.kitOne K (.ref D) cv = some b ∧ (∀ dd, d = some dd → ∃ fs, H dd = some (.xd fs)) ∧ Q (.bl b) H
theorem call_isE2 {X : Cx} {a D : Addr} {d : Option Addr} {oe : Obj} {pn : List (Addr × Obj)} (C : ExcC X.K D) (hz : Zc (.ref D) d oe) (hf : ∃ vs, oe.data = .fields vs) : CallR (X.suite a ((a, oe) :: pn)) (.builtin "isinstance") (rIsE2 X.K D a d) := by
  intro pins s σ H xs us Q I r h
  obtain ⟨c, cv, b, rfl, hcv, e, hdd, q⟩ := h
  cases r with
  | cons rx rr =>
    cases rr with
    | cons rt rr =>
      cases rr
      cases rx
      have ec := hcv _ rt
      subst ec
      obtain ⟨hget, _⟩ := I.pin (a, oe) (List.mem_append.mpr (.inl List.mem_cons_self))
      obtain ⟨vs, hv⟩ := hf
      obtain ⟨od, J⟩ : ∃ od, PySem.W.InstAt s.heap a oe D od := by
        cases d with
        | none =>
          refine ⟨none, ?_⟩
          obtain ⟨oc, od, oda, osl⟩ := oe
          obtain ⟨h1, h2⟩ := hz
          dsimp only at h1 h2 hv
          subst h1 h2 hv
          exact ⟨hget, rfl, rfl, trivial⟩
        | some dd =>
          obtain ⟨fs, ea⟩ := hdd dd rfl
          have hx : ObjOk X.prog X.w H s.heap dd (.xd fs) := I.hok dd _ ea
          obtain ⟨mA, hns, hr⟩ := hx
          obtain ⟨od, ho, hl⟩ := lookIn_ns hns
          exact ⟨some od, ⟨hget, hz.1, by unfold PySem.W.notCls; rw [hv] <;> rfl, by rw [hz.2]; exact ho⟩⟩
      have hcl : (PySem.W.clsIn X.K D).isSome = true := by
        obtain ⟨cd, hc, _⟩ := PySem.W.any_some C.hd
        rw [hc]; rfl
      exact PySem.W.kia_one (PySem.W.kitx_exc hcl C.hg C.hk C.hs C.ha C.hn C.ht C.hm) I.kIn J e (fun z => nomatch z) fun tk => ⟨.bl b, H, I.kept (t' := tk) fun _ _ z => z, rfl, q⟩
/-- how classes of the text stand to the class x: in an except clause, in isinstance -/
def ExmTab (K : PySem.W.Frag) (mg : Str → Option Value) (x : Str) (tab : List (Str × Bool)) : Prop := ∃ c, mg x = some c ∧ ∀ y b, (y, b) ∈ tab → ∃ cy, mg y = some cy ∧ PySem.W.exmOne K cy c = some b
def IsiTab (K : PySem.W.Frag) (mg : Str → Option Value) (x : Str) (tab : List (Str × Bool)) : Prop := ∃ C : Addr, mg x = some (.ref C) ∧ ∀ y b, (y, b) ∈ tab → ∃ D : Addr, mg y = some (.ref D) ∧ ExcC K D ∧ PySem.W.kitOne K (.ref D) (.ref C) = some b
def FldTab (K : PySem.W.Frag) (mg : Str → Option Value) (f : Str) (ys : List Str) : Prop := ∀ y ∈ ys, ∃ D : Addr, mg y = some (.ref D) ∧ XfC K D ∧ PySem.W.findIn K (.ref D) f = some none
/-- the exception that a suite holds, as the slots and the objects show it -/
def Kn (B : Bs) (a : Addr) (cls : Value) (d : Option Addr) (i : Nat) (e : PErr) (μ : List Addr) (ps : Sl) (σ : L2.St) (H : Hp) : Prop := ER B.K B.mg H μ e cls d ∧ σ[i]? = some (some (.ref a)) ∧ Sr B.K H μ ps σ
abbrev QE := PErr → Sl → Option PV
abbrev QA := PErr → Sl → Option (List PV)
section
variable (B : Bs) (a : Addr) (cls : Value) (d : Option Addr) (i : Nat) (X : Cx)
/-- an expression of the suite that changes nothing -/
def JQ (e : Expr) (f : QE) : Prop := PE X e fun σ H Q => ∃ z μ ps x, Kn B a cls d i z μ ps σ H ∧ f z ps = some x ∧ ∀ v, Rl B.K H μ x v → Q v H
def JQA (es : List Expr) (f : QA) : Prop := PA X es fun σ H Q => ∃ z μ ps xs, Kn B a cls d i z μ ps σ H ∧ f z ps = some xs ∧ ∀ vs, Rls B.K H μ xs vs → Q vs H
/-- the suite itself -/
def JX (st : List Stmt) (g : PErr → DS) : Prop := PSs X st fun D σ H => ∃ z μ ps ph, Kn B a cls d i z μ ps σ H ∧ Wd B.K B.tbs μ ph H ∧ OutSOk B W0 μ H (g z ps ph) D
end
section
variable {tbs : List Addr} {X : Cx} {a : Addr} {cls : Value} {d : Option Addr} {i : Nat} {pos : Pos} {oe : Obj} {pn : List (Addr × Obj)}
def qC (x : PV) : QE := fun _ _ => some x
theorem q_c {e : Expr} {x : PV} {v : V} (h : PE (Cx.suite X a ((a, oe) :: pn)) e (tC v)) (r : ∀ H μ, Rl X.K H μ x v) : JQ (bs X tbs) a cls d i (Cx.suite X a ((a, oe) :: pn)) e (qC x) := PE_imp h fun σ H Q ⟨z, μ, ps, y, kn, e1, k⟩ => by
  cases e1
  exact k v (r _ _)
theorem q_int {n : Int} {j} : JQ (bs X tbs) a cls d i (Cx.suite X a ((a, oe) :: pn)) (.Constant (.int n) j pos) (qC (.int n)) := q_c pe_int fun _ _ => .int n
theorem q_bl {n : Bool} {j} : JQ (bs X tbs) a cls d i (Cx.suite X a ((a, oe) :: pn)) (.Constant (.bool n) j pos) (qC (.bl n)) := q_c pe_bl fun _ _ => .bl n
theorem q_non {j} : JQ (bs X tbs) a cls d i (Cx.suite X a ((a, oe) :: pn)) (.Constant .none j pos) (qC .non) := q_c pe_non fun _ _ => .non
theorem q_str {x : Str} {j} : JQ (bs X tbs) a cls d i (Cx.suite X a ((a, oe) :: pn)) (.Constant (.str x) j pos) (qC (.str x)) := q_c pe_str fun _ _ => .str x
def qVar (k : Nat) : QE := fun _ s => match s[k]? with
  | some (some x) => some x
  | _ => none
theorem q_var (k : Nat) {x : Str} (hN : X.N[k]? = some x := by rfl) (hv : Vis X.env.scope x := by first | exact Or.inl rfl | exact Or.inr (Or.inl rfl) | exact Or.inr (Or.inr rfl)) (hd : (x == ("__debug__" : Str)) = false := by decide)
    (hcd : (x == ("__classdict__" : Str)) = false := by decide) : JQ (bs X tbs) a cls d i (Cx.suite X a ((a, oe) :: pn)) (.Name x pos) (qVar k) := PE_imp (pv (X := (Cx.suite X a ((a, oe) :: pn))) k hN hv hd hcd) fun σ H Q ⟨z, μ, ps, y, ⟨er, sa, sr⟩, e1, q⟩ => by
  unfold qVar at e1
  split at e1
  · rename_i w e
    cases e1
    obtain ⟨u, h1, h2⟩ := sr.at_ k _ e
    exact ⟨u, h1, q u h2⟩
  · cases e1
/-- n.f, n the caught exception -/
def qFld (ys : List Str) (f : Str) : QE := fun z _ => if z.cls ∈ ys then (match z.fld with
  | some (g, x) => if g = f then some x else none
  | none => none) else none
theorem q_fld {f n : Str} {ys : List Str} {p : Pos} (T : FldTab X.K X.mg f ys) (hz : Zc cls d oe) (hf : ∃ vs, oe.data = .fields vs) (hN : X.N[i]? = some n := by rfl) (hv : Vis X.env.scope n := by first | exact Or.inl rfl | exact Or.inr (Or.inl rfl) | exact Or.inr (Or.inr rfl)) (hd : (n == ("__debug__" : Str)) = false := by decide)
    (hcd : (n == ("__classdict__" : Str)) = false := by decide) (hb : attributeBase (.Name n p) f X.env (eval (.Name n p) X.env) = eval (.Name n p) X.env := by rfl) : JQ (bs X tbs) a cls d i (Cx.suite X a ((a, oe) :: pn)) (.Attribute (.Name n p) f pos) (qFld ys f) := by
  refine ⟨fun pins s σ H Q I ⟨z, μ, ps, y, ⟨er, sa, sr⟩, e1, q⟩ => ?_⟩
  unfold qFld at e1
  split at e1
  · rename_i my
    obtain ⟨D, hD, xf, fn⟩ := T _ my
    obtain ⟨ec, ed⟩ := er
    obtain rfl : cls = .ref D := Option.some.inj (ec.symm.trans hD)
    cases hfl : z.fld with
    | none => rw [hfl] at e1; cases e1
    | some gx =>
      obtain ⟨g, x⟩ := gx
      rw [hfl] at e1 ed
      dsimp only at e1 ed
      split at e1
      · rename_i eg
        subst eg
        cases e1
        obtain ⟨da, v, rfl, hda, rv⟩ := ed
        refine (pe_xf (te := tVar i) xf fn hz hf (pv (X := (Cx.suite X a ((a, oe) :: pn))) i hN hv hd hcd) hb).run pins s σ H Q I ?_
        exact ⟨.ref a, sa, rfl, rfl, da, _, v, rfl, hda, by simp [List.lookup], q v rv⟩
      · cases e1
  · cases e1
/-- isinstance(n, X) -/
def qIsi (tab : List (Str × Bool)) : QE := fun z _ => (tab.lookup z.cls).map .bl
theorem lookup_mem {tab : List (Str × Bool)} {y : Str} {b : Bool} (h : tab.lookup y = some b) : (y, b) ∈ tab := by
  induction tab with
  | nil => cases h
  | cons p r ih =>
    obtain ⟨k, c⟩ := p
    by_cases e : y = k
    · subst e
      have : ((y, c) :: r).lookup y = some c := by simp [List.lookup]
      rw [this] at h
      cases h
      exact List.mem_cons_self
    · have : ((k, c) :: r).lookup y = r.lookup y := by
        have hb : (y == k) = false := by simpa using e
        simp [List.lookup, hb]
      rw [this] at h
      exact List.mem_cons_of_mem _ (ih h)
theorem q_isi {n x : Str} {tab : List (Str × Bool)} {p p1 p2 : Pos} (T : IsiTab X.K X.mg x tab) (hz : Zc cls d oe) (hf : ∃ vs, oe.data = .fields vs) (hi : X.mg ("isinstance" : Str) = none) (hg : Gl X ("isinstance" : Str) := by rfl) (hg2 : Gl X x := by rfl) (hN : X.N[i]? = some n := by rfl) (hv : Vis X.env.scope n := by first | exact Or.inl rfl | exact Or.inr (Or.inl rfl) | exact Or.inr (Or.inr rfl)) (hd : (n == ("__debug__" : Str)) = false := by decide)
    (hcd : (n == ("__classdict__" : Str)) = false := by decide) (hd2 : (x == ("__debug__" : Str)) = false := by decide)
    (hs : starEach [.Name n p, .Name x p2] X.env = (false, eval (.Name n p) X.env) :: starEach [.Name x p2] X.env := by rfl) (hp : (backTo pos (starEach [.Name x p2] X.env)).any (·.1) = false := by rfl) :
    JQ (bs X tbs) a cls d i (Cx.suite X a ((a, oe) :: pn)) (.Call (.Name ("isinstance" : Str) p1) [.Name n p, .Name x p2] [] pos) (qIsi tab) := by
  refine ⟨fun pins s σ H Q I ⟨z, μ, ps, y, ⟨er, sa, sr⟩, e1, q⟩ => ?_⟩
  unfold qIsi at e1
  cases el : tab.lookup z.cls with
  | none => rw [el] at e1; cases e1
  | some b =>
    rw [el] at e1
    cases e1
    obtain ⟨C, hC, T⟩ := T
    obtain ⟨D, hD, xc, kb⟩ := T _ _ (lookup_mem el)
    obtain ⟨ec, ed⟩ := er
    obtain rfl : cls = .ref D := Option.some.inj (ec.symm.trans hD)
    refine (pe_callB (X := (Cx.suite X a ((a, oe) :: pn))) (call_isE2 xc hz hf) hg hi (by decide +kernel) (pa_cons (pv (X := (Cx.suite X a ((a, oe) :: pn))) i hN hv hd hcd) (pa_cons (pe_glob (X := (Cx.suite X a ((a, oe) :: pn))) hg2 hC (show RelV (.ref C) (.ref C) from rfl) hd2) pa_nil) hs) (by decide) (by decide) hs hp).run pins s σ H Q I ?_
    refine ⟨.ref a, sa, .ref C, .ref C, b, rfl, fun u r => r, kb, fun dd e => ?_, q _ (.bl b)⟩
    subst e
    cases hfl : z.fld with
    | none => rw [hfl] at ed; cases ed
    | some gx =>
      rw [hfl] at ed
      obtain ⟨da, v, e2, hda, _⟩ := ed
      cases e2
      exact ⟨_, hda⟩
/-- x if c else y -/
def qIf (c f g : QE) : QE := fun z s => match c z s with
  | some (.bl true) => f z s
  | some (.bl false) => g z s
  | _ => none
theorem q_if {c e1 e2 : Expr} {fc f g : QE} (hc : JQ (bs X tbs) a cls d i (Cx.suite X a ((a, oe) :: pn)) c fc) (h1 : JQ (bs X tbs) a cls d i (Cx.suite X a ((a, oe) :: pn)) e1 f) (h2 : JQ (bs X tbs) a cls d i (Cx.suite X a ((a, oe) :: pn)) e2 g) (he : ∀ whole, isTrue c X.env whole = (do let v ← whole; standAt c.pos; holding [v] (truthy v)) := by intro _; rfl) : JQ (bs X tbs) a cls d i (Cx.suite X a ((a, oe) :: pn)) (.IfExp c e1 e2 pos) (qIf fc f g) :=
  PE_imp (pe_ifExp (pt_val hc he) h1 h2) fun σ H Q ⟨z, μ, ps, x, kn, e, k⟩ => by
    unfold qIf at e
    split at e
    · rename_i ec
      refine ⟨z, μ, ps, _, kn, ec, fun v r => ?_⟩
      cases r
      exact ⟨true, rfl, ⟨z, μ, ps, x, kn, e, k⟩⟩
    · rename_i ec
      refine ⟨z, μ, ps, _, kn, ec, fun v r => ?_⟩
      cases r
      exact ⟨false, rfl, ⟨z, μ, ps, x, kn, e, k⟩⟩
    · cases e
def qNil : QA := fun _ _ => some []
def qCons (f : QE) (g : QA) : QA := fun z s => match f z s, g z s with
  | some x, some xs => some (x :: xs)
  | _, _ => none
theorem q_nil : JQA (bs X tbs) a cls d i (Cx.suite X a ((a, oe) :: pn)) [] qNil := PA_imp pa_nil fun σ H Q ⟨z, μ, ps, xs, kn, e, k⟩ => by
  cases e
  exact k [] .nil
theorem q_cons {e : Expr} {es : List Expr} {f : QE} {g : QA} (he : JQ (bs X tbs) a cls d i (Cx.suite X a ((a, oe) :: pn)) e f) (hr : JQA (bs X tbs) a cls d i (Cx.suite X a ((a, oe) :: pn)) es g) (hs : starEach (e :: es) X.env = (false, eval e X.env) :: starEach es X.env := by rfl) : JQA (bs X tbs) a cls d i (Cx.suite X a ((a, oe) :: pn)) (e :: es) (qCons f g) :=
  PA_imp (pa_cons he hr hs) fun σ H Q ⟨z, μ, ps, xs, kn, e, k⟩ => by
    unfold qCons at e
    split at e
    · rename_i x ys e1 e2
      cases e
      exact ⟨z, μ, ps, x, kn, e1, fun v r => ⟨z, μ, ps, ys, kn, e2, fun vs rs => k _ (.cons r rs)⟩⟩
    · cases e
/-- return x; return (x, y ..); return [x, y ..] -/
def xRet (f : QE) : PErr → DS := fun z s h => match f z s with
  | some x => .rt x h
  | none => .no
def xRetT (f : QA) : PErr → DS := fun z s h => match f z s with
  | some xs => if xs.length ≤ sizeLine then .rt (.tup xs) h else .no
  | none => .no
def xRetL (f : QA) : PErr → DS := fun z s h => match f z s with
  | some xs => if xs.length ≤ sizeLine then .rt (.ref h.length) (h ++ [.lst xs]) else .no
  | none => .no
theorem x_ret {e : Expr} {f : QE} (h : JQ (bs X tbs) a cls d i (Cx.suite X a ((a, oe) :: pn)) e f) : JX (bs X tbs) a cls d i (Cx.suite X a ((a, oe) :: pn)) [.Return (some e) pos] (xRet f) :=
  PSs_imp (pss_one (ps_ret h)) fun D σ H ⟨z, μ, ps, ph, kn, wd, ok⟩ => by
    unfold xRet at ok
    cases e1 : f z ps with
    | none => rw [e1] at ok; exact ok.elim
    | some x =>
      rw [e1] at ok
      exact ⟨z, μ, ps, x, kn, e1, fun v r => ok μ H v Ex.refl wd r⟩
theorem x_retT {es : List Expr} {k} {pt : Pos} {f : QA} (h : JQA (bs X tbs) a cls d i (Cx.suite X a ((a, oe) :: pn)) es f) : JX (bs X tbs) a cls d i (Cx.suite X a ((a, oe) :: pn)) [.Return (some (.Tuple es k pt)) pos] (xRetT f) :=
  PSs_imp (pss_one (ps_ret (pe_tup h))) fun D σ H ⟨z, μ, ps, ph, kn, wd, ok⟩ => by
    unfold xRetT at ok
    cases e1 : f z ps with
    | none => rw [e1] at ok; exact ok.elim
    | some xs =>
      rw [e1] at ok
      dsimp only at ok
      by_cases l : xs.length ≤ sizeLine
      · rw [if_pos l] at ok
        refine ⟨z, μ, ps, xs, kn, e1, fun vs r => ⟨by rw [← r.len]; exact l, fun p hp => ?_⟩⟩
        obtain ⟨x1, x2, x3⟩ := wd.newTup r hp
        exact ok μ _ _ x1 x2 x3
      · rw [if_neg l] at ok; exact ok.elim
theorem x_retL {es : List Expr} {pt : Pos} {f : QA} (h : JQA (bs X tbs) a cls d i (Cx.suite X a ((a, oe) :: pn)) es f) : JX (bs X tbs) a cls d i (Cx.suite X a ((a, oe) :: pn)) [.Return (some (.List es pt)) pos] (xRetL f) :=
  PSs_imp (pss_one (ps_ret (pe_lst h))) fun D σ H ⟨z, μ, ps, ph, kn, wd, ok⟩ => by
    unfold xRetL at ok
    cases e1 : f z ps with
    | none => rw [e1] at ok; exact ok.elim
    | some xs =>
      rw [e1] at ok
      dsimp only at ok
      by_cases l : xs.length ≤ sizeLine
      · rw [if_pos l] at ok
        refine ⟨z, μ, ps, xs, kn, e1, fun vs r => ⟨by rw [← r.len]; exact l, fun p hp => ?_⟩⟩
        obtain ⟨x1, x2, x3⟩ := wd.newLst r hp
        exact ok _ _ _ x1 x2 x3
      · rw [if_neg l] at ok; exact ok.elim
end
/-- try: body, except X as n: suite; tab: which classes the clause takes, i: n's slot -/
def sTry (i : Nat) (tab : List (Str × Bool)) (f : DS) (g : PErr → DS) : DS := fun s h => match f s h with
  | .err z s' h' => (match tab.lookup z.cls, s'[i]? with
    | some true, some _ => (match g z (s'.set i none) h' with
      | .nx s2 h2 => .nx (s2.set i none) h2
      | .bk s2 h2 => .bk (s2.set i none) h2
      | .ct s2 h2 => .ct (s2.set i none) h2
      | .rt v h2 => .rt v h2
      | .err _ _ _ => .no
      | .no => .no)
    | some false, some _ => .err z s' h'
    | _, _ => .no)
  | o => o
theorem Sr.unset {K : PySem.W.Frag} {H : Hp} {μ : List Addr} {ps : Sl} {σ : L2.St} {o : Option V} (h : Sr K H μ ps σ) (i : Nat) : Sr K H μ (ps.set i none) (σ.set i o) := by
  refine ⟨by rw [List.length_set, List.length_set]; exact h.len, fun j y q => ?_⟩
  by_cases e : i = j
  · subst e
    have lt : i < ps.length := by
      have := (List.getElem?_eq_some_iff.mp q).1
      simpa using this
    rw [List.getElem?_set_self lt] at q
    cases q
  · rw [List.getElem?_set_ne e] at q
    rw [List.getElem?_set_ne e]
    exact h.at_ j y q
section
variable {tbs : List Addr} {W : WX} {X : Cx} {x n : Str} {i : Nat} {body suite : List Stmt} {b₀ : Stmt} {np pos pos' : Pos} {tab : List (Str × Bool)} {f : DS} {g : PErr → DS}
theorem js_try_as (T : ExmTab X.K X.mg x tab) (hg : Gl X x) (hs : X.stack = X.env :: X.outer) (hf : X.env.frame = some X.env.locals) (hN : X.N.Nodup) (tk : Takes X W)
    (hb : ∀ (W : WX) (pn : List (Addr × Obj)) (xe : Value → Shared → Prop), Takes (X.tr pn xe) W → PassesOwn (model X.prog X.w) X.A X.env xe → JSs (bs X tbs) W (X.tr pn xe) body f)
    (hsu : ∀ (a : Addr) (oe : Obj) (cls : Value) (d : Option Addr) (pn : List (Addr × Obj)), Zc cls d oe → (∃ vs, oe.data = .fields vs) → JX (bs X tbs) a cls d i (X.suite a ((a, oe) :: pn)) (b₀ :: suite) g)
    (hi : X.N[i]? = some n := by rfl) (hln : X.env.kindOf n = some .local := by rfl) (hdb : (x == ("__debug__" : Str)) = false := by decide) :
    JS (bs X tbs) W X (.Try body [.ExceptHandler (some (.Name x np)) (some n) (b₀ :: suite) pos'] [] [] pos) (sTry i tab f g) := by
  obtain ⟨c, hc, T⟩ := T
  refine PS_imp (ps_try_as (i := i) hs hf hN hi hln ⟨hg, hdb, .inl hc⟩ tk hb hsu) fun D σ H ⟨μ, ps, ph, sr, wd, ok⟩ => ⟨μ, ps, ph, sr, wd, ?_⟩
  unfold sTry at ok
  cases ef : f ps ph with
  | nx s h => rw [ef] at ok; exact ok
  | rt v h => rw [ef] at ok; exact ok
  | bk s h => rw [ef] at ok; exact ok
  | ct s h => rw [ef] at ok; exact ok
  | no => rw [ef] at ok; exact ok
  | err z s h =>
    rw [ef] at ok
    dsimp only at ok
    intro μ1 H1 σ1 cls d x1 w1 s1 er
    split at ok
    · rename_i o el ei
      obtain ⟨cy, hcy, hex⟩ := T _ _ (lookup_mem el)
      obtain rfl : cls = cy := Option.some.inj (er.1.symm.trans hcy)
      refine ⟨true, hex, fun _ a na => ?_, fun q => (nomatch q)⟩
      refine ⟨z, μ1, s.set i none, h, ⟨er, ?_, s1.unset i⟩, w1, ?_⟩
      · have l1 : i < σ1.length := by
          rw [← s1.len]
          exact (List.getElem?_eq_some_iff.mp ei).1
        rw [List.getElem?_set_self l1]
      · cases eg : g z (s.set i none) h with
        | nx s2 h2 => rw [eg] at ok; exact fun μ2 H2 σ2 x2 w2 s2 => ok μ2 H2 _ (x1.trans x2) w2 (s2.unset i)
        | bk s2 h2 => rw [eg] at ok; exact fun μ2 H2 σ2 x2 w2 s2 => ok μ2 H2 _ (x1.trans x2) w2 (s2.unset i)
        | ct s2 h2 => rw [eg] at ok; exact fun μ2 H2 σ2 x2 w2 s2 => ok μ2 H2 _ (x1.trans x2) w2 (s2.unset i)
        | rt v h2 => rw [eg] at ok; exact fun μ2 H2 v2 x2 w2 r2 => ok μ2 H2 _ (x1.trans x2) w2 r2
        | err _ _ _ => rw [eg] at ok; exact ok.elim
        | no => rw [eg] at ok; exact ok.elim
    · rename_i o el ei
      obtain ⟨cy, hcy, hex⟩ := T _ _ (lookup_mem el)
      obtain rfl : cls = cy := Option.some.inj (er.1.symm.trans hcy)
      exact ⟨false, hex, fun q => (nomatch q), fun _ => ok μ1 H1 σ1 cls d x1 w1 s1 er⟩
    · exact ok.elim
end
end Dn
namespace Dn
open PySem PySem.Spec PyProof.Rows L2 PySem.SeqAt GxR

/-! ### own exception classes, from what the written part shows of them -/
/-- the j-th statement of a class of the text -/
def inCls (s : Stmt) (j : Nat) : Stmt := match s with
  | .ClassDef _ _ _ b _ _ _ _ _ _ _ => b.getD j (.Pass ⟨0, 0, 0, 0⟩)
  | _ => .Pass ⟨0, 0, 0, 0⟩
section
variable {P : Program} {w : World} {K : PySem.W.Frag} {mg : Str → Option Value} {base : Heap}
theorem init_fn {fI C : Addr} {fd : FuncData} {f q : Str} {st : Stmt} {p1 p2 p3 p4 : Pos} (F : Fun K "__init__" q st fI fd) (T : OexC K C) (hno : PySem.W.findIn K (.ref C) f = some none)
    (hb : defBody st = [.Assign [.Attribute (.Name "self" p1) f p2] (.Name f p3) p4]) (S : FnScope ["self", f] ["self", f] (defScope st)) (v0 : Vis (defScope st) "self") (v1 : Vis (defScope st) f) (d1 : (f == ("__debug__" : Str)) = false) (d2 : (f == ("__classdict__" : Str)) = false)
    (sw : ∀ (env : Env), env.scope = defScope st → swapsWith (.Name f p3) (some (.Attribute (.Name "self" p1) f p2)) p4.line env = pure false) : FnOk P w K mg base CX0 1 fI fd ["self", f] (spInit C f) := by
  refine F.ok S (fun vs H Q E h => ?_) fun cdv A outer s H vs Q E hr h => ?_
  · obtain ⟨a, y, rfl, _⟩ := h
    rfl
  · rw [hb]
    refine ⟨_, pss_one (ps_ost (pv 0 rfl v0 (by decide) (by decide)) (pv 1 rfl v1 d1 d2) (sw _ rfl)), ?_⟩
    obtain ⟨a, y, rfl, ha, k⟩ := h
    exact ⟨y, rfl, .ref a, rfl, a, C, rfl, T, hno, .inl ⟨ha, fun dx hd hne => k dx hd hne⟩⟩
theorem excP_of {h : Heap} {x : Str} {C : Addr} (X : K.In h) (G : h.Ns mainGlobals mg) (aC : PySem.W.nsIn K mainGlobals x = some (some (.ref C))) (kC : PySem.W.keepIn K (.ref C) = true) (eC : PySem.W.subIn K (.ref C) (.type "BaseException") = some true) (tC : PySem.W.typeIn K (.ref C) = some (.type "type"))
    (q : PySem.W.excIn K C [.type "ValueError", .type "Exception", .type "BaseException", .type "object"] "ValueError.__new__" = true) : ExcP K mg x := ⟨C, PySem.W.mg_of X G aC, kC, eC, tC, _, "ValueError", _, _, PySem.F.excBase_ValueError, q⟩
theorem excP1_of {h : Heap} {x f q : Str} {C fI : Addr} {st : Stmt} {p1 p2 p3 p4 : Pos} (X : K.In h) (G : h.Ns mainGlobals mg) (aC : PySem.W.nsIn K mainGlobals x = some (some (.ref C))) (kC : PySem.W.keepIn K (.ref C) = true) (eC : PySem.W.subIn K (.ref C) (.type "BaseException") = some true) (tC : PySem.W.typeIn K (.ref C) = some (.type "type"))
    {nm qn : Str} {N : Addr} {bs bm : List Value} {sn : List Str} {sub : List Value} {ab : Bool} {col : Option Bool} {dd : Option Addr} {m0 m1 m2 m3 m5 : Option Value} (xL : K.lookup C = some (excClassObj nm qn C N bs bm true sn sub ab col dd m0 m1 m2 m3 m5 "ValueError.__new__")) (rV : PySem.HandSPX.refsVE bm = true)
    (sa : PySem.W.findIn K (.ref C) "__setattr__" = some (some (.builtin "object.__setattr__"))) (nf : PySem.W.findIn K (.ref C) f = some none) (a1 : PySem.W.findIn K (.ref C) "__init__" = some (some (.ref fI))) (t1 : PySem.W.typeIn K (.ref fI) = some (.type "function"))
    {od an : Option Addr} {sl : Array (Option Value)} {oc kV dc pm cd ct : Value} (l1 : K.lookup fI = some ⟨oc, od, .func (PySem.W.fnOf "__init__" q (defArgs st) (defBody st) (defScope st) .none kV dc pm an cd ct), sl⟩) (c1 : PySem.W.codeIn K cd q = true) (k1 : PySem.W.keepIn K (.ref fI) = true)
    (bind : ∀ (kV doc pm : Value) (an : Option Addr) (cdv ct : Value) (us : List Value), us.length = (["self", f] : List Str).length → bindArgs (PySem.W.fnOf "__init__" q (defArgs st) (defBody st) (defScope st) .none kV doc pm an cdv ct) ⟨us, []⟩ = pure ((["self", f] : List Str).zip us))
    (hb : defBody st = [.Assign [.Attribute (.Name "self" p1) f p2] (.Name f p3) p4]) (S : FnScope ["self", f] ["self", f] (defScope st)) (v0 : Vis (defScope st) "self") (v1 : Vis (defScope st) f) (d1 : (f == ("__debug__" : Str)) = false) (d2 : (f == ("__classdict__" : Str)) = false)
    (sw : ∀ (env : Env), env.scope = defScope st → swapsWith (.Name f p3) (some (.Attribute (.Name "self" p1) f p2)) p4.line env = pure false) : ExcP1 P w K mg base x f := by
  have T : OexC K C := ⟨⟨_, _, _, _, _, _, _, _, _, _, _, _, _, _, _, xL, rV⟩, sa, eC, tC, kC⟩
  have F := fun_mk l1 c1 k1
  exact ⟨C, fI, _, PySem.W.mg_of X G aC, T, a1, t1, init_fn F T nf hb S v0 v1 d1 d2 sw, F.binds bind⟩
theorem excC_of {D : Addr} (ga : PySem.W.findIn K (.ref D) "__getattribute__" = some (some (.builtin "BaseException.__getattribute__"))) (gg : PySem.W.findIn K (.ref D) "__getattr__" = some none) (eC : PySem.W.subIn K (.ref D) (.type "BaseException") = some true) (hd : PySem.W.hasDictIn K D = true) (ha : PySem.W.findIn K (.ref D) "__class__" = some (some (.builtin "object.__class__")))
    (hn : PySem.W.specialIn K (.builtin "object.__class__") "__get__" = some (some (.builtin "getset_descriptor.__get__"))) (ht : PySem.W.takesIn K (.builtin "object.__class__") = some true) (hm : PySem.W.mroIn K D (.type "object") = some true) : ExcC K D := ⟨ga, gg, eC, hd, ha, hn, ht, hm⟩
end
end Dn
namespace Dn
open PySem PySem.Spec PyProof.Rows L2 PySem.SeqAt GxR
/-- try: body, except X: suite -/
def sTryO (tab : List (Str × Bool)) (f g : DS) : DS := fun s h => match f s h with
  | .err z s' h' => (match tab.lookup z.cls with
    | some true => (match g s' h' with
      | .err _ _ _ => .no
      | o => o)
    | some false => .err z s' h'
    | none => .no)
  | o => o
section
variable {tbs : List Addr} {W : WX} {X : Cx} {x : Str} {body suite : List Stmt} {b₀ : Stmt} {np pos pos' : Pos} {tab : List (Str × Bool)} {f g : DS}
theorem js_try_only (T : ExmTab X.K X.mg x tab) (hg : Gl X x) (hs : X.stack = X.env :: X.outer) (hf : X.env.frame = some X.env.locals) (tk : Takes X W)
    (hb : ∀ (W : WX) (pn : List (Addr × Obj)) (xe : Value → Shared → Prop), Takes (X.tr pn xe) W → PassesOwn (model X.prog X.w) X.A X.env xe → JSs (bs X tbs) W (X.tr pn xe) body f)
    (hsu : ∀ (a : Addr) (oe : Obj) (cls : Value) (d : Option Addr) (pn : List (Addr × Obj)), Zc cls d oe → (∃ vs, oe.data = .fields vs) → JSs (bs X tbs) W0 (X.suite a ((a, oe) :: pn)) (b₀ :: suite) g)
    (hdb : (x == ("__debug__" : Str)) = false := by decide) :
    JS (bs X tbs) W X (.Try body [.ExceptHandler (some (.Name x np)) none (b₀ :: suite) pos'] [] [] pos) (sTryO tab f g) := by
  obtain ⟨c, hc, T⟩ := T
  refine PS_imp (ps_try_only (tb := fun W => tDS (bs X tbs) W f) (ts := fun _ _ _ => tDS (bs X tbs) W0 g) (Wout := W) hs hf ⟨hg, hdb, .inl hc⟩ tk hb hsu) fun D σ H ⟨μ, ps, ph, sr, wd, ok⟩ => ⟨μ, ps, ph, sr, wd, ?_⟩
  unfold sTryO at ok
  cases ef : f ps ph with
  | nx s h => rw [ef] at ok; exact ok
  | rt v h => rw [ef] at ok; exact ok
  | bk s h => rw [ef] at ok; exact ok
  | ct s h => rw [ef] at ok; exact ok
  | no => rw [ef] at ok; exact ok
  | err z s h =>
    rw [ef] at ok
    dsimp only at ok
    intro μ1 H1 σ1 cls d x1 w1 s1 er
    split at ok
    · rename_i el
      obtain ⟨cy, hcy, hex⟩ := T _ _ (lookup_mem el)
      obtain rfl : cls = cy := Option.some.inj (er.1.symm.trans hcy)
      refine ⟨true, hex, fun _ a na => ⟨μ1, s, h, s1, w1, ?_⟩, fun q => (nomatch q)⟩
      cases eg : g s h with
      | nx s2 h2 => rw [eg] at ok; exact fun μ2 H2 σ2 x2 w2 s2 => ok μ2 H2 _ (x1.trans x2) w2 s2
      | bk s2 h2 => rw [eg] at ok; exact fun μ2 H2 σ2 x2 w2 s2 => ok μ2 H2 _ (x1.trans x2) w2 s2
      | ct s2 h2 => rw [eg] at ok; exact fun μ2 H2 σ2 x2 w2 s2 => ok μ2 H2 _ (x1.trans x2) w2 s2
      | rt v h2 => rw [eg] at ok; exact fun μ2 H2 v2 x2 w2 r2 => ok μ2 H2 _ (x1.trans x2) w2 r2
      | err _ _ _ => rw [eg] at ok; exact ok.elim
      | no => rw [eg] at ok; exact ok.elim
    · rename_i el
      obtain ⟨cy, hcy, hex⟩ := T _ _ (lookup_mem el)
      obtain rfl : cls = cy := Option.some.inj (er.1.symm.trans hcy)
      exact ⟨false, hex, fun q => (nomatch q), fun _ => ok μ1 H1 σ1 cls d x1 w1 s1 er⟩
    · exact ok.elim
end
end Dn
namespace Dn
open PySem PySem.Spec PyProof.Rows L2 PySem.SeqAt GxR

/-! ### max, min of one list of numbers -/
def maxI : List Int → Option Int
  | [] => none
  | x :: xs => some (xs.foldl (fun a b => if b > a then b else a) x)
def minI : List Int → Option Int
  | [] => none
  | x :: xs => some (xs.foldl (fun a b => if b < a then b else a) x)
theorem maxI_ok : ∀ {l : List Int} {m : Int}, maxI l = some m → m ∈ l ∧ ∀ n ∈ l, n ≤ m
  | [], _, h => by cases h
  | x :: xs, m, h => by
    have key : ∀ (xs : List Int) (x : Int), (xs.foldl (fun a b => if b > a then b else a) x = x ∨ xs.foldl (fun a b => if b > a then b else a) x ∈ xs) ∧ x ≤ xs.foldl (fun a b => if b > a then b else a) x ∧ ∀ n ∈ xs, n ≤ xs.foldl (fun a b => if b > a then b else a) x := by
      intro xs
      induction xs with
      | nil => intro x; exact ⟨.inl rfl, Int.le_refl _, fun n hn => by cases hn⟩
      | cons y ys ih =>
        intro x
        obtain ⟨a, b, c⟩ := ih (if y > x then y else x)
        rw [List.foldl_cons]
        refine ⟨?_, ?_, fun n hn => ?_⟩
        · rcases a with a | a
          · rw [a]
            split
            · exact .inr List.mem_cons_self
            · exact .inl rfl
          · exact .inr (List.mem_cons_of_mem _ a)
        · refine Int.le_trans ?_ b
          split <;> omega
        · rcases List.mem_cons.mp hn with rfl | hn
          · refine Int.le_trans ?_ b
            split <;> omega
          · exact c n hn
    have e : xs.foldl (fun a b => if b > a then b else a) x = m := Option.some.inj h
    obtain ⟨a, b, c⟩ := key xs x
    rw [e] at a b c
    refine ⟨?_, fun n hn => ?_⟩
    · rcases a with a | a
      · rw [a]; exact List.mem_cons_self
      · exact List.mem_cons_of_mem _ a
    · rcases List.mem_cons.mp hn with rfl | hn
      · exact b
      · exact c n hn
theorem minI_ok : ∀ {l : List Int} {m : Int}, minI l = some m → m ∈ l ∧ ∀ n ∈ l, m ≤ n
  | [], _, h => by cases h
  | x :: xs, m, h => by
    have key : ∀ (xs : List Int) (x : Int), (xs.foldl (fun a b => if b < a then b else a) x = x ∨ xs.foldl (fun a b => if b < a then b else a) x ∈ xs) ∧ xs.foldl (fun a b => if b < a then b else a) x ≤ x ∧ ∀ n ∈ xs, xs.foldl (fun a b => if b < a then b else a) x ≤ n := by
      intro xs
      induction xs with
      | nil => intro x; exact ⟨.inl rfl, Int.le_refl _, fun n hn => by cases hn⟩
      | cons y ys ih =>
        intro x
        obtain ⟨a, b, c⟩ := ih (if y < x then y else x)
        rw [List.foldl_cons]
        refine ⟨?_, ?_, fun n hn => ?_⟩
        · rcases a with a | a
          · rw [a]
            split
            · exact .inr List.mem_cons_self
            · exact .inl rfl
          · exact .inr (List.mem_cons_of_mem _ a)
        · refine Int.le_trans b ?_
          split <;> omega
        · rcases List.mem_cons.mp hn with rfl | hn
          · refine Int.le_trans b ?_
            split <;> omega
          · exact c n hn
    have e : xs.foldl (fun a b => if b < a then b else a) x = m := Option.some.inj h
    obtain ⟨a, b, c⟩ := key xs x
    rw [e] at a b c
    refine ⟨?_, fun n hn => ?_⟩
    · rcases a with a | a
      · rw [a]; exact List.mem_cons_self
      · exact List.mem_cons_of_mem _ a
    · rcases List.mem_cons.mp hn with rfl | hn
      · exact b
      · exact c n hn
def mxL (xs : List PV) : Option Int := (intsOf xs).bind maxI
def mnL (xs : List PV) : Option Int := (intsOf xs).bind minI
def fMax1 : FN := onL mxL .int
def fMin1 : FN := onL mnL .int
section
variable {X : Cx} {tbs : List Addr}
theorem cl_max1 (hc : X.calm = true) : CallR X (.builtin "max") (rPN (bs X tbs) fMax1) := by
  intro pins s σ H xs us Q I r ⟨μ, ph, ps, wd, rr, q⟩
  obtain ⟨x, v, ys, b, a, vs, rfl, rfl, _, e2, rfl, hs, ra, q⟩ := one_ls (tbs := tbs) wd rr q
  unfold mxL at e2
  cases e3 : intsOf ys with
  | none => rw [e3] at e2; cases e2
  | some ns =>
    rw [e3] at e2
    obtain ⟨m1, m2⟩ := maxI_ok (show maxI ns = some b from e2)
    have ev := ints_rel e3 ra
    subst ev
    refine cr_max hc pins s σ H _ us Q I r ⟨a, ns, rfl, hs, List.length_pos_of_mem m1, fun m h1 h2 => ?_⟩
    obtain rfl : m = b := Int.le_antisymm (m2 m h1) (h2 b m1)
    exact q.val wd (.int _)
theorem cl_min1 (hc : X.calm = true) : CallR X (.builtin "min") (rPN (bs X tbs) fMin1) := by
  intro pins s σ H xs us Q I r ⟨μ, ph, ps, wd, rr, q⟩
  obtain ⟨x, v, ys, b, a, vs, rfl, rfl, _, e2, rfl, hs, ra, q⟩ := one_ls (tbs := tbs) wd rr q
  unfold mnL at e2
  cases e3 : intsOf ys with
  | none => rw [e3] at e2; cases e2
  | some ns =>
    rw [e3] at e2
    obtain ⟨m1, m2⟩ := minI_ok (show minI ns = some b from e2)
    have ev := ints_rel e3 ra
    subst ev
    refine cr_min hc pins s σ H _ us Q I r ⟨a, ns, rfl, hs, List.length_pos_of_mem m1, fun m h1 h2 => ?_⟩
    obtain rfl : m = b := Int.le_antisymm (h2 b m1) (m2 m h1)
    exact q.val wd (.int _)
end
end Dn
namespace Dn
open PySem PySem.Spec PyProof.Rows L2 PySem.SeqAt

/-! ### zip of three, each a list or a tuple -/
def SqB (K : PySem.W.Frag) (H : Hp) (k : Bool) (a : Addr) (xs : List V) : Prop := if k then SqT K H a xs else SqL K H a xs
def HsB (h : Heap) (k : Bool) (a : Addr) (xs : Array Value) : Prop := if k then h.IsTuple a xs else h.IsList a xs
def ItB (h : Heap) (k : Bool) (it a : Addr) (i : Nat) : Prop := if k then h.IsTupleIter it a i else h.IsListIter it a i
theorem ItB.obj {h : Heap} {k : Bool} {it a : Addr} {i : Nat} (x : ItB h k it a i) : ∃ o, h.get? it = some o ∧ ∀ v, o.data ≠ .cell v := by
  cases k <;> obtain ⟨o, e, _, d⟩ := x <;> exact ⟨o, e, fun v q => by rw [d] at q; cases q⟩
theorem ItB.keep {h h' : Heap} {k : Bool} {it a : Addr} {i : Nat} (x : ItB h k it a i) (e : ∀ o, h.get? it = some o → h'.get? it = some o) : ItB h' k it a i := by
  cases k
  · exact Heap.IsListIter.at (show h.IsListIter it a i from x) e
  · exact Heap.IsTupleIter.at (show h.IsTupleIter it a i from x) e
theorem draws_b {prog : Program} {w : World} {A : Around} (hh : A.handled = none) (k : Bool) (it t : Addr) (hne : t ≠ it) (items : Array Value) :
    Draws prog w A it [it, t] items.size (fun i v => items[i]? = some v) (fun i h => ItB h k it t i ∧ HsB h k t items) := by
  cases k
  · exact Draws.list hh it t hne items
  · exact Draws.tuple hh it t hne items
def objB (k : Bool) (a : Addr) : Obj := { cls := .type (if k then "tuple_iterator" else "list_iterator"), data := .fields #[.ref a, .int 0 0] }
theorem begins_b (k : Bool) (a : Addr) (items : Array Value) : Begins (.ref a) (objB k a) fun h => HsB h k a items := by
  cases k
  · exact begins_list a items
  · exact begins_tuple a items
def Itz3 (K : PySem.W.Frag) (k1 k2 k3 : Bool) (a b c : Addr) : It :=
  ⟨fun i H => ∃ (xs ys zs : List V) (x y u : V), SqB K H k1 a xs ∧ SqB K H k2 b ys ∧ SqB K H k3 c zs ∧ xs[i]? = some x ∧ ys[i]? = some y ∧ zs[i]? = some u,
    fun i H v H' => ∃ T x y u, v = .ref T ∧ H T = none ∧ H' = upd H T (.tup [x, y, u]) ∧ (∀ xs, SqB K H k1 a xs → xs[i]? = some x) ∧ (∀ ys, SqB K H k2 b ys → ys[i]? = some y) ∧ ∀ zs, SqB K H k3 c zs → zs[i]? = some u,
    fun i H => ∃ xs ys zs : List V, SqB K H k1 a xs ∧ SqB K H k2 b ys ∧ SqB K H k3 c zs ∧ i ≤ xs.length ∧ i ≤ ys.length ∧ i ≤ zs.length ∧ (i = xs.length ∨ i = ys.length ∨ i = zs.length)⟩
theorem inv_b {X : Cx} {pins : List (Addr × Obj)} {σ : L2.St} {H : Hp} {s : Shared} (I : Inv X pins σ H s) {k : Bool} {a : Addr} {xs : List V} (q : SqB X.K H k a xs) : ∃ its : List Value, Vals xs its ∧ HsB s.heap k a its.toArray := by
  cases k
  · obtain ⟨its, rv, p, _⟩ := I.list (show SqL X.K H a xs from q)
    exact ⟨its, rv, p.isList⟩
  · obtain ⟨its, rv, p, _⟩ := I.tuple (show SqT X.K H a xs from q)
    exact ⟨its, rv, p⟩
theorem sqb_inj {X : Cx} {pins : List (Addr × Obj)} {σ : L2.St} {H : Hp} {s : Shared} (I : Inv X pins σ H s) {k : Bool} {a : Addr} {xs ys : List V} (q : SqB X.K H k a xs) (r : SqB X.K H k a ys) : xs = ys := by
  cases k
  · exact I.list_inj (show SqL X.K H a xs from q) (show SqL X.K H a ys from r)
  · exact I.tuple_inj (show SqT X.K H a xs from q) (show SqT X.K H a ys from r)
theorem sq_len {xs : List V} {its : List Value} (r : Vals xs its) : its.toArray.size = xs.length := by rw [List.size_toArray, r.length]
theorem turn_zip3 {P : Program} {w : World} {K : PySem.W.Frag} {elts : List Expr} {kk : Nat} {tpos : Pos} {k1 k2 k3 : Bool} {a b c z TI TO i1 i2 i3 : Addr} (D : ZipSep3 z TI TO i1 i2 i3 [i1, a] [i2, b] [i3, c]) (n1 : a ≠ i1) (n2 : b ≠ i2) (n3 : c ≠ i3) :
    Turn P w K (.Tuple elts kk tpos) (Itz3 K k1 k2 k3 a b c) [z, TI, TO, i1, i2, i3] z (fun i h => IsZip h z TI TO .none ∧ IsTupOf3 h TI (.ref i1) (.ref i2) (.ref i3) ∧ (∃ x y u, IsTupOf3 h TO x y u) ∧ ItB h k1 i1 a i ∧ ItB h k2 i2 b i ∧ ItB h k3 i3 c i) where
  mem := by simp
  obj := fun i h st d hd => by
    obtain ⟨hz, hTI, ⟨x, y, u, hTO⟩, h1, h2, h3⟩ := st
    have e' : d = z ∨ d = TI ∨ d = TO ∨ d = i1 ∨ d = i2 ∨ d = i3 := by simpa using hd
    rcases e' with q | q | q | q | q | q
    · rw [q]; exact ⟨_, hz, fun v q => nomatch q⟩
    · rw [q]; exact ⟨_, hTI, fun v q => nomatch q⟩
    · rw [q]; exact ⟨_, hTO, fun v q => nomatch q⟩
    · rw [q]; exact h1.obj
    · rw [q]; exact h2.obj
    · rw [q]; exact h3.obj
  keep := fun i h h' st k => by
    obtain ⟨hz, hTI, ⟨x, y, u, hTO⟩, h1, h2, h3⟩ := st
    exact ⟨k z (by simp) _ hz, k TI (by simp) _ hTI, ⟨x, y, u, k TO (by simp) _ hTO⟩, h1.keep fun o q => k i1 (by simp) o q, h2.keep fun o q => k i2 (by simp) o q, h3.keep fun o q => k i3 (by simp) o q⟩
  item := by
    intro X hP hw hK hc i pins s σ H E I hf st hg
    subst hP hw hK
    obtain ⟨hz, hTI, ⟨x0, y0, u0, hTO⟩, h1, h2, h3⟩ := st
    obtain ⟨xs, ys, zs, x, y, u, q1, q2, q3, hx, hy, hu⟩ := hg
    obtain ⟨its1, rv1, p1⟩ := inv_b I q1
    obtain ⟨its2, rv2, p2⟩ := inv_b I q2
    obtain ⟨its3, rv3, p3⟩ := inv_b I q3
    obtain ⟨v1, hv1, ru1⟩ := rv1.get hx
    obtain ⟨v2, hv2, ru2⟩ := rv2.get hy
    obtain ⟨v3, hv3, ru3⟩ := rv3.get hu
    have hzl : z < s.heap.objs.size := Heap.lt_size hz
    have hh : X.A.in1.handled = none := I.ok.hd hc
    have l1 : i < its1.toArray.size := by rw [sq_len rv1]; exact (List.getElem?_eq_some_iff.mp hx).1
    have l2 : i < its2.toArray.size := by rw [sq_len rv2]; exact (List.getElem?_eq_some_iff.mp hy).1
    have l3 : i < its3.toArray.size := by rw [sq_len rv3]; exact (List.getElem?_eq_some_iff.mp hu).1
    refine wpAny_pyNext_zipD3_item D (draws_b hh k1 i1 a n1 _) (draws_b hh k2 i2 b n2 _) (draws_b hh k3 i3 c n3 _) hz hTI hTO ⟨h1, p1⟩ ⟨h2, p2⟩ ⟨h3, p3⟩ l1 l2 l3 fun x1 x2 x3 h' tk e1 e2 e3 z' TO' s1 s2 s3 hT hsz hk => ?_
    have e1 : x1 = v1 := by rw [show its1.toArray[i]? = some v1 by simpa using hv1] at e1; exact (Option.some.inj e1).symm
    have e2 : x2 = v2 := by rw [show its2.toArray[i]? = some v2 by simpa using hv2] at e2; exact (Option.some.inj e2).symm
    have e3 : x3 = v3 := by rw [show its3.toArray[i]? = some v3 by simpa using hv3] at e3; exact (Option.some.inj e3).symm
    subst e1 e2 e3
    refine ⟨_, rfl, wpAny_letOwnedTupleGo_zip (s := { s with heap := h', toks := tk }) z' fun h'' z'' sb => ?_⟩
    have hT2 : h''.get? s.heap.objs.size = some { cls := .type "tuple", data := .seq #[x1, x2, x3] } := (sb.2 _ (Nat.ne_of_gt hzl)).trans hT
    have new : ObjOk X.prog X.w (upd H s.heap.objs.size (.tup [x, y, u])) h'' s.heap.objs.size (.tup [x, y, u]) :=
      ⟨by show 3 ≤ sizeLine; decide, [x1, x2, x3], .cons ru1 (.cons ru2 (.cons ru3 .nil)), ⟨_, hT2, rfl, _, rfl⟩⟩
    have I1 : Inv X pins σ (upd H s.heap.objs.size (.tup [x, y, u])) { s with heap := h'', toks := tk } :=
      I.turnedNew (t' := tk) (ch := [z, TI, TO, i1, i2, i3]) (fun c o hb q => (sb.2 c (fun q' => hb (by simp [q']))).trans (hk c o (fun q' => hb (by simp [q'])) (fun q' => hb (by simp [q'])) (fun q' => hb (by simp [q'])) (fun q' => hb (by simp [q'])) (fun q' => hb (by simp [q'])) q)) hf (Nat.le_refl _) new
    refine ⟨.ref s.heap.objs.size, _, I1, rfl, ⟨_, x, y, u, rfl, I.hok.fresh (Nat.le_refl _), rfl, fun l hl => by rw [sqb_inj I hl q1]; exact hx, fun l hl => by rw [sqb_inj I hl q2]; exact hy, fun l hl => by rw [sqb_inj I hl q3]; exact hu⟩, ⟨z'', ?_, ⟨x1, x2, x3, ?_⟩, ?_, ?_, ?_⟩, fun c hcm => ?_⟩
    · exact (sb.2 _ D.TIz).trans (hk _ _ D.TIz D.TITO D.TIi1 D.TIi2 D.TIi3 hTI)
    · exact (sb.2 _ D.TOz).trans TO'
    · exact s1.1.keep fun o q => (sb.2 _ (fun z => D.zi1 z.symm)).trans q
    · exact s2.1.keep fun o q => (sb.2 _ (fun z => D.zi2 z.symm)).trans q
    · exact s3.1.keep fun o q => (sb.2 _ (fun z => D.zi3 z.symm)).trans q
    · have hlt : c < s.heap.objs.size := by
        have e' : c = z ∨ c = TI ∨ c = TO ∨ c = i1 ∨ c = i2 ∨ c = i3 := by simpa using hcm
        rcases e' with q | q | q | q | q | q
        · rw [q]; exact hzl
        · rw [q]; exact Heap.lt_size hTI
        · rw [q]; exact Heap.lt_size hTO
        · rw [q]; obtain ⟨_, e1, _⟩ := h1.obj; exact Heap.lt_size e1
        · rw [q]; obtain ⟨_, e1, _⟩ := h2.obj; exact Heap.lt_size e1
        · rw [q]; obtain ⟨_, e1, _⟩ := h3.obj; exact Heap.lt_size e1
      rw [upd_ne (Nat.ne_of_lt hlt)]
      exact (hf c hcm).1
  done := by
    intro X hP hw hK hc i pins s σ H E I hf st hg
    subst hP hw hK
    obtain ⟨hz, hTI, ⟨x0, y0, u0, hTO⟩, h1, h2, h3⟩ := st
    obtain ⟨xs, ys, zs, q1, q2, q3, l1, l2, l3, hend⟩ := hg
    obtain ⟨its1, rv1, p1⟩ := inv_b I q1
    obtain ⟨its2, rv2, p2⟩ := inv_b I q2
    obtain ⟨its3, rv3, p3⟩ := inv_b I q3
    have hh : X.A.in1.handled = none := I.ok.hd hc
    rw [← sq_len rv1] at l1 hend
    rw [← sq_len rv2] at l2 hend
    rw [← sq_len rv3] at l3 hend
    exact wpAny_pyNext_zipD3_end D (draws_b hh k1 i1 a n1 _) (draws_b hh k2 i2 b n2 _) (draws_b hh k3 i3 c n3 _) hz hTI hTO ⟨h1, p1⟩ ⟨h2, p2⟩ ⟨h3, p3⟩ l1 l2 l3 hend fun h' tk hk => ⟨rfl, I.turnedL (t' := tk) (ch := [z, TI, TO, i1, i2, i3]) (fun c o hb q =>
      hk c o (fun q' => hb (by simp [q'])) (fun q' => hb (by simp [q'])) (fun q' => hb (by simp [q'])) (fun q' => hb (by simp [q'])) (fun q' => hb (by simp [q'])) q) hf⟩
  self := fun A i s Q E st h => wpAny_pyIter_zip st.1 h
def iZip3A (K : PySem.W.Frag) (ta : TA) : TI := fun σ H R => ta σ H fun vs H1 => ∃ k1 k2 k3 a b c xs ys zs, vs = [.ref a, .ref b, .ref c] ∧ SqB K H1 k1 a xs ∧ SqB K H1 k2 b ys ∧ SqB K H1 k3 c zs ∧ R (Itz3 K k1 k2 k3 a b c) H1
theorem hsb_lt {h : Heap} {k : Bool} {a : Addr} {xs : Array Value} (p : HsB h k a xs) : a < h.objs.size := by
  cases k
  · obtain ⟨o, e, _⟩ := (show h.IsList a xs from p); exact Heap.lt_size e
  · obtain ⟨o, e, _⟩ := (show h.IsTuple a xs from p); exact Heap.lt_size e
theorem itb_new {h : Heap} {k : Bool} {it a : Addr} (e : h.get? it = some (objB k a)) : ItB h k it a 0 := by
  cases k <;> exact ⟨_, e, rfl, rfl⟩
theorem pi_zip3A {X : Cx} {e e2 e3 : Expr} {ta : TA} {p pos tpos : Pos} {elts : List Expr} {kk : Nat} (hg : Gl X "zip") (hm : X.mg "zip" = none) (ha : PA X [e, e2, e3] ta)
    (hs : starEach [e, e2, e3] X.env = (false, eval e X.env) :: starEach [e2, e3] X.env := by rfl) (hpl : (backTo pos (starEach [e2, e3] X.env)).any (·.1) = false := by rfl) :
    PI X (.Tuple elts kk tpos) (.Call (.Name "zip" p) [e, e2, e3] [] pos) (iZip3A X.K ta) := by
  refine ⟨fun pins s σ H R I h => ?_⟩
  refine Call_ (ld_blt I hg hm PyProof.Rows.boot_zip (PyProof.Rows.callWith_type1 (thn (ha.run pos pins s σ H _ I h) fun us s1 ⟨vs, H1, I1, r1, q1⟩ => ?_) hs hpl))
  obtain ⟨k1, k2, k3, a, b, c, xs, ys, zs, ex, qx, qy, qz, q⟩ := q1
  subst ex
  cases r1 with
  | cons r rr =>
  cases rr with
  | cons r' rr =>
  cases rr with
  | cons r'' rr =>
  cases rr
  cases r
  cases r'
  cases r''
  obtain ⟨its1, rv1, p1⟩ := inv_b I1 qx
  obtain ⟨its2, rv2, p2⟩ := inv_b I1 qy
  obtain ⟨its3, rv3, p3⟩ := inv_b I1 qz
  have la := hsb_lt p1
  have lb := hsb_lt p2
  have lc := hsb_lt p3
  have fresh : ∀ d, d ∈ [s1.heap.objs.size + 5, s1.heap.objs.size + 3, s1.heap.objs.size + 4, s1.heap.objs.size, s1.heap.objs.size + 1, s1.heap.objs.size + 2] → FpOk X pins H1 d := fun d hcm => by
    have e' : d = s1.heap.objs.size + 5 ∨ d = s1.heap.objs.size + 3 ∨ d = s1.heap.objs.size + 4 ∨ d = s1.heap.objs.size ∨ d = s1.heap.objs.size + 1 ∨ d = s1.heap.objs.size + 2 := by simpa using hcm
    have hle : s1.heap.objs.size ≤ d := by
      rcases e' with z | z | z | z | z | z
      · rw [z]; exact Nat.le_add_right _ _
      · rw [z]; exact Nat.le_add_right _ _
      · rw [z]; exact Nat.le_add_right _ _
      · rw [z]; exact Nat.le_refl _
      · rw [z]; exact Nat.le_add_right _ _
      · rw [z]; exact Nat.le_add_right _ _
    exact I1.fpOk hle (I1.hok.fresh hle)
  refine zip_begins3 (begins_b k1 a _) (begins_b k2 b _) (begins_b k3 c _) p1 p2 p3 fun h' hz hTI hTO g1 g2 g3 hsz hk => wpAny_pyIter_zip hz ?_
  have I2 : Inv X pins σ H1 { s1 with heap := h' } := I1.kept (t' := s1.toks) fun b o e => hk b o e
  have sep := zip_sep3 (N := s1.heap.objs.size) (fp1 := [a]) (fp2 := [b]) (fp3 := [c]) (fun d hd => by rw [List.mem_singleton.mp hd]; exact la) (fun d hd => by rw [List.mem_singleton.mp hd]; exact lb) (fun d hd => by rw [List.mem_singleton.mp hd]; exact lc)
  have na : a ≠ s1.heap.objs.size := Nat.ne_of_lt la
  have nb : b ≠ s1.heap.objs.size + 1 := Nat.ne_of_lt (Nat.lt_of_lt_of_le lb (Nat.le_add_right _ _))
  have nc : c ≠ s1.heap.objs.size + 2 := Nat.ne_of_lt (Nat.lt_of_lt_of_le lc (Nat.le_add_right _ _))
  exact ⟨s1.heap.objs.size + 5, [s1.heap.objs.size + 5, s1.heap.objs.size + 3, s1.heap.objs.size + 4, s1.heap.objs.size, s1.heap.objs.size + 1, s1.heap.objs.size + 2], _, _, H1, rfl, I2, turn_zip3 sep na nb nc, ⟨hz, hTI, ⟨_, _, _, hTO⟩, itb_new g1, itb_new g2, itb_new g3⟩, fresh, q⟩
section
variable {X : Cx} {tbs : List Addr} {W : WX} {e : Expr} {p pos : Pos}
def zip3P : List PV → List PV → List PV → List PV
  | x :: xs, y :: ys, z :: zs => .tup [x, y, z] :: zip3P xs ys zs
  | _, _, _ => []
theorem zip3P_len : ∀ xs ys zs : List PV, (zip3P xs ys zs).length = min (min xs.length ys.length) zs.length
  | [], _, _ => by simp [zip3P]
  | _ :: _, [], _ => by simp [zip3P]
  | _ :: _, _ :: _, [] => by simp [zip3P]
  | x :: xs, y :: ys, z :: zs => by
    show (zip3P xs ys zs).length + 1 = _
    rw [zip3P_len xs ys zs]
    simp only [List.length_cons]
    omega
theorem zip3P_at : ∀ {xs ys zs : List PV} {i : Nat} (a : i < xs.length) (b : i < ys.length) (c : i < zs.length), (zip3P xs ys zs)[i]? = some (.tup [xs[i], ys[i], zs[i]])
  | x :: xs, y :: ys, z :: zs, 0, _, _, _ => rfl
  | x :: xs, y :: ys, z :: zs, i + 1, a, b, c => zip3P_at (xs := xs) (ys := ys) (zs := zs) (i := i) (Nat.lt_of_succ_lt_succ a) (Nat.lt_of_succ_lt_succ b) (Nat.lt_of_succ_lt_succ c)
/-- the items of a list or of a tuple, and what must stay -/
def zqOf (h : PH) : PV → Option (Bool × Its')
  | .tup xs => some (true, [], xs)
  | .fz xs => some (false, [], xs)
  | .ref n => match h[n]? with
    | some (.lst xs) => some (false, [(n, xs)], xs)
    | _ => none
  | _ => none
def Stays (K : PySem.W.Frag) (tbs : List Addr) (μ : List Addr) (H : Hp) (k : Bool) (a : Addr) (g : Its') : Prop := ∀ H' μ' ph', Ex μ H μ' H' → Wd K tbs μ' ph' H' → okG g.1 ph' = true → ∃ ws, SqB K H' k a ws ∧ Rls K H' μ' g.2 ws
theorem zqOf_ok {K : PySem.W.Frag} {μ : List Addr} {H : Hp} {ph : PH} {x : PV} {v : V} {k : Bool} {g : Its'} (w : Wd K tbs μ ph H) (r : Rl K H μ x v) (e : zqOf ph x = some (k, g)) : ∃ a vs, v = .ref a ∧ SqB K H k a vs ∧ Stays K tbs μ H k a g := by
  unfold zqOf at e
  split at e
  · cases e
    cases r with
    | @tup a vs _ ht ra => exact ⟨a, vs, rfl, SqT.of ht, fun H' μ' ph' ex _ _ => ⟨vs, ex.sqt (SqT.of ht), ra.mono ex⟩⟩
  · cases e
    cases r with
    | @fz a vs _ ht ra => exact ⟨a, vs, rfl, ht.sql, fz_stays ht ra⟩
  · split at e
    · rename_i xs hn
      cases e
      cases r with
      | @ref _ a hk =>
        obtain ⟨vs, h1, _⟩ := w.ob _ a _ hk hn
        exact ⟨a, vs, rfl, SqL.of h1, ref_stays hk⟩
    · cases e
  · cases e
theorem trip_ok {K : PySem.W.Frag} {μ : List Addr} {ph : PH} {H H' : Hp} {v x y z : V} {px py pz : PV} {T : Addr} (w : Wd K tbs μ ph H) (hv : v = .ref T) (hT : H T = none) (hH : H' = upd H T (.tup [x, y, z])) (r1 : Rl K H μ px x) (r2 : Rl K H μ py y) (r3 : Rl K H μ pz z) :
    Ex μ H μ H' ∧ Wd K tbs μ ph H' ∧ Rl K H' μ (.tup [px, py, pz]) v := by
  subst hv hH
  exact w.newTup (.cons r1 (.cons r2 (.cons r3 .nil))) hT
theorem wk_zip3 {K : PySem.W.Frag} {μ0 : List Addr} {H0 : Hp} {k1 k2 k3 : Bool} {a b c : Addr} {g1 g2 g3 : Its'} (h1 : Stays K tbs μ0 H0 k1 a g1) (h2 : Stays K tbs μ0 H0 k2 b g2) (h3 : Stays K tbs μ0 H0 k3 c g3) : WkP K tbs (Itz3 K k1 k2 k3 a b c) (g1.1 ++ g2.1 ++ g3.1) (zip3P g1.2 g2.2 g3.2) μ0 H0 where
  goes := fun i H μ ph lt e w g => by
    simp only [okG, List.all_append, Bool.and_eq_true] at g
    obtain ⟨us, q1, r1⟩ := h1 H μ ph e w g.1.1
    obtain ⟨vs, q2, r2⟩ := h2 H μ ph e w g.1.2
    obtain ⟨ws, q3, r3⟩ := h3 H μ ph e w g.2
    rw [zip3P_len] at lt
    obtain ⟨x, e1, _⟩ := r1.at (List.getElem?_eq_getElem (show i < g1.2.length by omega))
    obtain ⟨y, e2, _⟩ := r2.at (List.getElem?_eq_getElem (show i < g2.2.length by omega))
    obtain ⟨z, e3, _⟩ := r3.at (List.getElem?_eq_getElem (show i < g3.2.length by omega))
    exact ⟨us, vs, ws, x, y, z, q1, q2, q3, e1, e2, e3⟩
  stops := fun H μ ph e w g => by
    simp only [okG, List.all_append, Bool.and_eq_true] at g
    obtain ⟨us, q1, r1⟩ := h1 H μ ph e w g.1.1
    obtain ⟨vs, q2, r2⟩ := h2 H μ ph e w g.1.2
    obtain ⟨ws, q3, r3⟩ := h3 H μ ph e w g.2
    refine ⟨us, vs, ws, q1, q2, q3, ?_⟩
    rw [zip3P_len, ← r1.len, ← r2.len, ← r3.len]
    omega
  yields := fun i H μ ph v H' lt e w g y => by
    simp only [okG, List.all_append, Bool.and_eq_true] at g
    obtain ⟨us, q1, r1⟩ := h1 H μ ph e w g.1.1
    obtain ⟨vs, q2, r2⟩ := h2 H μ ph e w g.1.2
    obtain ⟨ws, q3, r3⟩ := h3 H μ ph e w g.2
    rw [zip3P_len] at lt
    have l1 : i < g1.2.length := by omega
    have l2 : i < g2.2.length := by omega
    have l3 : i < g3.2.length := by omega
    obtain ⟨T, x, y, u, e1, e2, e3, e4, e5, e6⟩ := y
    obtain ⟨v1, m1, n1⟩ := r1.at (List.getElem?_eq_getElem l1)
    obtain ⟨v2, m2, n2⟩ := r2.at (List.getElem?_eq_getElem l2)
    obtain ⟨v3, m3, n3⟩ := r3.at (List.getElem?_eq_getElem l3)
    rw [e4 _ q1] at m1
    rw [e5 _ q2] at m2
    rw [e6 _ q3] at m3
    cases m1
    cases m2
    cases m3
    obtain ⟨a1, a2, a3⟩ := trip_ok w e1 e2 e3 n1 n2 n3
    exact ⟨_, zip3P_at l1 l2 l3, a1, a2, a3⟩
def iZip3 (f g k : DE) : DI := fun s h => (f s h).bind fun u h => (g s h).bind fun v h => (k s h).bind fun w h => match zqOf h u, zqOf h v, zqOf h w with
  | some a, some b, some c => .ok (a.2.1 ++ b.2.1 ++ c.2.1, zip3P a.2.2 b.2.2 c.2.2) h
  | _, _, _ => .no
theorem ja_threes {f g j : DE} {α β : Type} {rel : Hp → List Addr → α → β → Prop} {σ : L2.St} {H : Hp} {μ : List Addr} {ps : Sl} {ph : PH} {k : PV → PV → PV → PH → Out α} {R : β → Hp → Prop} {Q : List V → Hp → Prop} (sr : Sr X.K H μ ps σ) (wd : Wd X.K tbs μ ph H) (ok : OutOk (bs X tbs) W rel μ H σ ((f ps ph).bind fun x h => (g ps h).bind fun y h => (j ps h).bind fun z h => k x y z h) R)
    (q : ∀ x y z ph μ' H' u v w, Ex μ H μ' H' → Wd X.K tbs μ' ph H' → Rl X.K H' μ' x u → Rl X.K H' μ' y v → Rl X.K H' μ' z w → OutOk (bs X tbs) W rel μ' H' σ (k x y z ph) R → Q [u, v, w] H') : tDA (bs X tbs) W (eCons f (eCons g (eCons j eNil))) σ H Q := by
  refine ⟨μ, ps, ph, sr, wd, ?_⟩
  unfold eCons eNil
  cases ef : f ps ph with
  | no => rw [ef] at ok; exact ok.elim
  | err z h2 => rw [ef] at ok; exact ok
  | ok v h2 =>
    rw [ef] at ok
    simp only [Out.bind_ok] at ok ⊢
    cases eg : g ps h2 with
    | no => rw [eg] at ok; exact ok.elim
    | err z h3 => rw [eg] at ok; exact ok
    | ok w h3 =>
      rw [eg] at ok
      simp only [Out.bind_ok] at ok ⊢
      cases ej : j ps h3 with
      | no => rw [ej] at ok; exact ok.elim
      | err z h4 => rw [ej] at ok; exact ok
      | ok u h4 =>
        rw [ej] at ok
        simp only [Out.bind_ok] at ok ⊢
        intro μ' H' vs e1 w1 r1
        cases r1 with
        | cons ra rb =>
        cases rb with
        | cons rc rd =>
        cases rd with
        | cons re rf =>
        cases rf
        exact q v w u h4 μ' H' _ _ _ e1 w1 ra rc re (OutOk.ext ok e1)
theorem ji_zip3 {e2 e3 : Expr} {f g j : DE} {elts : List Expr} {kk : Nat} {tpos : Pos} (hg : Gl X "zip") (hm : X.mg "zip" = none) (ha : JE (bs X tbs) W X e f) (hb : JE (bs X tbs) W X e2 g) (hc : JE (bs X tbs) W X e3 j)
    (hs : starEach [e, e2, e3] X.env = [(false, eval e X.env), (false, eval e2 X.env), (false, eval e3 X.env)] := by rfl) (hs2 : starEach [e2, e3] X.env = [(false, eval e2 X.env), (false, eval e3 X.env)] := by rfl) (hs3 : starEach [e3] X.env = [(false, eval e3 X.env)] := by rfl) :
    JI (bs X tbs) W X (.Tuple elts kk tpos) (.Call (.Name "zip" p) [e, e2, e3] [] pos) (iZip3 f g j) :=
  PI_imp (pi_zip3A hg hm (j_cons ha (j_cons hb (j_cons hc j_nil hs3) (hs2.trans (by rw [hs3]))) (hs.trans (by rw [hs2]))) (hs.trans (by rw [hs2])) (by rw [hs2]; rfl)) fun σ H R ⟨μ, ps, ph, sr, wd, ok⟩ => ja_threes sr wd ok fun x y z ph μ' H' u v w e1 w1 r1 r2 r3 ok1 => by
    split at ok1
    · rename_i a b c q1 q2 q3
      obtain ⟨k1, g1⟩ := a
      obtain ⟨k2, g2⟩ := b
      obtain ⟨k3, g3⟩ := c
      obtain ⟨a1, us, rfl, s1, t1⟩ := zqOf_ok w1 r1 q1
      obtain ⟨b1, vs, rfl, s2, t2⟩ := zqOf_ok w1 r2 q2
      obtain ⟨c1, ws, rfl, s3, t3⟩ := zqOf_ok w1 r3 q3
      exact ⟨k1, k2, k3, a1, b1, c1, us, vs, ws, rfl, s1, s2, s3, ok1 μ' H' _ Ex.refl w1 (wk_zip3 t1 t2 t3)⟩
    · exact ok1.elim
end
end Dn
namespace Dn
open PySem PySem.Spec PyProof.Rows L2 PySem.SeqAt

/-! ### texts: join -/
def strsP : List PV → Option (List Str)
  | [] => some []
  | .str z :: r => (strsP r).map (z :: ·)
  | _ :: _ => none
def mJoin : FM := fun x ys h => match x, ys with
  | .str sep, [y] => (zqOf h y).bind fun g => (strsP g.2.2).bind fun ts => if JoinOk sep ts then some (.str (Txt.join sep ts), h) else none
  | _, _ => none
theorem strsP_ok {K : PySem.W.Frag} {H : Hp} {μ : List Addr} : ∀ {xs : List PV} {vs : List V} {ts : List Str}, Rls K H μ xs vs → strsP xs = some ts → vs = ts.map V.str
  | [], _, _, r, e => by
    cases r
    cases e
    rfl
  | x :: xs, _, ts, r, e => by
    cases r with
    | cons a b =>
    cases x with
    | str z =>
      unfold strsP at e
      cases q : strsP xs with
      | none => rw [q] at e; cases e
      | some us =>
        rw [q] at e
        cases e
        cases a
        rw [strsP_ok b q]
        rfl
    | _ => unfold strsP at e; cases e
theorem strs_vals : ∀ {ts : List Str} {its : List Value}, Vals (ts.map V.str) its → ∃ l : List (Str × Tok), its = strValues l ∧ l.map (·.1) = ts
  | [], _, .nil => ⟨[], rfl, rfl⟩
  | t :: ts, _, .cons r rr => by
    obtain ⟨k, rfl⟩ := r
    obtain ⟨l, e1, e2⟩ := strs_vals rr
    exact ⟨(t, k) :: l, by rw [e1]; rfl, by rw [← e2]; rfl⟩
theorem zq_okG {h : PH} {y : PV} {k : Bool} {g : Its'} (e : zqOf h y = some (k, g)) : okG g.1 h = true := by
  unfold zqOf at e
  split at e
  · cases e; rfl
  · cases e; rfl
  · split at e
    · rename_i xs hn
      cases e
      unfold okG
      simp [hn]
    · cases e
  · cases e
section
variable {X : Cx} {tbs : List Addr}
theorem mr_join : MtR X "str.join" (rPM (bs X tbs) mJoin) := by
  intro pins s σ H x xs v us Q I rx rs ⟨μ, ph, px, ps, wd, r1, r2, q⟩
  unfold mJoin at q
  split at q
  · rename_i sep y
    cases r1
    obtain ⟨w, rfl, rw_⟩ := r2.one'
    cases ez : zqOf ph y with
    | none => rw [ez] at q; exact q.elim
    | some g =>
      obtain ⟨k, g⟩ := g
      rw [ez] at q
      simp only [Option.bind_some] at q
      cases et : strsP g.2 with
      | none => rw [et] at q; exact q.elim
      | some ts =>
        rw [et] at q
        simp only [Option.bind_some] at q
        split at q
        · rename_i hj
          obtain ⟨a, vs, rfl, s1, st⟩ := zqOf_ok wd rw_ ez
          obtain ⟨t, rfl⟩ := (show ∃ t, v = Value.str sep t from rx)
          obtain ⟨u, rfl, ru⟩ := vals1 rs
          obtain rfl : u = Value.ref a := ru
          obtain ⟨ws, s2, rw2⟩ := st H μ ph Ex.refl wd (zq_okG ez)
          have ew := strsP_ok rw2 et
          subst ew
          obtain ⟨its, rv, hb⟩ := inv_b I s2
          obtain ⟨l, e1, e2⟩ := strs_vals rv
          subst e1
          have hl : Builtin.Str.tooLong ((l.map (·.1)).toArray.foldl (· + ·.length + sep.length) 0) = false := by
            rw [e2]
            unfold JoinOk at hj
            rwa [Bool.not_eq_true'] at hj
          have len : (Txt.join sep (l.map (·.1))).length ≤ sizeLine := by rw [e2]; exact joinOk_length hj
          have fin : ∀ (t' : Tok) (k : Nat), ∃ (y : V) (H' : Hp), Inv X pins σ H' { s with toks := k } ∧ RelV y (Value.str (Txt.join sep (l.map (·.1))) t') ∧ Q y H' := fun t' k => ⟨.str _, H, I.tok k, ⟨_, rfl⟩, by rw [e2]; exact q.val wd (.str _)⟩
          cases k with
          | false =>
            exact call_meets F.slot_str_join (typeIs_str s sep t) F.entry_str_join (F.args_str_join_2 _ _) (meets_str_join_list sep t a l hl) ⟨hb, post_join l ⟨len, fun t' k => fin t' k⟩⟩
          | true =>
            obtain ⟨o, ho, hc, n, hd⟩ := (show s.heap.IsTuple a (strValues l).toArray from hb)
            exact call_meets F.slot_str_join (typeIs_str s sep t) F.entry_str_join (F.args_str_join_2 _ _) (meets_str_join_tuple sep t a l hl) ⟨⟨o, n, ho, hc, hd⟩, post_join l ⟨len, fun t' k => fin t' k⟩⟩
        · exact q.elim
  · exact q.elim
end

/-! ### enumerate of a text -/
def Ites (z : Str) : It :=
  ⟨fun i _ => i < z.cps.size,
    fun i H v H' => ∃ (T : Addr) (c : Nat), v = .ref T ∧ H T = none ∧ H' = upd H T (.tup [.int (i : Nat), .str ⟨#[c]⟩]) ∧ z.cps[i]? = some c,
    fun i _ => i = z.cps.size⟩
theorem turn_enumS {P : Program} {w : World} {K : PySem.W.Frag} {elts : List Expr} {kk : Nat} {tpos : Pos} (z : Str) (t : Tok) (e it : Addr) :
    Turn P w K (.Tuple elts kk tpos) (Ites z) [e, it] e (fun i h => (∃ old, IsEnum h e it ((i : Nat) : Int) old) ∧ h.IsStrIter it (strIterType z) z t i ∧ e ≠ it) where
  mem := by simp
  obj := fun i h st b hb => by
    obtain ⟨⟨old, he⟩, ⟨o, ho, hc, hd⟩, _⟩ := st
    have e' : b = e ∨ b = it := by simpa using hb
    rcases e' with q | q
    · rw [q]; exact ⟨_, he, fun v q => nomatch q⟩
    · rw [q]; exact ⟨o, ho, fun v q => by rw [hd] at q; cases q⟩
  keep := fun i h h' st k => by
    obtain ⟨⟨old, he⟩, ⟨o, ho, r⟩, hne⟩ := st
    exact ⟨⟨old, k e (by simp) _ he⟩, ⟨o, k it (by simp) _ ho, r⟩, hne⟩
  item := by
    intro X hP hw hK hc i pins s σ H E I hf st hg
    subst hP hw hK
    obtain ⟨⟨old, he⟩, hit, hne⟩ := st
    have hel : e < s.heap.objs.size := Heap.lt_size he
    have hil : it < s.heap.objs.size := by obtain ⟨_, q, _⟩ := hit; exact Heap.lt_size q
    have hh : X.A.in1.handled = none := I.ok.hd hc
    refine wpAny_pyNext_enum_itemC (Draws.text hh it z t) he hit hg hne (by simpa using hne) fun x h' tk hx ho hit' hT hsz hk => ?_
    obtain ⟨c, u, hcx, rfl⟩ := hx
    refine ⟨_, rfl, wpAny_letOwnedTupleGo_enum (s := { s with heap := h', toks := tk + 1 }) ho fun h'' he' sb => ?_⟩
    have hT2 : h''.get? s.heap.objs.size = some { cls := .type "tuple", data := .seq #[.int i tk, .str ⟨#[c]⟩ u] } := (sb.2 _ (Nat.ne_of_gt hel)).trans hT
    have new : ObjOk X.prog X.w (upd H s.heap.objs.size (.tup [.int (i : Nat), .str ⟨#[c]⟩])) h'' s.heap.objs.size (.tup [.int (i : Nat), .str ⟨#[c]⟩]) :=
      ⟨by show 2 ≤ sizeLine; decide, [.int i tk, .str ⟨#[c]⟩ u], .cons ⟨_, rfl⟩ (.cons ⟨_, rfl⟩ .nil), ⟨_, hT2, rfl, _, rfl⟩⟩
    have I1 : Inv X pins σ (upd H s.heap.objs.size (.tup [.int (i : Nat), .str ⟨#[c]⟩])) { s with heap := h'', toks := tk + 1 } :=
      I.turnedNew (t' := tk + 1) (ch := [e, it]) (fun b ob hb q => (sb.2 b (fun z => hb (by simp [z]))).trans (hk b ob (fun z => hb (by simp [z])) (fun z => hb (by simp [z])) q)) hf (Nat.le_refl _) new
    refine ⟨.ref s.heap.objs.size, _, I1, rfl, ⟨_, c, rfl, I.hok.fresh (Nat.le_refl _), rfl, hcx⟩, ⟨⟨.str ⟨#[c]⟩ u, ?_⟩, ?_, hne⟩, fun b hb => ?_⟩
    · have e1 : ((i + 1 : Nat) : Int) = (i : Int) + 1 := by omega
      rw [e1]; exact he'
    · obtain ⟨o, q, r⟩ := hit'
      exact ⟨o, (sb.2 it (Ne.symm hne)).trans q, r⟩
    · have hb' : b < s.heap.objs.size := by
        have e' : b = e ∨ b = it := by simpa using hb
        rcases e' with z | z
        · rw [z]; exact hel
        · rw [z]; exact hil
      rw [upd_ne (Nat.ne_of_lt hb')]
      exact (hf b hb).1
  done := by
    intro X hP hw hK hc i pins s σ H E I hf st hg
    subst hP hw hK
    obtain ⟨⟨old, he⟩, hit, hne⟩ := st
    obtain rfl : i = z.cps.size := hg
    obtain ⟨f0, f1, f2, f3, f4, f5⟩ := hf it (by simp)
    have hh : X.A.in1.handled = none := I.ok.hd hc
    exact wpAny_pyNext_enum_endD (Draws.text hh it z t) he hit fun h' eb => ⟨rfl, I.turned (t' := s.toks) (fun b o hb q => eb b o hb q) f0 f1 f3 f4 f5⟩
  self := fun A i s Q E st h => by
    obtain ⟨⟨_, he⟩, _⟩ := st
    exact wpAny_pyIter_enum he h
def iEnumSA (K : PySem.W.Frag) (ta : TA) : TI := fun σ H R => ta σ H fun vs H1 => ∃ z, vs = [.str z] ∧ R (Ites z) H1
theorem pi_enumS {X : Cx} {e : Expr} {ta : TA} {p pos tpos : Pos} {elts : List Expr} {kk : Nat} (hg : Gl X "enumerate") (hm : X.mg "enumerate" = none) (ha : PA X [e] ta) (hs : starEach [e] X.env = [(false, eval e X.env)] := by rfl) :
    PI X (.Tuple elts kk tpos) (.Call (.Name "enumerate" p) [e] [] pos) (iEnumSA X.K ta) := by
  refine ⟨fun pins s σ H R I h => ?_⟩
  refine Call_ (ld_blt I hg hm boot_enumerate (PyProof.Rows.callWith_type1 (thn (ha.run pos pins s σ H _ I h) fun us s1 ⟨vs, H1, I1, r1, q1⟩ => ?_) hs rfl))
  obtain ⟨z, ex, q⟩ := q1
  subst ex
  cases r1 with
  | cons r rr =>
    cases rr
    obtain ⟨t, rfl⟩ := r
    refine call_enumerate_str fun h' he hit hsz hk => wpAny_pyIter_enum he ?_
    have I2 : Inv X pins σ H1 { s1 with heap := h' } := I1.kept (t' := s1.toks) hk
    refine ⟨s1.heap.objs.size + 1, [s1.heap.objs.size + 1, s1.heap.objs.size], _, _, H1, rfl, I2, turn_enumS z t (s1.heap.objs.size + 1) s1.heap.objs.size, ⟨⟨.none, he⟩, hit, Nat.succ_ne_self _⟩, fun b hb => ?_, q⟩
    have e' : b = s1.heap.objs.size + 1 ∨ b = s1.heap.objs.size := by simpa using hb
    have hle : s1.heap.objs.size ≤ b := by
      rcases e' with z | z
      · rw [z]; exact Nat.le_add_right _ _
      · rw [z]; exact Nat.le_refl _
    exact I1.fpOk hle (I1.hok.fresh hle)
theorem wk_enumS {K : PySem.W.Frag} {tbs : List Addr} {μ0 : List Addr} {H0 : Hp} (z : Str) : WkP K tbs (Ites z) [] (enumP 0 (chars z)) μ0 H0 where
  goes := fun i H μ ph lt e _ _ => by
    rw [enumP_len] at lt
    unfold chars at lt
    show i < z.cps.size
    simpa using lt
  stops := fun H μ ph e _ _ => by
    rw [enumP_len]
    unfold chars
    show _ = z.cps.size
    simp
  yields := fun i H μ ph v H' lt e w _ y => by
    obtain ⟨T, c, e1, e2, e3, e4⟩ := y
    obtain ⟨a1, a2, a3⟩ := pair_ok w e1 e2 e3 (.int ((i : Nat) : Int)) (.str ⟨#[c]⟩)
    refine ⟨_, ?_, a1, a2, a3⟩
    rw [enumP_at, Nat.zero_add]
    unfold chars
    rw [List.getElem?_map, Array.getElem?_toList, e4]
    rfl
section
variable {X : Cx} {tbs : List Addr} {W : WX} {e : Expr} {p pos : Pos}
def iEnumPS (f : DE) : DI := fun s h => (f s h).bind fun v h => match v with
  | .str z => .ok ([], enumP 0 (chars z)) h
  | _ => .no
theorem ji_enumS {f : DE} {elts : List Expr} {kk : Nat} {tpos : Pos} (hg : Gl X "enumerate") (hm : X.mg "enumerate" = none) (ha : JE (bs X tbs) W X e f) (hs : starEach [e] X.env = [(false, eval e X.env)] := by rfl) : JI (bs X tbs) W X (.Tuple elts kk tpos) (.Call (.Name "enumerate" p) [e] [] pos) (iEnumPS f) :=
  PI_imp (pi_enumS hg hm (j_cons ha j_nil hs) hs) fun σ H R ⟨μ, ps, ph, sr, wd, ok⟩ => ja_ones sr wd ok fun x ph μ' H' v e1 w1 r1 ok1 => by
    split at ok1
    · rename_i z
      cases r1
      exact ⟨z, rfl, ok1 μ' H' _ Ex.refl w1 (wk_enumS z)⟩
    · exact ok1.elim
end
section
variable {X : Cx} {tbs : List Addr}
/-- int of a text -/
def fIntS : FN := fun xs h => match xs with
  | [.str a] => (PySem.intText? a).bind fun n => if decide (a.length ≤ 640) then some (.int n, h) else none
  | _ => none
theorem cl_intS : CallR X (.type "int") (rPN (bs X tbs) fIntS) := by
  intro pins s σ H xs us Q I r ⟨μ, ph, ps, wd, rr, q⟩
  unfold fIntS at q
  split at q
  · rename_i a
    obtain ⟨v, rfl, rv⟩ := rr.one'
    cases rv
    cases e : PySem.intText? a with
    | none => rw [e] at q; exact q.elim
    | some n =>
      rw [e] at q
      simp only [Option.bind_some] at q
      split at q
      · rename_i hz
        exact call_int_str pins s σ H _ us Q I r ⟨a, n, rfl, e, of_decide_eq_true hz, q.val wd (.int _)⟩
      · exact q.elim
  · exact q.elim
end
section
variable {X : Cx} {tbs : List Addr}
/-- a text many times -/
def opMulS : F2 := fun x y h => match x, y with
  | .str z, .int k => if decide (1 ≤ k ∧ k ≤ 100000) && decide (1 ≤ z.length ∧ z.length ≤ 100) then some (.str ⟨(List.replicate k.toNat z.cps).foldl (· ++ ·) #[]⟩, h) else none
  | _, _ => none
theorem fold_size (a : Array Nat) : ∀ (m : Nat) (b : Array Nat), ((List.replicate m a).foldl (· ++ ·) b).size = b.size + m * a.size
  | 0, b => by simp
  | m + 1, b => by
    rw [List.replicate_succ, List.foldl_cons, fold_size a m, Array.size_append, Nat.succ_mul]
    omega
theorem or_mulS : OpR X (binaryOp .Mult) (rP (bs X tbs) opMulS) := by
  intro pins s σ H x y v u Q I rx ry ⟨μ, ph, px, py, wd, r1, r2, q⟩
  unfold opMulS at q
  split at q
  · rename_i z k
    split at q
    · rename_i hz
      simp only [Bool.and_eq_true, decide_eq_true_eq] at hz
      obtain ⟨⟨k1, k2⟩, l1, l2⟩ := hz
      cases r1
      cases r2
      obtain ⟨t, rfl⟩ := (show ∃ t, v = Value.str z t from rx)
      obtain ⟨t2, rfl⟩ := (show ∃ t, u = Value.int k t from ry)
      have prod : z.length * k.toNat ≤ 100 * 100000 := Nat.mul_le_mul l2 (by omega)
      have fin : ∀ (t' : Tok) (n : Nat), ∃ (y : V) (H' : Hp), Inv X pins σ H' { s with toks := n } ∧ RelV y (Value.str ⟨(List.replicate k.toNat z.cps).foldl (· ++ ·) #[]⟩ t') ∧ Q y H' := fun t' n => ⟨.str _, H, I.tok n, ⟨_, rfl⟩, q.val wd (.str _)⟩
      refine PySem.P.mul_str ?_ ?_ ?_ ?_
      · rw [decide_eq_false (by omega), decide_eq_false (by omega)]
        rfl
      · intro _ _ hb
        have : (100 : Int) ≤ (2 ^ 63 - 1) / k := Int.le_ediv_of_mul_le (by omega) (by omega)
        omega
      · intro _ _
        unfold Builtin.Str.tooLong
        rw [sizeLine_eq]
        exact decide_eq_false (by omega)
      · rw [if_neg (by omega)]
        split
        · rename_i e1
          have lz : (z.length == 0) = false := by simp; omega
          rw [lz, Bool.or_false] at e1
          have e1 : k = 1 := by simpa using e1
          subst e1
          have := fin t s.toks
          have ez : (⟨(List.replicate (1 : Int).toNat z.cps).foldl (· ++ ·) #[]⟩ : Str) = z := by
            show (⟨#[] ++ z.cps⟩ : Str) = z
            rw [Array.empty_append]
          rw [ez] at this
          exact this
        · refine ⟨?_, fin _ _⟩
          show ((List.replicate k.toNat z.cps).foldl (· ++ ·) #[]).size ≤ sizeLine
          rw [fold_size, sizeLine_eq]
          have : z.cps.size = z.length := rfl
          rw [this, Nat.mul_comm]
          simp
          omega
    · exact q.elim
  · exact q.elim
end
end Dn

namespace Dn
open PySem PySem.Spec PyProof.Rows L2 PySem.SeqAt

/-! ### how a def is evaluated by simp only [, ...]: each rule stands for a combinator at given slots and objects; of a bind only its first part is looked at until it is done -/
theorem Out.bind_congr1 {α β : Type} {o o' : Out α} {k : α → PH → Out β} (e : o = o') : o.bind k = o'.bind k := by rw [e]
theorem Out.then_congr1 {α : Type} {o o' : Out α} {s : Sl} {k : α → PH → OutS} (e : o = o') : o.then s k = o'.then s k := by rw [e]
def OutS.seq (o : OutS) (b : DS) : OutS := match o with
  | .nx s h => b s h
  | o => o
theorem OutS.seq_congr1 {o o' : OutS} {b : DS} (e : o = o') : o.seq b = o'.seq b := by rw [e]
theorem OutS.seq_nx (s : Sl) (h : PH) (b : DS) : (OutS.nx s h).seq b = b s h := rfl
theorem OutS.seq_rt (v : PV) (h : PH) (b : DS) : (OutS.rt v h).seq b = .rt v h := rfl
theorem OutS.seq_bk (s : Sl) (h : PH) (b : DS) : (OutS.bk s h).seq b = .bk s h := rfl
theorem OutS.seq_ct (s : Sl) (h : PH) (b : DS) : (OutS.ct s h).seq b = .ct s h := rfl
theorem OutS.seq_err (e : PErr) (s : Sl) (h : PH) (b : DS) : (OutS.err e s h).seq b = .err e s h := rfl
theorem Out.then_ok' {α : Type} (a : α) (h : PH) (s : Sl) (k : α → PH → OutS) : (Out.ok a h).then s k = k a h := rfl
theorem Out.then_err' {α : Type} (e : PErr) (h : PH) (s : Sl) (k : α → PH → OutS) : (Out.err e h : Out α).then s k = .err e s h := rfl
theorem Out.of_some' {α : Type} (a : α) (h : PH) : Out.of (some (a, h)) = Out.ok a h := rfl
theorem eC_ap (x : PV) (s : Sl) (h : PH) : eC x s h = .ok x h := rfl
def varO (o : Option (Option PV)) (h : PH) : Out PV := match o with
  | some (some v) => .ok v h
  | _ => .no
theorem eVar_ap (i : Nat) (s : Sl) (h : PH) : eVar i s h = varO s[i]? h := rfl
theorem varO_some (v : PV) (h : PH) : varO (some (some v)) h = .ok v h := rfl
theorem eOp_ap (f : F2) (a b : DE) (s : Sl) (h : PH) : eOp f a b s h = (a s h).bind fun x h => (b s h).bind fun y h => Out.of (f x y h) := rfl
theorem eUn_ap (f : F1) (a : DE) (s : Sl) (h : PH) : eUn f a s h = (a s h).bind fun x h => Out.of (f x h) := rfl
theorem eCall_ap (f : FN) (a : DA) (s : Sl) (h : PH) : eCall f a s h = (a s h).bind fun xs h => Out.of (f xs h) := rfl
theorem eCallF_ap (m : DF) (a : DA) (s : Sl) (h : PH) : eCallF m a s h = (a s h).bind fun xs h => m xs h := rfl
theorem eNil_ap (s : Sl) (h : PH) : eNil s h = .ok [] h := rfl
theorem eCons_ap (a : DE) (r : DA) (s : Sl) (h : PH) : eCons a r s h = (a s h).bind fun x h => (r s h).bind fun xs h => .ok (x :: xs) h := rfl
def tupO (xs : List PV) (h : PH) : Out PV := if xs.length ≤ sizeLine then .ok (.tup xs) h else .no
theorem eTup_ap (a : DA) (s : Sl) (h : PH) : eTup a s h = (a s h).bind fun xs h => tupO xs h := rfl
def lstO (xs : List PV) (h : PH) : Out PV := if xs.length ≤ sizeLine then .ok (.ref h.length) (h ++ [.lst xs]) else .no
theorem eLst_ap (a : DA) (s : Sl) (h : PH) : eLst a s h = (a s h).bind fun xs h => lstO xs h := rfl
theorem lstO_nil (h : PH) : lstO [] h = .ok (.ref h.length) (h ++ [.lst []]) := if_pos (Nat.zero_le _)
def blO (x : PV) (h : PH) : Out Bool := match x with
  | .bl b => .ok b h
  | _ => .no
theorem blO_bl (b : Bool) (h : PH) : blO (.bl b) h = .ok b h := rfl
theorem tV_ap (a : DE) (s : Sl) (h : PH) : tV a s h = (a s h).bind fun x h => blO x h := by
  rfl
def iteO {α : Type} (c : Bool) (a b : α) : α := if c = true then a else b
theorem iteO_congr1 {α : Type} {c c' : Bool} {a b : α} (e : c = c') : iteO c a b = iteO c' a b := by rw [e]
theorem iteO_true {α : Type} (a b : α) : iteO true a b = a := rfl
theorem iteO_false {α : Type} (a b : α) : iteO false a b = b := rfl
theorem tAndD_ap (a b : DT) (s : Sl) (h : PH) : tAndD a b s h = (a s h).bind fun c h => iteO c (b s h) (.ok false h) := rfl
theorem tOrD_ap (a b : DT) (s : Sl) (h : PH) : tOrD a b s h = (a s h).bind fun c h => iteO c (.ok true h) (b s h) := rfl
theorem tNotD_ap (a : DT) (s : Sl) (h : PH) : tNotD a s h = (a s h).bind fun c h => .ok (!c) h := rfl
theorem eIf_ap (c : DT) (a b : DE) (s : Sl) (h : PH) : eIf c a b s h = (c s h).bind fun c h => iteO c (a s h) (b s h) := rfl
theorem tYesD_ap (s : Sl) (h : PH) : tYesD s h = .ok true h := rfl
theorem sNx_ap (s : Sl) (h : PH) : sNx s h = .nx s h := rfl
theorem sSeq_ap (a b : DS) (s : Sl) (h : PH) : sSeq a b s h = (a s h).seq b := by
  unfold sSeq OutS.seq
  cases a s h <;> rfl
theorem sDrop_ap (f : DE) (s : Sl) (h : PH) : sDrop f s h = (f s h).then s fun _ h => .nx s h := rfl
theorem sRet_ap (f : DE) (s : Sl) (h : PH) : sRet f s h = (f s h).then s fun v h => .rt v h := rfl
theorem sIf_ap (c : DT) (a b : DS) (s : Sl) (h : PH) : sIf c a b s h = (c s h).then s fun k h => iteO k (a s h) (b s h) := rfl
def asgO (o : Option (List (Nat × PV))) (s : Sl) (h : PH) : OutS := match o with
  | some as => .nx (setP as s) h
  | none => .no
theorem asgO_some (as : List (Nat × PV)) (s : Sl) (h : PH) : asgO (some as) s h = .nx (setP as s) h := rfl
theorem sAsg_ap (g : GP) (f : DE) (s : Sl) (h : PH) : sAsg g f s h = (f s h).then s fun v h => asgO (g v) s h := by
  unfold sAsg asgO
  congr 1
theorem gNm_ap (i : Nat) (v : PV) : gNm i v = some [(i, v)] := rfl
def hO (o : Option (Sl × PH)) : OutS := match o with
  | some (s', h') => .nx s' h'
  | none => .no
theorem hO_some (s : Sl) (h : PH) : hO (some (s, h)) = .nx s h := rfl
theorem sAsgH_ap (g : GH) (f : DE) (s : Sl) (h : PH) : sAsgH g f s h = (f s h).then s fun v h => hO (g v s h) := rfl
theorem opLt_ap (i j : Int) (h : PH) : opLt (.int i) (.int j) h = some (.bl (decide (i < j)), h) := rfl
theorem opLe_ap (i j : Int) (h : PH) : opLe (.int i) (.int j) h = some (.bl (decide (i ≤ j)), h) := rfl
theorem opGt_ap (i j : Int) (h : PH) : opGt (.int i) (.int j) h = some (.bl (decide (j < i)), h) := rfl
theorem opGe_ap (i j : Int) (h : PH) : opGe (.int i) (.int j) h = some (.bl (decide (j ≤ i)), h) := rfl
theorem opAdd_ap (i j : Int) (h : PH) : opAdd (.int i) (.int j) h = some (.int (i + j), h) := rfl
theorem opSub_ap (i j : Int) (h : PH) : opSub (.int i) (.int j) h = some (.int (i - j), h) := rfl
def ixO (o : Option MO) (y : PV) (h : PH) : Option (PV × PH) := match o, y with
  | some (.lst xs), .int i => (atI xs i).map fun v => (v, h)
  | some (.dK kvs), y => match keyOf y with
    | some k => (getG kvs k).map fun v => (v, h)
    | none => none
  | some (.dT kvs), .tup ks => match keysOf ks with
    | some k => (getG kvs k).map fun v => (v, h)
    | none => none
  | _, _ => none
theorem opIx_ref (n : Nat) (y : PV) (h : PH) : opIx (.ref n) y h = ixO h[n]? y h := rfl
theorem ixO_lst (xs : List PV) (i : Int) (h : PH) : ixO (some (.lst xs)) (.int i) h = (atI xs i).map fun v => (v, h) := rfl
theorem ixO_str (kvs : List (L2.Key × PV)) (x : Str) (h : PH) : ixO (some (.dK kvs)) (.str x) h = (getG kvs (.inr x)).map fun v => (v, h) := rfl
theorem opIx_tup (xs : List PV) (i : Int) (h : PH) : opIx (.tup xs) (.int i) h = (atI xs i).map fun v => (v, h) := rfl
theorem map_some' {α β : Type} (f : α → β) (a : α) : (some a).map f = some (f a) := rfl
end Dn
namespace Dn
open PySem PySem.Spec PyProof.Rows L2 PySem.SeqAt

/-! ### what a def gives back: the objects of the start, or new ones -/
theorem gcN_len {h h' : PH} {v : PV} (e : h'.length = h.length) : gcN h (.ok v h') = .ok v h' := by
  unfold gcN
  dsimp only
  split
  · rw [← e, List.take_length]
  · rfl
theorem gcN_cut {h h' : PH} {v : PV} (l : h.length ≤ h'.length) (a : v.lowr h.length = true) (b : phLowr h.length (h'.take h.length) = true) : gcN h (.ok v h') = .ok v (h'.take h.length) := by
  unfold gcN
  dsimp only
  rw [if_pos (by rw [a, b, decide_eq_true l]; rfl)]
theorem mk_at {n N : Nat} {g : DS} {xs : List PV} {h : PH} (e : xs.length = n) : mk n N g xs h = gcN h (runB g N xs h) := by unfold mk; exact if_pos e
/-- no object refers beyond the last -/
def Cl (n : Nat) (h : PH) : Prop := phLowr n h = true
theorem Cl.set {n : Nat} {o : MO} (ho : o.lowr n = true) : ∀ {h : PH} (i : Nat), Cl n h → Cl n (h.set i o)
  | [], _, c => c
  | x :: r, 0, c => by
    unfold Cl at c ⊢
    simp only [List.set_cons_zero, phLowr, Bool.and_eq_true] at c ⊢
    exact ⟨ho, c.2⟩
  | x :: r, i + 1, c => by
    unfold Cl at c ⊢
    simp only [List.set_cons_succ, phLowr, Bool.and_eq_true] at c ⊢
    exact ⟨c.1, Cl.set ho i c.2⟩
theorem lowrs_ints (n : Nat) : ∀ gs : List Int, PV.lowrs n (gs.map PV.int) = true
  | [] => rfl
  | x :: r => by
    simp only [List.map_cons, PV.lowrs, PV.lowr, Bool.true_and]
    exact lowrs_ints n r
/-- the entries of the deck's dict; a law may have set one more -/
def deckP (g a t : PV) (w : Bool) : List (L2.Key × PV) := [(.inr "great", g), (.inr "seal", a), (.inr "turn", t)] ++ if w then [(.inr "widest", .bl true)] else []
/-- the deck: its dict, the list of its great numbers -/
structure Deck (d g : Nat) (gs : List Int) (a t : Int) (w : Bool) (h : PH) : Prop where
  dic : h[d]? = some (.dK (deckP (.ref g) (.int a) (.int t) w))
  gre : h[g]? = some (.lst (gs.map PV.int))
  pos : ∀ x ∈ gs, 0 ≤ x
  few : gs.length < 100
  cl : Cl h.length h
theorem Deck.ne {d g : Nat} {gs : List Int} {a t : Int} {w : Bool} {h : PH} (D : Deck d g gs a t w h) : d ≠ g := by
  intro e
  have := D.dic
  rw [e, D.gre] at this
  cases this

/-! ### values and the deck's dict -/
theorem toD_nil {h : PH} {m k : Nat} (e : h[m]? = some (.lst [])) : toD h (k + 1) (.ref m) = some (.list []) := by
  unfold toD
  dsimp only
  rw [e]
  rfl
theorem ne_nil {h : PH} {m n : Nat} {xs : List PV} (e1 : h[m]? = some (.lst xs)) (e2 : h[n]? = some (.lst [])) : opNe (.ref m) (.ref n) h = some (.bl (decide (xs ≠ [])), h) := by
  have q : neB h (.ref m) (.ref n) = (eqB h (.ref m) (.ref n)).map fun b => !b := by
    unfold neB
    cases toD h 50 (.ref m) <;> rfl
  unfold opNe
  rw [q]
  cases xs with
  | cons x r =>
    have : eqB h (.ref m) (.ref n) = some false := by
      unfold eqB lenB
      dsimp only
      rw [e1, e2]
      rfl
    rw [this]
    simp
  | nil =>
    have l : lenB h (.ref m) (.ref n) = none := by
      unfold lenB
      dsimp only
      rw [e1, e2]
      rfl
    have st : strB h (.ref m) (.ref n) = none := by
      unfold strB
      cases toD h 50 (.ref m) <;> rfl
    have : eqB h (.ref m) (.ref n) = some true := by
      unfold eqB
      rw [l, st]
      unfold eqV
      dsimp only
      rw [toD_nil (k := 49) e1, toD_nil (k := 49) e2]
      rfl
    rw [this]
    simp
theorem dk_great (g : PV) (a t : PV) (w : Bool) : getG (deckP g a t w) (.inr "great" : L2.Key) = some g := by cases w <;> rfl
theorem dk_seal (g : PV) (a t : PV) (w : Bool) : getG (deckP g a t w) (.inr "seal" : L2.Key) = some a := by cases w <;> rfl
theorem dk_turn (g : PV) (a t : PV) (w : Bool) : getG (deckP g a t w) (.inr "turn" : L2.Key) = some t := by cases w <;> rfl
theorem dk_put (g : PV) (a t u : PV) (w : Bool) : putG (deckP g a t w) (.inr "turn" : L2.Key) u = deckP g a u w := by cases w <;> rfl
theorem lowr_deck {n g : Nat} {a t : Int} {w : Bool} (l : g < n) : MO.lowr n (.dK (deckP (.ref g) (.int a) (.int t) w)) = true := by cases w <;> simp [deckP, MO.lowr, kvLowr, PV.lowr, l]
theorem fInt_ap (i : Int) (h : PH) : fInt [.int i] h = some (.int i, h) := rfl
theorem opMul_r {i j : Int} {h : PH} (e : smallB j = true) : opMul (.int i) (.int j) h = some (.int (i * j), h) := if_pos (by rw [e, Bool.or_true])
theorem opMod_ap {i j : Int} {h : PH} (e : j ≠ 0) : opMod (.int i) (.int j) h = some (.int (i.fmod j), h) := if_pos (decide_eq_true e)
theorem opFdiv_ap {i j : Int} {h : PH} (e : j ≠ 0) (e2 : j.natAbs < 1073741824) : opFdiv (.int i) (.int j) h = some (.int (i.fdiv j), h) := if_pos (decide_eq_true ⟨e, e2⟩)
theorem smallB_of {i : Int} (h : -18446744073709551616 < i) (h2 : i < 18446744073709551616) : smallB i = true := decide_eq_true ⟨h, h2⟩
theorem fm (i : Int) {b : Int} (hb : 0 < b) : 0 ≤ i.fmod b ∧ i.fmod b < b := by
  rw [Int.fmod_eq_emod_of_nonneg _ (by omega)]
  exact ⟨Int.emod_nonneg _ (by omega), Int.emod_lt_of_pos _ hb⟩
end Dn
namespace Dn
open PySem PySem.Spec PyProof.Rows L2 PySem.SeqAt GxR
def top (i : Nat) : Stmt := PySem.Challenge.pw_roomways_k18_whole_texts_of_runs.main.body.getD i (.Pass ⟨0, 0, 0, 0⟩)
abbrev wFuel : Nat := 100000
theorem Pl.u1 {X : Cx} {k : Nat} (p : Pl X k) : X.A.units + 1 < cLine := by have := p.room.un; omega
theorem Pl.u64 {X : Cx} {k : Nat} (p : Pl X k) : X.A.units + 64 < cLine := by have := p.room.un; omega
theorem Pl.u65 {X : Cx} {k : Nat} (p : Pl X k) : X.A.units + 65 < cLine := by have := p.room.un; omega
theorem Pl.u102 {X : Cx} {k : Nat} (p : Pl X k) : X.A.units + 102 < cLine := by have := p.room.un; omega

structure BltG (mg : Str → Option Value) : Prop where
  b_abs : mg "abs" = none
  b_bool : mg "bool" = none
  b_enumerate : mg "enumerate" = none
  b_int : mg "int" = none
  b_isinstance : mg "isinstance" = none
  b_len : mg "len" = none
  b_range : mg "range" = none
  b_repr : mg "repr" = none
  b_str : mg "str" = none
  b_tuple : mg "tuple" = none

abbrev s_run_text : Stmt := top 6
def g_run_text : DS := (sRet (eMt "str" mJoin (eC (.str "")) (eCons (eLc (iSeq (eVar 0)) (gNm 1) tYesD (eCall fStr (eCons (eVar 1) eNil)) [1]) eNil)))
def m_run_text : DF := mk 1 2 g_run_text
theorem fd_run_text {P : Program} {w : World} {K : PySem.W.Frag} {mg : Str → Option Value} {base : Heap} {tbs : List Addr} (B : BltG mg) (D : DefP K mg "run_text" s_run_text ["run"] (none) [(["run"], [0])]) : FdK P w base ⟨K, mg, tbs⟩ 2 "run_text" 1 m_run_text [(["run"], [0])] := by
  have nd : (["run", "hand"] : List Str).Nodup := by decide +kernel
  exact fd_ofP (N := ["run", "hand"]) D ⟨rfl, rfl, rfl, by decide +kernel, rfl, by decide +kernel, by decide +kernel⟩ (fun f cdv A outer s H E hcode pl tk hp => by exact (jss_one (js_ret (j_mt PySem.F.plainAttrs_str PySem.F.slot_str_join PySem.F.type_str_join mr_join j_str (j_cons (j_lc (own := [("hand", 1)]) (by rfl) nd (ji_seq (j_var 0)) (blkOk_by (N := ["run", "hand"]) (sc := defScope s_run_text) (by decide +kernel)) gok_nm (fun _ _ _ _ _ => by exact (g_nm 1 nd (hx := Or.inl rfl) (hf := Or.inr rfl))) (fun _ _ _ _ _ => by exact jts_nil) (fun _ _ _ _ _ => by exact (j_callTy cl_str (by rfl) B.b_str (by decide +kernel) (j_cons (j_var 1) j_nil)))) j_nil)))))
abbrev s_read_run : Stmt := top 7
def g_read_run : DS := (sSeq (sIf (tNotD (tTru (eIsi "str" (eVar 0)))) (sRaise1 "BadText" "place" (eC (.int 0))) sNx) (sSeq (sFor (iEnumPS (eVar 0)) (gTp 2 (gsCons (gNm 1) (gsCons (gNm 2) gsNil))) (sIf (tOrD (tV (eOp opNotIn (eVar 2) (eC (.str "01234")))) (tV (eOp opGe (eVar 1) (eC (.int 4000))))) (sRaise1 "BadText" "place" (eVar 1)) sNx)) (sRet (eCall fTuple (eCons (eLc (iSeq (eVar 0)) (gNm 2) tYesD (eCall fIntS (eCons (eVar 2) eNil)) [2]) eNil)))))
def m_read_run : DF := mk 1 3 g_read_run
theorem fd_read_run {P : Program} {w : World} {K : PySem.W.Frag} {mg : Str → Option Value} {base : Heap} {tbs : List Addr} (B : BltG mg) (h_FIGURES_OF_HANDS : ∃ t, mg "FIGURES_OF_HANDS" = some (.str "01234" t)) (h_MAX_MOVES : ∃ t, mg "MAX_MOVES" = some (.int 4000 t)) (E_BadText : ExcP1 P w K mg base "BadText" "place") (D : DefP K mg "read_run" s_read_run ["value"] (none) [(["value"], [0])]) : FdK P w base ⟨K, mg, tbs⟩ 3 "read_run" 1 m_read_run [(["value"], [0])] := by
  obtain ⟨t_FIGURES_OF_HANDS, e_FIGURES_OF_HANDS⟩ := h_FIGURES_OF_HANDS
  obtain ⟨t_MAX_MOVES, e_MAX_MOVES⟩ := h_MAX_MOVES
  have nd : (["value", "place", "sign"] : List Str).Nodup := by decide +kernel
  exact fd_ofP (N := ["value", "place", "sign"]) D ⟨rfl, rfl, rfl, by decide +kernel, rfl, by decide +kernel, by decide +kernel⟩ (fun f cdv A outer s H E hcode pl tk hp => by exact (jss_cons (js_if (j_not (j_tru (j_isi (n := "str") (by simp) (j_var 0) B.b_isinstance B.b_str (by decide +kernel)))) (jss_one (js_raise1 (k := 0) E_BadText ⟨pl.room.mono (by first | decide | omega), pl.gd⟩ (by rfl) tk (by rfl) j_int)) jss_nil) (jss_cons (js_for hp (by rfl) (ji_enumS (by rfl) B.b_enumerate (j_var 0)) (g_tp (by rfl) (gs_cons (g_nm 1 nd) (gs_cons (g_nm 2 nd) gs_nil))) (jss_one (js_if (j_wt (j_or (j_tcmp (or_notIn (by exact pl.u65)) (j_var 2) (j_glob (px := .str "01234") (v := .str "01234") (by rfl) e_FIGURES_OF_HANDS ⟨t_FIGURES_OF_HANDS, rfl⟩ (fun _ _ => .str _))) (j_or1 (j_tcmp or_ge (j_var 1) (j_glob (px := .int 4000) (v := .int 4000) (by rfl) e_MAX_MOVES ⟨t_MAX_MOVES, rfl⟩ (fun _ _ => .int _)))))) (jss_one (js_raise1 (k := 0) E_BadText ⟨pl.room.mono (by first | decide | omega), pl.gd⟩ (by rfl) tk (by rfl) (j_var 1))) jss_nil))) (jss_one (js_ret (j_callTy cl_tuple (by rfl) B.b_tuple (by decide +kernel) (j_cons (j_lc (own := [("sign", 2)]) (by rfl) nd (ji_seq (j_var 0)) (blkOk_by (N := ["value", "place", "sign"]) (sc := defScope s_read_run) (by decide +kernel)) gok_nm (fun _ _ _ _ _ => by exact (g_nm 2 nd (hx := Or.inl rfl) (hf := Or.inr rfl))) (fun _ _ _ _ _ => by exact jts_nil) (fun _ _ _ _ _ => by exact (j_callTy cl_intS (by rfl) B.b_int (by decide +kernel) (j_cons (j_var 2) j_nil)))) j_nil)))))))
abbrev s__law_deck : Stmt := top 9
def g__law_deck : DS := (sSeq (sPar 1 2 (eCons (eLc (iSeq (eSl opSl (eVar 0) oNone (oSome (eC (.int 63))))) (gNm 4) tYesD (eOp opAdd (eOp opMul (eC (.int 2)) (eCall fAbs (eCons (eVar 4) eNil))) (eCall fInt (eCons (eOp opLt (eVar 4) (eC (.int 0))) eNil))) [4]) (eCons (eOp opAdd (eC (.int 15910)) (eOp opMul (eC (.int 7)) (eCall fLen (eCons (eVar 0) eNil)))) eNil))) (sSeq (sFor (iSeq (eVar 1)) (gNm 3) (sAsg (gNm 2) (eOp opMod (eCall fInt (eCons (eOp opAdd (eOp opAdd (eOp opMul (eVar 2) (eC (.int 48271))) (eVar 3)) (eC (.int 1))) eNil)) (eC (.int 4294967291))))) (sRet (eDisp (((eC (.str "great")), (eRev (eLc (iSeq (eVar 1)) (gNm 3) (tV (eOp opGe (eVar 3) (eOp opPow (eC (.int 10)) (eC (.int 18))))) (eVar 3) [3]))) :: (((eC (.str "seal")), (eVar 2)) :: (((eC (.str "turn")), (eC (.int 0))) :: [])))))))
def m__law_deck : DF := mk 1 5 g__law_deck
theorem fd__law_deck {P : Program} {w : World} {K : PySem.W.Frag} {mg : Str → Option Value} {base : Heap} {tbs : List Addr} (B : BltG mg) (D : DefP K mg "_law_deck" s__law_deck ["script"] (none) []) : FdK P w base ⟨K, mg, tbs⟩ 2 "_law_deck" 1 m__law_deck [] := by
  have nd : (["script", "cells", "seal", "cell", "own"] : List Str).Nodup := by decide +kernel
  exact fd_ofP (N := ["script", "cells", "seal", "cell", "own"]) D ⟨rfl, rfl, rfl, by decide +kernel, rfl, by decide +kernel, by decide +kernel⟩ (fun f cdv A outer s H E hcode pl tk hp => by exact (jss_cons (js_par (i := 1) (j := 2) (by rfl) nd (j_cons (j_lc (own := [("own", 4)]) (by rfl) nd (ji_seq (j_sl sr_sl (j_var 0) jo_none (jo_some j_int))) (blkOk_by (N := ["script", "cells", "seal", "cell", "own"]) (sc := defScope s__law_deck) (by decide +kernel)) gok_nm (fun _ _ _ _ _ => by exact (g_nm 4 nd (hx := Or.inl rfl) (hf := Or.inr rfl))) (fun _ _ _ _ _ => by exact jts_nil) (fun _ _ _ _ _ => by exact (j_op or_add (j_op or_mul j_int (j_callB cl_abs (by rfl) B.b_abs (by decide +kernel) (j_cons (j_var 4) j_nil))) (j_callTy cl_int (by rfl) B.b_int (by decide +kernel) (j_cons (j_cmp or_lt (j_var 4) j_int) j_nil))))) (j_cons (j_op or_add j_int (j_op or_mul j_int (j_callB cl_len (by rfl) B.b_len (by decide +kernel) (j_cons (j_var 0) j_nil)))) j_nil))) (jss_cons (js_for hp (by rfl) (ji_seq (j_var 1)) (g_nm 3 nd) (jss_one (js_set (i := 2) nd (j_op or_mod (j_callTy cl_int (by rfl) B.b_int (by decide +kernel) (j_cons (j_op or_add (j_op or_add (j_op or_mul (j_var 2) j_int) (j_var 3)) j_int) j_nil)) j_int)))) (jss_one (js_ret (j_disp (.cons j_str (j_rev (j_lc (own := [("cell", 3)]) (by rfl) nd (ji_seq (j_var 1)) (blkOk_by (N := ["script", "cells", "seal", "cell", "own"]) (sc := defScope s__law_deck) (by decide +kernel)) gok_nm (fun _ _ _ _ _ => by exact (g_nm 3 nd (hx := Or.inl rfl) (hf := Or.inr rfl))) (fun _ _ _ _ _ => by exact (jts_one (j_tcmp or_ge (j_var 3) (j_op or_pow j_int j_int)))) (fun _ _ _ _ _ => by exact (j_var 3)))) (.cons j_str (j_var 2) (.cons j_str j_int .nil)))))))))
abbrev s__law_draw : Stmt := top 10
def g__law_draw : DS := (sSeq (sIf (tV (eOp opLt (eVar 1) (eC (.int 2)))) (sRet (eC (.int 0))) sNx) (sSeq (sIf (tV (eOp opNe (eOp opIx (eVar 0) (eC (.str "great"))) (eLst eNil))) (sSeq (sAsg (gNm 2) (eMt "list" mPop (eOp opIx (eVar 0) (eC (.str "great"))) eNil)) (sSeq (sIf (tV (eOp opGe (eVar 2) (eVar 1))) (sDrop (eMt "list" mAppend (eOp opIx (eVar 0) (eC (.str "great"))) (eCons (eOp opFdiv (eVar 2) (eVar 1)) eNil))) sNx) (sRet (eOp opMod (eCall fInt (eCons (eVar 2) eNil)) (eVar 1))))) sNx) (sSeq (sAsgH (hSub fSet (eVar 0) (eC (.str "turn"))) (eOp opAdd (eOp opIx (eVar 0) (eC (.str "turn"))) (eC (.int 1)))) (sSeq (sAsg (gNm 3) (eOp opMod (eCall fInt (eCons (eOp opAdd (eOp opIx (eVar 0) (eC (.str "seal"))) (eOp opMul (eOp opIx (eVar 0) (eC (.str "turn"))) (eC (.int 2654435761)))) eNil)) (eC (.int 4294967291)))) (sSeq (sAsg (gNm 4) (eOp opMod (eCall fInt (eCons (eOp opAdd (eOp opAdd (eOp opMul (eVar 3) (eVar 3)) (eOp opMul (eOp opIx (eVar 0) (eC (.str "turn"))) (eC (.int 362437)))) (eC (.int 5))) eNil)) (eC (.int 4294967279)))) (sRet (eOp opMod (eCall fInt (eCons (eOp opFdiv (eOp opMod (eCall fInt (eCons (eOp opAdd (eOp opMul (eVar 4) (eVar 4)) (eVar 3)) eNil)) (eC (.int 4294967231))) (eC (.int 4096))) eNil)) (eVar 1))))))))
def m__law_draw : DF := mk 2 5 g__law_draw
theorem fd__law_draw {P : Program} {w : World} {K : PySem.W.Frag} {mg : Str → Option Value} {base : Heap} {tbs : List Addr} (B : BltG mg) (D : DefP K mg "_law_draw" s__law_draw ["deck", "many"] (none) []) : FdK P w base ⟨K, mg, tbs⟩ 2 "_law_draw" 2 m__law_draw [] := by
  have nd : (["deck", "many", "cell", "one", "two"] : List Str).Nodup := by decide +kernel
  exact fd_ofP (N := ["deck", "many", "cell", "one", "two"]) D ⟨rfl, rfl, rfl, by decide +kernel, rfl, by decide +kernel, by decide +kernel⟩ (fun f cdv A outer s H E hcode pl tk hp => by exact (jss_cons (js_if (j_tcmp or_lt (j_var 1) j_int) (jss_one (js_ret j_int)) jss_nil) (jss_cons (js_if (j_tcmp (or_ne (by exact pl.u64)) (j_ix (ir_ix (by exact pl.u1)) (j_var 0) j_str) (j_lst j_nil)) (jss_cons (js_set (i := 2) nd (j_mt0 PySem.F.plainAttrs_list PySem.F.slot_list_pop PySem.F.type_list_pop mr_pop (j_ix (ir_ix (by exact pl.u1)) (j_var 0) j_str))) (jss_cons (js_if (j_tcmp or_ge (j_var 2) (j_var 1)) (jss_one (js_expr (j_mt PySem.F.plainAttrs_list PySem.F.slot_list_append PySem.F.type_list_append mr_append (j_ix (ir_ix (by exact pl.u1)) (j_var 0) j_str) (j_cons (j_op or_fdiv (j_var 2) (j_var 1)) j_nil)))) jss_nil) (jss_one (js_ret (j_op or_mod (j_callTy cl_int (by rfl) B.b_int (by decide +kernel) (j_cons (j_var 2) j_nil)) (j_var 1)))))) jss_nil) (jss_cons (js_asgH (j_op or_add (j_ix (ir_ix (by exact pl.u1)) (j_var 0) j_str) j_int) (h_sub (st_set (by exact pl.u1)) (j_var 0) j_str)) (jss_cons (js_set (i := 3) nd (j_op or_mod (j_callTy cl_int (by rfl) B.b_int (by decide +kernel) (j_cons (j_op or_add (j_ix (ir_ix (by exact pl.u1)) (j_var 0) j_str) (j_op or_mul (j_ix (ir_ix (by exact pl.u1)) (j_var 0) j_str) j_int)) j_nil)) j_int)) (jss_cons (js_set (i := 4) nd (j_op or_mod (j_callTy cl_int (by rfl) B.b_int (by decide +kernel) (j_cons (j_op or_add (j_op or_add (j_op or_mul (j_var 3) (j_var 3)) (j_op or_mul (j_ix (ir_ix (by exact pl.u1)) (j_var 0) j_str) j_int)) j_int) j_nil)) j_int)) (jss_one (js_ret (j_op or_mod (j_callTy cl_int (by rfl) B.b_int (by decide +kernel) (j_cons (j_op or_fdiv (j_op or_mod (j_callTy cl_int (by rfl) B.b_int (by decide +kernel) (j_cons (j_op or_add (j_op or_mul (j_var 4) (j_var 4)) (j_var 3)) j_nil)) j_int) j_int) j_nil)) (j_var 1))))))))))
abbrev s__law_pick : Stmt := top 11
def g__law_pick : DS := (sRet (eOp opIx (eVar 1) (eCallF (m__law_draw) (eCons (eVar 0) (eCons (eCall fLen (eCons (eVar 1) eNil)) eNil)))))
def m__law_pick : DF := mk 2 2 g__law_pick
theorem fd__law_pick {P : Program} {w : World} {K : PySem.W.Frag} {mg : Str → Option Value} {base : Heap} {tbs : List Addr} (B : BltG mg) (F__law_draw : Fd P w base ⟨K, mg, tbs⟩ 2 "_law_draw" 2 (m__law_draw)) (D : DefP K mg "_law_pick" s__law_pick ["deck", "items"] (none) []) : FdK P w base ⟨K, mg, tbs⟩ 3 "_law_pick" 2 m__law_pick [] := by
  have nd : (["deck", "items"] : List Str).Nodup := by decide +kernel
  exact fd_ofP (N := ["deck", "items"]) D ⟨rfl, rfl, rfl, by decide +kernel, rfl, by decide +kernel, by decide +kernel⟩ (fun f cdv A outer s H E hcode pl tk hp => by exact (jss_one (js_ret (j_ix (ir_ix (by exact pl.u1)) (j_var 1) (j_fd F__law_draw ⟨pl.room.mono (by first | decide | omega), pl.gd⟩ tk (by rfl) (j_cons (j_var 0) (j_cons (j_callB cl_len (by rfl) B.b_len (by decide +kernel) (j_cons (j_var 1) j_nil)) j_nil)))))))
abbrev s__law_same : Stmt := top 12
def g__law_same (rec : DF) : DS := (sSeq (sIf (tTru (eIsi "tuple" (eVar 1))) (sSeq (sIf (tOrD (tNotD (tTru (eIsi "tuple" (eVar 0)))) (tV (eOp opNe (eCall fLen (eCons (eVar 0) eNil)) (eCall fLen (eCons (eVar 1) eNil))))) (sRet (eC (.bl false))) sNx) (sSeq (sFor (iEnumP (eVar 1)) (gTp 2 (gsCons (gNm 2) (gsCons (gNm 3) gsNil))) (sIf (tNotD (tTru (eCallF rec (eCons (eOp opIx (eVar 0) (eVar 2)) (eCons (eVar 3) eNil))))) (sRet (eC (.bl false))) sNx)) (sRet (eC (.bl true))))) sNx) (sSeq (sIf (tV (eOp opIs (eVar 1) (eC .non))) (sRet (eOp opIs (eVar 0) (eC .non))) sNx) (sSeq (sIf (tTru (eIsi "bool" (eVar 1))) (sRet (eIf (tTru (eVar 1)) (eOp opIs (eVar 0) (eC (.bl true))) (eOp opIs (eVar 0) (eC (.bl false))))) sNx) (sSeq (sIf (tTru (eIsi "int" (eVar 1))) (sRet (eAnd (eIsi "int" (eVar 0)) (eAnd (eNot (eIsi "bool" (eVar 0))) (eOp opEq (eVar 0) (eVar 1))))) sNx) (sRet (eAnd (eIsi "str" (eVar 0)) (eOp opEq (eVar 0) (eVar 1))))))))
def m__law_same : Nat → DF
  | 0 => mNo
  | n + 1 => mk 2 4 (g__law_same (m__law_same n))
theorem fd__law_same {P : Program} {w : World} {K : PySem.W.Frag} {mg : Str → Option Value} {base : Heap} {tbs : List Addr} (B : BltG mg) (D : DefP K mg "_law_same" s__law_same ["found", "due"] (none) []) : ∀ n : Nat, FdK P w base ⟨K, mg, tbs⟩ (n + 2) "_law_same" 2 (m__law_same n) []
  | 0 => fd_no D
  | n + 1 => by
    have R := (fd__law_same (P := P) (w := w) (base := base) (tbs := tbs) B D n).fd
    have nd : (["found", "due", "spot", "own"] : List Str).Nodup := by decide +kernel
    exact fd_ofP (N := ["found", "due", "spot", "own"]) D ⟨rfl, rfl, rfl, by decide +kernel, rfl, by decide +kernel, by decide +kernel⟩ (fun f cdv A outer s H E hcode pl tk hp => by exact (jss_cons (js_if (j_tru (j_isi (n := "tuple") (by simp) (j_var 1) B.b_isinstance B.b_tuple (by decide +kernel))) (jss_cons (js_if (j_wt (j_or (j_not (j_tru (j_isi (n := "tuple") (by simp) (j_var 0) B.b_isinstance B.b_tuple (by decide +kernel)))) (j_or1 (j_tcmp (or_ne (by exact pl.u64)) (j_callB cl_len (by rfl) B.b_len (by decide +kernel) (j_cons (j_var 0) j_nil)) (j_callB cl_len (by rfl) B.b_len (by decide +kernel) (j_cons (j_var 1) j_nil)))))) (jss_one (js_ret j_bl)) jss_nil) (jss_cons (js_for hp (by rfl) (ji_enum (by rfl) B.b_enumerate (j_var 1)) (g_tp (by rfl) (gs_cons (g_nm 2 nd) (gs_cons (g_nm 3 nd) gs_nil))) (jss_one (js_if (j_not (j_tru (j_fd R ⟨pl.room.mono (by first | decide | omega), pl.gd⟩ tk (by rfl) (j_cons (j_ix (ir_ix (by exact pl.u1)) (j_var 0) (j_var 2)) (j_cons (j_var 3) j_nil))))) (jss_one (js_ret j_bl)) jss_nil))) (jss_one (js_ret j_bl)))) jss_nil) (jss_cons (js_if (j_tcmp or_is (j_var 1) j_non) (jss_one (js_ret (j_cmp or_is (j_var 0) j_non))) jss_nil) (jss_cons (js_if (j_tru (j_isi (n := "bool") (by simp) (j_var 1) B.b_isinstance B.b_bool (by decide +kernel))) (jss_one (js_ret (j_if (j_tru (j_var 1)) (j_cmp or_is (j_var 0) j_bl) (j_cmp or_is (j_var 0) j_bl)))) jss_nil) (jss_cons (js_if (j_tru (j_isi (n := "int") (by simp) (j_var 1) B.b_isinstance B.b_int (by decide +kernel))) (jss_one (js_ret (j_andV (j_isi (n := "int") (by simp) (j_var 0) B.b_isinstance B.b_int (by decide +kernel)) (j_andV (j_notV (j_isi (n := "bool") (by simp) (j_var 0) B.b_isinstance B.b_bool (by decide +kernel))) (j_one (j_cmp (or_eq (by exact pl.u64)) (j_var 0) (j_var 1))))))) jss_nil) (jss_one (js_ret (j_andV (j_isi (n := "str") (by simp) (j_var 0) B.b_isinstance B.b_str (by decide +kernel)) (j_one (j_cmp (or_eq (by exact pl.u64)) (j_var 0) (j_var 1)))))))))))
abbrev s__law_any : Stmt := top 13
def g__law_any (rec : DF) : DS := (sSeq (sAsg (gNm 2) (eCallF (m__law_draw) (eCons (eVar 0) (eCons (eIf (tV (eOp opGt (eVar 1) (eC (.int 0)))) (eC (.int 16)) (eC (.int 10))) eNil)))) (sSeq (sIf (tV (eOp opLt (eVar 2) (eC (.int 3)))) (sRet (eOp opIx (eLst (eCons (eC .non) (eCons (eC (.bl true)) (eCons (eC (.bl false)) eNil)))) (eVar 2))) sNx) (sSeq (sIf (tV (eOp opLt (eVar 2) (eC (.int 6)))) (sRet (eCallF (m__law_pick) (eCons (eVar 0) (eCons (eLst (eCons (eUn opNeg (eC (.int 1))) (eCons (eC (.int 0)) (eCons (eC (.int 1)) (eCons (eC (.int 2)) (eCons (eC (.int 4)) (eCons (eC (.int 5)) (eCons (eC (.int 6)) (eCons (eC (.int 23)) (eCons (eC (.int 24)) (eCons (eOp opAdd (eOp opPow (eC (.int 10)) (eC (.int 18))) (eC (.int 7))) eNil))))))))))) eNil)))) sNx) (sSeq (sIf (tV (eOp opLt (eVar 2) (eC (.int 10)))) (sRet (eCallF (m__law_pick) (eCons (eVar 0) (eCons (eLst (eCons (eC (.str "in")) (eCons (eC (.str "out")) (eCons (eC (.str "")) (eCons (eC (.str "-")) (eCons (eC (.str "stand")) (eCons (eC (.str "bow")) (eCons (eC (.str "even")) (eCons (eC (.str "rest")) (eCons (eC (.str "go")) (eCons (eC (.str "plain")) (eCons (eC (.str "way +0 -0")) eNil)))))))))))) eNil)))) sNx) (sSeq (sAsg (gNm 3) (eLc (iRange1 (eCallF (m__law_draw) (eCons (eVar 0) (eCons (eC (.int 4)) eNil)))) (gNm 4) tYesD (eCallF rec (eCons (eVar 0) (eCons (eOp opSub (eVar 1) (eC (.int 1))) eNil))) [4])) (sSeq (sIf (tV (eOp opLt (eVar 2) (eC (.int 12)))) (sRet (eVar 3)) sNx) (sRet (eIf (tV (eOp opEq (eVar 2) (eC (.int 12)))) (eDisp (((eC (.str "0")), (eVar 3)) :: [])) (eCall fTuple (eCons (eVar 3) eNil))))))))))
def m__law_any : Nat → DF
  | 0 => mNo
  | n + 1 => mk 2 5 (g__law_any (m__law_any n))
theorem fd__law_any {P : Program} {w : World} {K : PySem.W.Frag} {mg : Str → Option Value} {base : Heap} {tbs : List Addr} (B : BltG mg) (F__law_draw : Fd P w base ⟨K, mg, tbs⟩ 2 "_law_draw" 2 (m__law_draw)) (F__law_pick : Fd P w base ⟨K, mg, tbs⟩ 3 "_law_pick" 2 (m__law_pick)) (D : DefP K mg "_law_any" s__law_any ["deck", "deep"] (none) []) : ∀ n : Nat, FdK P w base ⟨K, mg, tbs⟩ (n + 4) "_law_any" 2 (m__law_any n) []
  | 0 => fd_no D
  | n + 1 => by
    have R := (fd__law_any (P := P) (w := w) (base := base) (tbs := tbs) B F__law_draw F__law_pick D n).fd
    have nd : (["deck", "deep", "sort", "items", "turn"] : List Str).Nodup := by decide +kernel
    exact fd_ofP (N := ["deck", "deep", "sort", "items", "turn"]) D ⟨rfl, rfl, rfl, by decide +kernel, rfl, by decide +kernel, by decide +kernel⟩ (fun f cdv A outer s H E hcode pl tk hp => by exact (jss_cons (js_set (i := 2) nd (j_fd F__law_draw ⟨pl.room.mono (by first | decide | omega), pl.gd⟩ tk (by rfl) (j_cons (j_var 0) (j_cons (j_if (j_tcmp or_gt (j_var 1) j_int) j_int j_int) j_nil)))) (jss_cons (js_if (j_tcmp or_lt (j_var 2) j_int) (jss_one (js_ret (j_ix (ir_ix (by exact pl.u1)) (j_lst (j_cons j_non (j_cons j_bl (j_cons j_bl j_nil)))) (j_var 2)))) jss_nil) (jss_cons (js_if (j_tcmp or_lt (j_var 2) j_int) (jss_one (js_ret (j_fd F__law_pick ⟨pl.room.mono (by first | decide | omega), pl.gd⟩ tk (by rfl) (j_cons (j_var 0) (j_cons (j_lst (j_cons (j_un ur_neg j_int) (j_cons j_int (j_cons j_int (j_cons j_int (j_cons j_int (j_cons j_int (j_cons j_int (j_cons j_int (j_cons j_int (j_cons (j_op or_add (j_op or_pow j_int j_int) j_int) j_nil))))))))))) j_nil))))) jss_nil) (jss_cons (js_if (j_tcmp or_lt (j_var 2) j_int) (jss_one (js_ret (j_fd F__law_pick ⟨pl.room.mono (by first | decide | omega), pl.gd⟩ tk (by rfl) (j_cons (j_var 0) (j_cons (j_lst (j_cons j_str (j_cons j_str (j_cons j_str (j_cons j_str (j_cons j_str (j_cons j_str (j_cons j_str (j_cons j_str (j_cons j_str (j_cons j_str (j_cons j_str j_nil)))))))))))) j_nil))))) jss_nil) (jss_cons (js_setLc (i := 3) (own := [("turn", 4)]) (by rfl) nd (ji_range (by rfl) B.b_range (j_fd F__law_draw ⟨pl.room.mono (by first | decide | omega), pl.gd⟩ tk (by rfl) (j_cons (j_var 0) (j_cons j_int j_nil)))) (blkOk_by (N := ["deck", "deep", "sort", "items", "turn"]) (sc := defScope s__law_any) (by decide +kernel)) gok_nm (fun _ _ _ _ _ => by exact (g_nm 4 nd (hx := Or.inl rfl) (hf := Or.inr rfl))) (fun _ _ _ _ _ => by exact jts_nil) (fun _ _ _ _ _ => by exact (j_fd R ⟨pl.room.mono (by first | decide | omega), pl.gd⟩ takes0 (by rfl) (j_cons (j_var 0) (j_cons (j_op or_sub (j_var 1) j_int) j_nil))))) (jss_cons (js_if (j_tcmp or_lt (j_var 2) j_int) (jss_one (js_ret (j_var 3))) jss_nil) (jss_one (js_ret (j_if (j_tcmp (or_eq (by exact pl.u64)) (j_var 2) j_int) (j_disp (.cons j_str (j_var 3) .nil)) (j_callTy cl_tuple (by rfl) B.b_tuple (by decide +kernel) (j_cons (j_var 3) j_nil))))))))))))
abbrev s__law_row : Stmt := top 14
def g__law_row : DS := (sSeq (sIf (tV (eOp opGt (eCallF (m__law_draw) (eCons (eVar 0) (eCons (eC (.int 6)) eNil))) (eC (.int 0)))) (sRet (eCall fTuple (eCons (eLc (iRange1 (eCallF (m__law_draw) (eCons (eVar 0) (eCons (eC (.int 60)) eNil)))) (gNm 2) tYesD (eCallF (m__law_draw) (eCons (eVar 0) (eCons (eC (.int 5)) eNil))) [2]) eNil))) sNx) (sSeq (sAsg (gNm 1) (eCall fTuple (eCons (eLc (iRange1 (eOp opAdd (eC (.int 1)) (eCallF (m__law_draw) (eCons (eVar 0) (eCons (eC (.int 9)) eNil))))) (gNm 2) tYesD (eCallF (m__law_draw) (eCons (eVar 0) (eCons (eC (.int 5)) eNil))) [2]) eNil))) (sRet (eSl opSl (eOp opMul (eVar 1) (eC (.int 4000))) oNone (oSome (eCallF (m__law_pick) (eCons (eVar 0) (eCons (eLst (eCons (eC (.int 3999)) (eCons (eC (.int 4000)) (eCons (eC (.int 4000)) eNil)))) eNil))))))))
def m__law_row : DF := mk 1 3 g__law_row
theorem fd__law_row {P : Program} {w : World} {K : PySem.W.Frag} {mg : Str → Option Value} {base : Heap} {tbs : List Addr} (B : BltG mg) (F__law_draw : Fd P w base ⟨K, mg, tbs⟩ 2 "_law_draw" 2 (m__law_draw)) (F__law_pick : Fd P w base ⟨K, mg, tbs⟩ 3 "_law_pick" 2 (m__law_pick)) (D : DefP K mg "_law_row" s__law_row ["deck"] (none) []) : FdK P w base ⟨K, mg, tbs⟩ 4 "_law_row" 1 m__law_row [] := by
  have nd : (["deck", "some", "turn"] : List Str).Nodup := by decide +kernel
  exact fd_ofP (N := ["deck", "some", "turn"]) D ⟨rfl, rfl, rfl, by decide +kernel, rfl, by decide +kernel, by decide +kernel⟩ (fun f cdv A outer s H E hcode pl tk hp => by exact (jss_cons (js_if (j_tcmp or_gt (j_fd F__law_draw ⟨pl.room.mono (by first | decide | omega), pl.gd⟩ tk (by rfl) (j_cons (j_var 0) (j_cons j_int j_nil))) j_int) (jss_one (js_ret (j_callTy cl_tuple (by rfl) B.b_tuple (by decide +kernel) (j_cons (j_lc (own := [("turn", 2)]) (by rfl) nd (ji_range (by rfl) B.b_range (j_fd F__law_draw ⟨pl.room.mono (by first | decide | omega), pl.gd⟩ tk (by rfl) (j_cons (j_var 0) (j_cons j_int j_nil)))) (blkOk_by (N := ["deck", "some", "turn"]) (sc := defScope s__law_row) (by decide +kernel)) gok_nm (fun _ _ _ _ _ => by exact (g_nm 2 nd (hx := Or.inl rfl) (hf := Or.inr rfl))) (fun _ _ _ _ _ => by exact jts_nil) (fun _ _ _ _ _ => by exact (j_fd F__law_draw ⟨pl.room.mono (by first | decide | omega), pl.gd⟩ takes0 (by rfl) (j_cons (j_var 0) (j_cons j_int j_nil))))) j_nil)))) jss_nil) (jss_cons (js_set (i := 1) nd (j_callTy cl_tuple (by rfl) B.b_tuple (by decide +kernel) (j_cons (j_lc (own := [("turn", 2)]) (by rfl) nd (ji_range (by rfl) B.b_range (j_op or_add j_int (j_fd F__law_draw ⟨pl.room.mono (by first | decide | omega), pl.gd⟩ tk (by rfl) (j_cons (j_var 0) (j_cons j_int j_nil))))) (blkOk_by (N := ["deck", "some", "turn"]) (sc := defScope s__law_row) (by decide +kernel)) gok_nm (fun _ _ _ _ _ => by exact (g_nm 2 nd (hx := Or.inl rfl) (hf := Or.inr rfl))) (fun _ _ _ _ _ => by exact jts_nil) (fun _ _ _ _ _ => by exact (j_fd F__law_draw ⟨pl.room.mono (by first | decide | omega), pl.gd⟩ takes0 (by rfl) (j_cons (j_var 0) (j_cons j_int j_nil))))) j_nil))) (jss_one (js_ret (j_sl sr_sl (j_op or_mul (j_var 1) j_int) jo_none (jo_some (j_fd F__law_pick ⟨pl.room.mono (by first | decide | omega), pl.gd⟩ tk (by rfl) (j_cons (j_var 0) (j_cons (j_lst (j_cons j_int (j_cons j_int (j_cons j_int j_nil)))) j_nil))))))))))
abbrev s__law_value : Stmt := top 15
def g__law_value : DS := (sSeq (sPar 2 3 (eCons (eMt "str" mJoin (eC (.str "")) (eCons (eLc (iSeq (eVar 1)) (gNm 6) tYesD (eCall fStr (eCons (eVar 6) eNil)) [6]) eNil)) (eCons (eCallF (m__law_draw) (eCons (eVar 0) (eCons (eC (.int 8)) eNil))) eNil))) (sSeq (sIf (tV (eOp opEq (eVar 3) (eC (.int 0)))) (sRet (eCallF (m__law_any 8) (eCons (eVar 0) (eCons (eC (.int 2)) eNil)))) sNx) (sSeq (sIf (tV (eOp opEq (eVar 3) (eC (.int 1)))) (sRet (eVar 1)) sNx) (sSeq (sFor (iRange1 (eIf (tV (eOp opGt (eVar 3) (eC (.int 3)))) (eCallF (m__law_draw) (eCons (eVar 0) (eCons (eC (.int 3)) eNil))) (eC (.int 0)))) (gNm 4) (sSeq (sAsg (gNm 5) (eCallF (m__law_draw) (eCons (eVar 0) (eCons (eOp opAdd (eCall fLen (eCons (eVar 2) eNil)) (eC (.int 1))) eNil)))) (sAsg (gNm 2) (eOp opAdd (eOp opAdd (eSl opSl (eVar 2) oNone (oSome (eVar 5))) (eCallF (m__law_pick) (eCons (eVar 0) (eCons (eLst (eCons (eC (.str "5")) (eCons (eC (.str "9")) (eCons (eC (.str " ")) (eCons (eC (.str "-")) (eCons (eC (.str "a")) (eCons (eC (.str "\n")) (eCons (eC (.str "0 ")) (eCons (eC (.str "04")) eNil))))))))) eNil)))) (eSl opSl (eVar 2) (oSome (eVar 5)) oNone))))) (sRet (eIf (tV (eOp opEq (eVar 3) (eC (.int 2)))) (eOp opAdd (eVar 2) (eOp opMulS (eC (.str "0")) (eOp opAdd (eOp opSub (eC (.int 4001)) (eCall fLen (eCons (eVar 2) eNil))) (eCallF (m__law_draw) (eCons (eVar 0) (eCons (eC (.int 3)) eNil)))))) (eVar 2)))))))
def m__law_value : DF := mk 2 7 g__law_value
theorem fd__law_value {P : Program} {w : World} {K : PySem.W.Frag} {mg : Str → Option Value} {base : Heap} {tbs : List Addr} (B : BltG mg) (F__law_draw : Fd P w base ⟨K, mg, tbs⟩ 2 "_law_draw" 2 (m__law_draw)) (F__law_any : Fd P w base ⟨K, mg, tbs⟩ 12 "_law_any" 2 (m__law_any 8)) (F__law_pick : Fd P w base ⟨K, mg, tbs⟩ 3 "_law_pick" 2 (m__law_pick)) (D : DefP K mg "_law_value" s__law_value ["deck", "run"] (none) []) : FdK P w base ⟨K, mg, tbs⟩ 13 "_law_value" 2 m__law_value [] := by
  have nd : (["deck", "run", "text", "sort", "turn", "at", "hand"] : List Str).Nodup := by decide +kernel
  exact fd_ofP (N := ["deck", "run", "text", "sort", "turn", "at", "hand"]) D ⟨rfl, rfl, rfl, by decide +kernel, rfl, by decide +kernel, by decide +kernel⟩ (fun f cdv A outer s H E hcode pl tk hp => by exact (jss_cons (js_par (i := 2) (j := 3) (by rfl) nd (j_cons (j_mt PySem.F.plainAttrs_str PySem.F.slot_str_join PySem.F.type_str_join mr_join j_str (j_cons (j_lc (own := [("hand", 6)]) (by rfl) nd (ji_seq (j_var 1)) (blkOk_by (N := ["deck", "run", "text", "sort", "turn", "at", "hand"]) (sc := defScope s__law_value) (by decide +kernel)) gok_nm (fun _ _ _ _ _ => by exact (g_nm 6 nd (hx := Or.inl rfl) (hf := Or.inr rfl))) (fun _ _ _ _ _ => by exact jts_nil) (fun _ _ _ _ _ => by exact (j_callTy cl_str (by rfl) B.b_str (by decide +kernel) (j_cons (j_var 6) j_nil)))) j_nil)) (j_cons (j_fd F__law_draw ⟨pl.room.mono (by first | decide | omega), pl.gd⟩ tk (by rfl) (j_cons (j_var 0) (j_cons j_int j_nil))) j_nil))) (jss_cons (js_if (j_tcmp (or_eq (by exact pl.u64)) (j_var 3) j_int) (jss_one (js_ret (j_fd F__law_any ⟨pl.room.mono (by first | decide | omega), pl.gd⟩ tk (by rfl) (j_cons (j_var 0) (j_cons j_int j_nil))))) jss_nil) (jss_cons (js_if (j_tcmp (or_eq (by exact pl.u64)) (j_var 3) j_int) (jss_one (js_ret (j_var 1))) jss_nil) (jss_cons (js_for hp (by rfl) (ji_range (by rfl) B.b_range (j_if (j_tcmp or_gt (j_var 3) j_int) (j_fd F__law_draw ⟨pl.room.mono (by first | decide | omega), pl.gd⟩ tk (by rfl) (j_cons (j_var 0) (j_cons j_int j_nil))) j_int)) (g_nm 4 nd) (jss_cons (js_set (i := 5) nd (j_fd F__law_draw ⟨pl.room.mono (by first | decide | omega), pl.gd⟩ tk (by rfl) (j_cons (j_var 0) (j_cons (j_op or_add (j_callB cl_len (by rfl) B.b_len (by decide +kernel) (j_cons (j_var 2) j_nil)) j_int) j_nil)))) (jss_one (js_set (i := 2) nd (j_op or_add (j_op or_add (j_sl sr_sl (j_var 2) jo_none (jo_some (j_var 5))) (j_fd F__law_pick ⟨pl.room.mono (by first | decide | omega), pl.gd⟩ tk (by rfl) (j_cons (j_var 0) (j_cons (j_lst (j_cons j_str (j_cons j_str (j_cons j_str (j_cons j_str (j_cons j_str (j_cons j_str (j_cons j_str (j_cons j_str j_nil))))))))) j_nil)))) (j_sl sr_sl (j_var 2) (jo_some (j_var 5)) jo_none)))))) (jss_one (js_ret (j_if (j_tcmp (or_eq (by exact pl.u64)) (j_var 3) j_int) (j_op or_add (j_var 2) (j_op or_mulS j_str (j_op or_add (j_op or_sub j_int (j_callB cl_len (by rfl) B.b_len (by decide +kernel) (j_cons (j_var 2) j_nil))) (j_fd F__law_draw ⟨pl.room.mono (by first | decide | omega), pl.gd⟩ tk (by rfl) (j_cons (j_var 0) (j_cons j_int j_nil)))))) (j_var 2)))))))))
abbrev s__law_due : Stmt := top 16
def g__law_due : DS := (sSeq (sIf (tNotD (tTru (eIsi "str" (eVar 0)))) (sRet (eTup (eCons (eC (.str "text")) (eCons (eC (.int 0)) eNil)))) sNx) (sSeq (sAsg (gNm 1) (eLc (iEnumPS (eVar 0)) (gTp 2 (gsCons (gNm 2) (gsCons (gNm 3) gsNil))) (tOrD (tV (eOp opNotIn (eVar 3) (eC (.str "01234")))) (tV (eOp opEq (eVar 2) (eC (.int 4000))))) (eVar 2) [2, 3])) (sRet (eIf (tV (eOp opNe (eVar 1) (eLst eNil))) (eTup (eCons (eC (.str "text")) (eCons (eOp opIx (eVar 1) (eC (.int 0))) eNil))) (eTup (eCons (eC (.str "told")) (eCons (eCall fTuple (eCons (eLc (iSeq (eVar 0)) (gNm 3) tYesD (eCall fIntS (eCons (eVar 3) eNil)) [3]) eNil)) eNil)))))))
def m__law_due : DF := mk 1 4 g__law_due
theorem fd__law_due {P : Program} {w : World} {K : PySem.W.Frag} {mg : Str → Option Value} {base : Heap} {tbs : List Addr} (B : BltG mg) (D : DefP K mg "_law_due" s__law_due ["value"] (none) []) : FdK P w base ⟨K, mg, tbs⟩ 2 "_law_due" 1 m__law_due [] := by
  have nd : (["value", "wrong", "place", "sign"] : List Str).Nodup := by decide +kernel
  exact fd_ofP (N := ["value", "wrong", "place", "sign"]) D ⟨rfl, rfl, rfl, by decide +kernel, rfl, by decide +kernel, by decide +kernel⟩ (fun f cdv A outer s H E hcode pl tk hp => by exact (jss_cons (js_if (j_not (j_tru (j_isi (n := "str") (by simp) (j_var 0) B.b_isinstance B.b_str (by decide +kernel)))) (jss_one (js_ret (j_tup (j_cons j_str (j_cons j_int j_nil))))) jss_nil) (jss_cons (js_setLc (i := 1) (own := [("place", 2), ("sign", 3)]) (by rfl) nd (ji_enumS (by rfl) B.b_enumerate (j_var 0)) (blkOk_by (N := ["value", "wrong", "place", "sign"]) (sc := defScope s__law_due) (by decide +kernel)) (gok_tp (gok_cons gok_nm (gok_cons gok_nm gok_nil))) (fun _ _ _ _ _ => by exact (g_tp (by rfl) (gs_cons (g_nm 2 nd (hx := Or.inl rfl) (hf := Or.inr rfl)) (gs_cons (g_nm 3 nd (hx := Or.inl rfl) (hf := Or.inr rfl)) gs_nil)))) (fun _ _ _ _ _ => by exact (jts_one (j_wt (j_or (j_tcmp (or_notIn (by exact pl.u65)) (j_var 3) j_str) (j_or1 (j_tcmp (or_eq (by exact pl.u64)) (j_var 2) j_int)))))) (fun _ _ _ _ _ => by exact (j_var 2))) (jss_one (js_ret (j_if (j_tcmp (or_ne (by exact pl.u64)) (j_var 1) (j_lst j_nil)) (j_tup (j_cons j_str (j_cons (j_ix (ir_ix (by exact pl.u1)) (j_var 1) j_int) j_nil))) (j_tup (j_cons j_str (j_cons (j_callTy cl_tuple (by rfl) B.b_tuple (by decide +kernel) (j_cons (j_lc (own := [("sign", 3)]) (by rfl) nd (ji_seq (j_var 0)) (blkOk_by (N := ["value", "wrong", "place", "sign"]) (sc := defScope s__law_due) (by decide +kernel)) gok_nm (fun _ _ _ _ _ => by exact (g_nm 3 nd (hx := Or.inl rfl) (hf := Or.inr rfl))) (fun _ _ _ _ _ => by exact jts_nil) (fun _ _ _ _ _ => by exact (j_callTy cl_intS (by rfl) B.b_int (by decide +kernel) (j_cons (j_var 3) j_nil)))) j_nil)) j_nil)))))))))
abbrev s__law_heard : Stmt := top 17
def g__law_heard : DS := (sTry 2 [("WayError", false), ("BadText", true)] (sRet (eTup (eCons (eC (.str "told")) (eCons (eIf (tTru (eVar 1)) (eCallK (m_read_run) [0] (eCons (eVar 0) eNil)) (eCallF (m_read_run) (eCons (eVar 0) eNil))) eNil)))) (xRetT (qCons (qC (.str "text")) (qCons (qIf (qIsi [("WayError", true), ("BadText", true)]) (qFld ["BadText"] "place") (qC .non)) qNil))))
def m__law_heard : DF := mk 2 3 g__law_heard
theorem fd__law_heard {P : Program} {w : World} {K : PySem.W.Frag} {mg : Str → Option Value} {base : Heap} {tbs : List Addr} (B : BltG mg) (F_read_run : Fd P w base ⟨K, mg, tbs⟩ 3 "read_run" 1 (m_read_run)) (K_read_run : Kd P w base ⟨K, mg, tbs⟩ 3 "read_run" 1 (m_read_run) ["value"] [0]) (T_BadText : ExmTab K mg "BadText" [("WayError", false), ("BadText", true)]) (I_WayError : IsiTab K mg "WayError" [("WayError", true), ("BadText", true)]) (L_place : FldTab K mg "place" ["BadText"]) (D : DefP K mg "_law_heard" s__law_heard ["value", "is_named"] (none) []) : FdK P w base ⟨K, mg, tbs⟩ 4 "_law_heard" 2 m__law_heard [] := by
  have nd : (["value", "is_named", "slip"] : List Str).Nodup := by decide +kernel
  exact fd_ofP (N := ["value", "is_named", "slip"]) D ⟨rfl, rfl, rfl, by decide +kernel, rfl, by decide +kernel, by decide +kernel⟩ (fun f cdv A outer s H E hcode pl tk hp => by exact (jss_one (js_try_as (i := 2) T_BadText (by rfl) rfl rfl nd tk (fun _ _ _ tk hp => by exact (jss_one (js_ret (j_tup (j_cons j_str (j_cons (j_if (j_tru (j_var 1)) (j_kd (ks := ["value"]) K_read_run ⟨pl.room.mono (by first | decide | omega), pl.gd⟩ tk (by rfl) (jk_cons (j_var 0) jk_nil)) (j_fd F_read_run ⟨pl.room.mono (by first | decide | omega), pl.gd⟩ tk (by rfl) (j_cons (j_var 0) j_nil))) j_nil)))))) (fun _ _ _ _ _ hz hf => by exact (x_retT (q_cons q_str (q_cons (q_if (q_isi I_WayError hz hf B.b_isinstance) (q_fld L_place hz hf) q_non) q_nil)))))))
abbrev s_law : Stmt := top 18
def g_law : DS := (sSeq (sAsg (gNm 1) (eCallF (m__law_deck) (eCons (eVar 0) eNil))) (sSeq (sFor (iRange1 (eC (.int 8))) (gNm 2) (sSeq (sPar 3 4 (eCons (eCallF (m__law_row) (eCons (eVar 1) eNil)) (eCons (eCall fTuple (eCons (eLc (iRange1 (eCallF (m__law_draw) (eCons (eVar 1) (eCons (eC (.int 4)) eNil)))) (gNm 11) tYesD (eCallF (m__law_draw) (eCons (eVar 1) (eCons (eC (.int 5)) eNil))) [11]) eNil)) eNil))) (sSeq (sAsg (gNm 5) (eCallF (m__law_value) (eCons (eVar 1) (eCons (eVar 3) eNil)))) (sSeq (sPar 6 7 (eCons (eCallF (m__law_due) (eCons (eVar 5) eNil)) (eCons (eCall fRepr (eCons (eLst (eCons (eVar 3) (eCons (eVar 5) eNil))) eNil)) eNil))) (sSeq (sPar 8 9 (eCons (eMt "str" mJoin (eC (.str "")) (eCons (eLc (iSeq (eVar 3)) (gNm 12) tYesD (eCall fStr (eCons (eVar 12) eNil)) [12]) eNil)) (eCons (eMt "str" mJoin (eC (.str "")) (eCons (eLc (iSeq (eVar 4)) (gNm 12) tYesD (eCall fStr (eCons (eVar 12) eNil)) [12]) eNil)) eNil))) (sSeq (sAsg (gNm 10) (eIf (tV (eOp opEq (eVar 2) (eC (.int 3)))) (eCallK (m_run_text) [0] (eCons (eVar 3) eNil)) (eCallF (m_run_text) (eCons (eVar 3) eNil)))) (sSeq (sIf (tOrD (tNotD (tTru (eCallF (m__law_same 8) (eCons (eVar 10) (eCons (eVar 8) eNil))))) (tOrD (tNotD (tTru (eCallF (m__law_same 8) (eCons (eCallF (m_run_text) (eCons (eVar 3) eNil)) (eCons (eVar 8) eNil))))) (tNotD (tTru (eCallF (m__law_same 8) (eCons (eCallF (m_run_text) (eCons (eVar 4) eNil)) (eCons (eVar 9) eNil))))))) (sRet (eC (.bl false))) sNx) (sSeq (sIf (tOrD (tNotD (tTru (eCallF (m__law_same 8) (eCons (eCallF (m_read_run) (eCons (eVar 8) eNil)) (eCons (eVar 3) eNil))))) (tNotD (tTru (eCallF (m__law_same 8) (eCons (eCallF (m_read_run) (eCons (eVar 9) eNil)) (eCons (eVar 4) eNil)))))) (sRet (eC (.bl false))) sNx) (sSeq (sIf (tOrD (tNotD (tTru (eCallF (m__law_same 8) (eCons (eCallF (m__law_heard) (eCons (eVar 5) (eCons (eOp opEq (eVar 2) (eC (.int 5))) eNil))) (eCons (eVar 6) eNil))))) (tNotD (tTru (eCallF (m__law_same 8) (eCons (eCallF (m__law_heard) (eCons (eVar 5) (eCons (eC (.bl false)) eNil))) (eCons (eVar 6) eNil)))))) (sRet (eC (.bl false))) sNx) (sIf (tV (eOp opNe (eCall fRepr (eCons (eLst (eCons (eVar 3) (eCons (eVar 5) eNil))) eNil)) (eVar 7))) (sRet (eC (.bl false))) sNx)))))))))) (sRet (eC (.bl true)))))
def m_law : DF := mk 1 13 g_law
theorem fd_law {P : Program} {w : World} {K : PySem.W.Frag} {mg : Str → Option Value} {base : Heap} {tbs : List Addr} (B : BltG mg) (F__law_deck : Fd P w base ⟨K, mg, tbs⟩ 2 "_law_deck" 1 (m__law_deck)) (F__law_draw : Fd P w base ⟨K, mg, tbs⟩ 2 "_law_draw" 2 (m__law_draw)) (F__law_row : Fd P w base ⟨K, mg, tbs⟩ 4 "_law_row" 1 (m__law_row)) (F__law_value : Fd P w base ⟨K, mg, tbs⟩ 13 "_law_value" 2 (m__law_value)) (F__law_due : Fd P w base ⟨K, mg, tbs⟩ 2 "_law_due" 1 (m__law_due)) (F_run_text : Fd P w base ⟨K, mg, tbs⟩ 2 "run_text" 1 (m_run_text)) (F__law_same : Fd P w base ⟨K, mg, tbs⟩ 10 "_law_same" 2 (m__law_same 8)) (F_read_run : Fd P w base ⟨K, mg, tbs⟩ 3 "read_run" 1 (m_read_run)) (F__law_heard : Fd P w base ⟨K, mg, tbs⟩ 4 "_law_heard" 2 (m__law_heard)) (K_run_text : Kd P w base ⟨K, mg, tbs⟩ 2 "run_text" 1 (m_run_text) ["run"] [0]) (sys : ∃ o, base.get? sysModules = some o) (D : DefP K mg "law" s_law ["script"] (none) []) : FdK P w base ⟨K, mg, tbs⟩ 14 "law" 1 m_law [] := by
  have nd : (["script", "deck", "turn", "run", "other", "value", "due", "kept", "text", "short", "told", "again", "hand"] : List Str).Nodup := by decide +kernel
  exact fd_ofP (N := ["script", "deck", "turn", "run", "other", "value", "due", "kept", "text", "short", "told", "again", "hand"]) D ⟨rfl, rfl, rfl, by decide +kernel, rfl, by decide +kernel, by decide +kernel⟩ (fun f cdv A outer s H E hcode pl tk hp => by exact (jss_cons (js_set (i := 1) nd (j_fd F__law_deck ⟨pl.room.mono (by first | decide | omega), pl.gd⟩ tk (by rfl) (j_cons (j_var 0) j_nil))) (jss_cons (js_for hp (by rfl) (ji_range (by rfl) B.b_range j_int) (g_nm 2 nd) (jss_cons (js_par (i := 3) (j := 4) (by rfl) nd (j_cons (j_fd F__law_row ⟨pl.room.mono (by first | decide | omega), pl.gd⟩ tk (by rfl) (j_cons (j_var 1) j_nil)) (j_cons (j_callTy cl_tuple (by rfl) B.b_tuple (by decide +kernel) (j_cons (j_lc (own := [("again", 11)]) (by rfl) nd (ji_range (by rfl) B.b_range (j_fd F__law_draw ⟨pl.room.mono (by first | decide | omega), pl.gd⟩ tk (by rfl) (j_cons (j_var 1) (j_cons j_int j_nil)))) (blkOk_by (N := ["script", "deck", "turn", "run", "other", "value", "due", "kept", "text", "short", "told", "again", "hand"]) (sc := defScope s_law) (by decide +kernel)) gok_nm (fun _ _ _ _ _ => by exact (g_nm 11 nd (hx := Or.inl rfl) (hf := Or.inr rfl))) (fun _ _ _ _ _ => by exact jts_nil) (fun _ _ _ _ _ => by exact (j_fd F__law_draw ⟨pl.room.mono (by first | decide | omega), pl.gd⟩ takes0 (by rfl) (j_cons (j_var 1) (j_cons j_int j_nil))))) j_nil)) j_nil))) (jss_cons (js_set (i := 5) nd (j_fd F__law_value ⟨pl.room.mono (by first | decide | omega), pl.gd⟩ tk (by rfl) (j_cons (j_var 1) (j_cons (j_var 3) j_nil)))) (jss_cons (js_par (i := 6) (j := 7) (by rfl) nd (j_cons (j_fd F__law_due ⟨pl.room.mono (by first | decide | omega), pl.gd⟩ tk (by rfl) (j_cons (j_var 5) j_nil)) (j_cons (j_callB (cl_repr (by exact pl.gd) (by exact pl.u102) sys) (by rfl) B.b_repr (by decide +kernel) (j_cons (j_lst (j_cons (j_var 3) (j_cons (j_var 5) j_nil))) j_nil)) j_nil))) (jss_cons (js_par (i := 8) (j := 9) (by rfl) nd (j_cons (j_mt PySem.F.plainAttrs_str PySem.F.slot_str_join PySem.F.type_str_join mr_join j_str (j_cons (j_lc (own := [("hand", 12)]) (by rfl) nd (ji_seq (j_var 3)) (blkOk_by (N := ["script", "deck", "turn", "run", "other", "value", "due", "kept", "text", "short", "told", "again", "hand"]) (sc := defScope s_law) (by decide +kernel)) gok_nm (fun _ _ _ _ _ => by exact (g_nm 12 nd (hx := Or.inl rfl) (hf := Or.inr rfl))) (fun _ _ _ _ _ => by exact jts_nil) (fun _ _ _ _ _ => by exact (j_callTy cl_str (by rfl) B.b_str (by decide +kernel) (j_cons (j_var 12) j_nil)))) j_nil)) (j_cons (j_mt PySem.F.plainAttrs_str PySem.F.slot_str_join PySem.F.type_str_join mr_join j_str (j_cons (j_lc (own := [("hand", 12)]) (by rfl) nd (ji_seq (j_var 4)) (blkOk_by (N := ["script", "deck", "turn", "run", "other", "value", "due", "kept", "text", "short", "told", "again", "hand"]) (sc := defScope s_law) (by decide +kernel)) gok_nm (fun _ _ _ _ _ => by exact (g_nm 12 nd (hx := Or.inl rfl) (hf := Or.inr rfl))) (fun _ _ _ _ _ => by exact jts_nil) (fun _ _ _ _ _ => by exact (j_callTy cl_str (by rfl) B.b_str (by decide +kernel) (j_cons (j_var 12) j_nil)))) j_nil)) j_nil))) (jss_cons (js_set (i := 10) nd (j_if (j_tcmp (or_eq (by exact pl.u64)) (j_var 2) j_int) (j_kd (ks := ["run"]) K_run_text ⟨pl.room.mono (by first | decide | omega), pl.gd⟩ tk (by rfl) (jk_cons (j_var 3) jk_nil)) (j_fd F_run_text ⟨pl.room.mono (by first | decide | omega), pl.gd⟩ tk (by rfl) (j_cons (j_var 3) j_nil)))) (jss_cons (js_if (j_wt (j_or (j_not (j_tru (j_fd F__law_same ⟨pl.room.mono (by first | decide | omega), pl.gd⟩ tk (by rfl) (j_cons (j_var 10) (j_cons (j_var 8) j_nil))))) (j_or (j_not (j_tru (j_fd F__law_same ⟨pl.room.mono (by first | decide | omega), pl.gd⟩ tk (by rfl) (j_cons (j_fd F_run_text ⟨pl.room.mono (by first | decide | omega), pl.gd⟩ tk (by rfl) (j_cons (j_var 3) j_nil)) (j_cons (j_var 8) j_nil))))) (j_or1 (j_not (j_tru (j_fd F__law_same ⟨pl.room.mono (by first | decide | omega), pl.gd⟩ tk (by rfl) (j_cons (j_fd F_run_text ⟨pl.room.mono (by first | decide | omega), pl.gd⟩ tk (by rfl) (j_cons (j_var 4) j_nil)) (j_cons (j_var 9) j_nil))))))))) (jss_one (js_ret j_bl)) jss_nil) (jss_cons (js_if (j_wt (j_or (j_not (j_tru (j_fd F__law_same ⟨pl.room.mono (by first | decide | omega), pl.gd⟩ tk (by rfl) (j_cons (j_fd F_read_run ⟨pl.room.mono (by first | decide | omega), pl.gd⟩ tk (by rfl) (j_cons (j_var 8) j_nil)) (j_cons (j_var 3) j_nil))))) (j_or1 (j_not (j_tru (j_fd F__law_same ⟨pl.room.mono (by first | decide | omega), pl.gd⟩ tk (by rfl) (j_cons (j_fd F_read_run ⟨pl.room.mono (by first | decide | omega), pl.gd⟩ tk (by rfl) (j_cons (j_var 9) j_nil)) (j_cons (j_var 4) j_nil)))))))) (jss_one (js_ret j_bl)) jss_nil) (jss_cons (js_if (j_wt (j_or (j_not (j_tru (j_fd F__law_same ⟨pl.room.mono (by first | decide | omega), pl.gd⟩ tk (by rfl) (j_cons (j_fd F__law_heard ⟨pl.room.mono (by first | decide | omega), pl.gd⟩ tk (by rfl) (j_cons (j_var 5) (j_cons (j_cmp (or_eq (by exact pl.u64)) (j_var 2) j_int) j_nil))) (j_cons (j_var 6) j_nil))))) (j_or1 (j_not (j_tru (j_fd F__law_same ⟨pl.room.mono (by first | decide | omega), pl.gd⟩ tk (by rfl) (j_cons (j_fd F__law_heard ⟨pl.room.mono (by first | decide | omega), pl.gd⟩ tk (by rfl) (j_cons (j_var 5) (j_cons j_bl j_nil))) (j_cons (j_var 6) j_nil)))))))) (jss_one (js_ret j_bl)) jss_nil) (jss_one (js_if (j_tcmp (or_ne (by exact pl.u64)) (j_callB (cl_repr (by exact pl.gd) (by exact pl.u102) sys) (by rfl) B.b_repr (by decide +kernel) (j_cons (j_lst (j_cons (j_var 3) (j_cons (j_var 5) j_nil))) j_nil)) (j_var 7)) (jss_one (js_ret j_bl)) jss_nil))))))))))) (jss_one (js_ret j_bl)))))
end Dn
namespace Dn
open PySem PySem.Spec PyProof.Rows L2 PySem.SeqAt

theorem draw_small {d : Nat} {n : Int} {h : PH} (hn : n < 2) : m__law_draw [.ref d, .int n] h = .ok (.int 0) h := by
  refine (mk_at (show [PV.ref d, PV.int n].length = 2 from rfl)).trans ?_
  have e : runB g__law_draw 5 [.ref d, .int n] h = .ok (.int 0) h := by
    simp [runB, args0, g__law_draw, sSeq, sIf, tV, eOp, eVar, eC, opLt, cmpI, Out.of, Out.then, sRet, hn]
  rw [e]
  exact gcN_len rfl
/-- the turns after the great numbers -/
def seal1 (a t : Int) : Int := (a + t * 2654435761).fmod 4294967291
def seal2 (a t : Int) : Int := (seal1 a t * seal1 a t + t * 362437 + 5).fmod 4294967279
def seal3 (a t n : Int) : Int := (((seal2 a t * seal2 a t + seal1 a t).fmod 4294967231).fdiv 4096).fmod n
def dnev_1 := And.intro @OutS.seq_nx (And.intro @OutS.seq_rt (And.intro @OutS.seq_bk (And.intro @OutS.seq_ct (And.intro @OutS.seq_err (And.intro @Out.then_ok' (And.intro @Out.then_err' (And.intro @Out.of_some' (And.intro @eC_ap (And.intro @eVar_ap (And.intro @varO_some (And.intro @eOp_ap (And.intro @eUn_ap (And.intro @eCall_ap (And.intro @eCallF_ap (And.intro @eNil_ap (And.intro @eCons_ap (And.intro @eTup_ap (And.intro @eLst_ap (And.intro @lstO_nil (And.intro @blO_bl (And.intro @tV_ap (And.intro @iteO_true (And.intro @iteO_false (And.intro @tAndD_ap (And.intro @tOrD_ap (And.intro @tNotD_ap (And.intro @eIf_ap (And.intro @tYesD_ap (And.intro @sNx_ap (And.intro @sSeq_ap (And.intro @sDrop_ap (And.intro @sRet_ap (And.intro @asgO_some (And.intro @sAsg_ap (And.intro @gNm_ap (And.intro @hO_some (And.intro @sAsgH_ap (And.intro @opLt_ap (And.intro @opLe_ap (And.intro @opGt_ap (And.intro @opGe_ap (And.intro @opAdd_ap (And.intro @opSub_ap (And.intro @opIx_ref (And.intro @ixO_lst (And.intro @ixO_str (And.intro @opIx_tup (And.intro @map_some' (@fInt_ap)))))))))))))))))))))))))))))))))))))))))))))))))
def dnif_1 := @sIf_ap
theorem draw_turn {d g : Nat} {a t n : Int} {w : Bool} {h : PH} (D : Deck d g [] a t w h) (hn : ¬ n < 2) :
    m__law_draw [.ref d, .int n] h = .ok (.int (seal3 a (t + 1) n)) (h.set d (.dK (deckP (.ref g) (.int a) (.int (t + 1)) w))) := by
  refine (mk_at (show [PV.ref d, PV.int n].length = 2 from rfl)).trans ?_
  have ld : d < h.length := (List.getElem?_eq_some_iff.mp D.dic).1
  have lg : g < h.length := (List.getElem?_eq_some_iff.mp D.gre).1
  have e1 : (h ++ [MO.lst []])[d]? = h[d]? := List.getElem?_append_left ld
  have e2 : (h ++ [MO.lst []])[g]? = h[g]? := List.getElem?_append_left lg
  have e3 : (h ++ [MO.lst []])[h.length]? = some (MO.lst []) := by simp
  have e : runB g__law_draw 5 [.ref d, .int n] h = .ok (.int (seal3 a (t + 1) n)) ((h ++ [MO.lst []]).set d (.dK (deckP (.ref g) (.int a) (.int (t + 1)) w))) := by
    have hg := D.gre
    have hd := D.dic
    have a0 : args0 5 [PV.ref d, PV.int n] = [some (.ref d), some (.int n), none, none, none] := rfl
    have hne := ne_nil (h := h ++ [MO.lst []]) (e2.trans hg) e3
    have dn : decide (List.map PV.int [] ≠ []) = false := rfl
    rw [dn] at hne
    have hd2 := e1.trans hd
    have ld2 : d < (h ++ [MO.lst []]).length := by simp; omega
    have hd3 : ((h ++ [MO.lst []]).set d (.dK (deckP (.ref g) (.int a) (.int (t + 1)) w)))[d]? = some (.dK (deckP (.ref g) (.int a) (.int (t + 1)) w)) := List.getElem?_set_self ld2
    have m1 : ∀ (i : Int) (h : PH), opMul (.int i) (.int 2654435761) h = some (.int (i * 2654435761), h) := fun _ _ => opMul_r rfl
    have m2 : ∀ (i : Int) (h : PH), opMul (.int i) (.int 362437) h = some (.int (i * 362437), h) := fun _ _ => opMul_r rfl
    have r1 : ∀ (i : Int) (h : PH), opMod (.int i) (.int 4294967291) h = some (.int (i.fmod 4294967291), h) := fun _ _ => opMod_ap (by decide)
    have r2 : ∀ (i : Int) (h : PH), opMod (.int i) (.int 4294967279) h = some (.int (i.fmod 4294967279), h) := fun _ _ => opMod_ap (by decide)
    have r3 : ∀ (i : Int) (h : PH), opMod (.int i) (.int 4294967231) h = some (.int (i.fmod 4294967231), h) := fun _ _ => opMod_ap (by decide)
    have r4 : ∀ (i : Int) (h : PH), opFdiv (.int i) (.int 4096) h = some (.int (i.fdiv 4096), h) := fun _ _ => opFdiv_ap (by decide) (by decide)
    have r5 : ∀ (i : Int) (h : PH), opMod (.int i) (.int n) h = some (.int (i.fmod n), h) := fun _ _ => opMod_ap (by omega)
    have s1 : ∀ (i : Int) (h : PH), opMul (.int (i.fmod 4294967291)) (.int (i.fmod 4294967291)) h = some (.int (i.fmod 4294967291 * i.fmod 4294967291), h) := fun i _ => opMul_r (smallB_of (by have := fm i (b := 4294967291) (by decide); omega) (by have := fm i (b := 4294967291) (by decide); omega))
    have s2 : ∀ (i : Int) (h : PH), opMul (.int (i.fmod 4294967279)) (.int (i.fmod 4294967279)) h = some (.int (i.fmod 4294967279 * i.fmod 4294967279), h) := fun i _ => opMul_r (smallB_of (by have := fm i (b := 4294967279) (by decide); omega) (by have := fm i (b := 4294967279) (by decide); omega))
    have st : ∀ (v : PV), fSet (.ref d) (.str "turn") v (h ++ [MO.lst []]) = some ((h ++ [MO.lst []]).set d (.dK (putG (deckP (.ref g) (.int a) (.int t) w) (.inr "turn") v))) := fun v => by
      unfold fSet
      dsimp only
      rw [hd2]
      cases w <;> rfl
    unfold runB
    rw [a0]
    simp only [Out.bind_ok, Out.bind_err, Out.bind_no, dnev_1, dnif_1, g__law_draw, List.getElem?_cons_zero, List.getElem?_cons_succ, decide_eq_false hn, hd, dk_great, dk_seal, dk_turn, hne, hd2, hSub, st, dk_put, hd3, m1, m2, r1, r2, r3, r4, r5, s1, s2, setP, List.set_cons_zero, List.set_cons_succ]
    rfl
  rw [e]
  have lt : ((h ++ [MO.lst []]).set d (.dK (deckP (.ref g) (.int a) (.int (t + 1)) w))).take h.length = h.set d (.dK (deckP (.ref g) (.int a) (.int (t + 1)) w)) := by
    rw [List.take_set, List.take_left']
    rfl
  have z := gcN_cut (h := h) (h' := (h ++ [MO.lst []]).set d (.dK (deckP (.ref g) (.int a) (.int (t + 1)) w))) (v := .int (seal3 a (t + 1) n)) (by simp) rfl (by
    rw [lt]
    exact Cl.set (lowr_deck lg) d D.cl)
  rw [z, lt]
theorem Deck.turn {d g : Nat} {gs : List Int} {a t u : Int} {w : Bool} {h : PH} (D : Deck d g gs a t w h) : Deck d g gs a u w (h.set d (.dK (deckP (.ref g) (.int a) (.int u) w))) := by
  have ld : d < h.length := (List.getElem?_eq_some_iff.mp D.dic).1
  have lg : g < h.length := (List.getElem?_eq_some_iff.mp D.gre).1
  exact ⟨List.getElem?_set_self ld, by rw [List.getElem?_set_ne D.ne]; exact D.gre, D.pos, D.few, by rw [List.length_set]; exact Cl.set (lowr_deck lg) d D.cl⟩
end Dn
namespace Dn
open PySem PySem.Spec PyProof.Rows L2 PySem.SeqAt
theorem eMt_ap (T : String) (f : FM) (o : DE) (as : DA) (s : Sl) (h : PH) : eMt T f o as s h = (o s h).bind fun x h => iteO (decide (kindP h x = some T)) ((as s h).bind fun xs h => Out.of (f x xs h)) .no := by
  unfold eMt
  congr 1
  funext x h
  unfold iteO
  by_cases c : kindP h x = some T
  · rw [if_pos c, if_pos (decide_eq_true c)]
  · rw [if_neg c, if_neg (by rw [decide_eq_false c]; exact Bool.false_ne_true)]
theorem kind_lst {h : PH} {n : Nat} {xs : List PV} (e : h[n]? = some (.lst xs)) : kindP h (.ref n) = some "list" := by
  unfold kindP
  dsimp only
  rw [e]
theorem mPop_ap {h : PH} {n : Nat} {xs : List PV} {x : PV} (e : h[n]? = some (.lst (xs ++ [x]))) : mPop (.ref n) [] h = some (x, h.set n (.lst xs)) := by
  unfold mPop lstAt
  dsimp only
  rw [e]
  simp
theorem mAppend_ap {h : PH} {n : Nat} {xs : List PV} {x : PV} (e : h[n]? = some (.lst xs)) (l : xs.length < 16777216) : mAppend (.ref n) [x] h = some (.non, h.set n (.lst (xs ++ [x]))) := by
  unfold mAppend lstAt
  dsimp only
  rw [e]
  simp [l]
def less (pre : List Int) (c n : Int) : List Int := if n ≤ c then pre ++ [c.fdiv n] else pre
def dnev_2 := @eMt_ap
theorem draw_great {d g : Nat} {pre : List Int} {c a t n : Int} {w : Bool} {h : PH} (D : Deck d g (pre ++ [c]) a t w h) (hn : ¬ n < 2) (hn2 : n < 1073741824) :
    m__law_draw [.ref d, .int n] h = .ok (.int (c.fmod n)) (h.set g (.lst ((less pre c n).map PV.int))) := by
  refine (mk_at (show [PV.ref d, PV.int n].length = 2 from rfl)).trans ?_
  have ld : d < h.length := (List.getElem?_eq_some_iff.mp D.dic).1
  have lg : g < h.length := (List.getElem?_eq_some_iff.mp D.gre).1
  have hd := (List.getElem?_append_left (l₂ := [MO.lst []]) ld).trans D.dic
  have hg := (List.getElem?_append_left (l₂ := [MO.lst []]) lg).trans D.gre
  have hg' : (h ++ [MO.lst []])[g]? = some (.lst (pre.map PV.int ++ [.int c])) := by rw [hg]; simp
  have e3 : (h ++ [MO.lst []])[h.length]? = some (MO.lst []) := by simp
  have hne := ne_nil hg e3
  have dn : decide (List.map PV.int (pre ++ [c]) ≠ []) = true := by simp
  rw [dn] at hne
  have lg2 : g < (h ++ [MO.lst []]).length := by simp; omega
  have pop := mPop_ap hg'
  have hg3 : ((h ++ [MO.lst []]).set g (.lst (pre.map PV.int)))[g]? = some (.lst (pre.map PV.int)) := List.getElem?_set_self lg2
  have hd3 : ((h ++ [MO.lst []]).set g (.lst (pre.map PV.int)))[d]? = some (.dK (deckP (.ref g) (.int a) (.int t) w)) := by
    rw [List.getElem?_set_ne D.ne.symm]
    exact hd
  have lp : (pre.map PV.int).length < 16777216 := by
    have := D.few
    simp at this ⊢
    omega
  have app := mAppend_ap (x := .int (c.fdiv n)) hg3 lp
  have r4 : ∀ (i : Int) (h : PH), opFdiv (.int i) (.int n) h = some (.int (i.fdiv n), h) := fun _ _ => opFdiv_ap (by omega) (by omega)
  have r5 : ∀ (i : Int) (h : PH), opMod (.int i) (.int n) h = some (.int (i.fmod n), h) := fun _ _ => opMod_ap (by omega)
  have k1 := kind_lst hg
  have k3 := kind_lst hg3
  have e : runB g__law_draw 5 [.ref d, .int n] h = .ok (.int (c.fmod n)) ((h ++ [MO.lst []]).set g (.lst ((less pre c n).map PV.int))) := by
    have a0 : args0 5 [PV.ref d, PV.int n] = [some (.ref d), some (.int n), none, none, none] := rfl
    unfold runB
    rw [a0]
    by_cases cn : n ≤ c
    · have el : less pre c n = pre ++ [c.fdiv n] := if_pos cn
      rw [el, List.map_append]
      simp only [Out.bind_ok, Out.bind_err, Out.bind_no, dnev_1, dnev_2, dnif_1, g__law_draw, List.getElem?_cons_zero, List.getElem?_cons_succ, decide_eq_false hn, D.dic, hd, dk_great, dk_seal, dk_turn, hne, k1, k3, pop, hd3, app, r4, r5, decide_eq_true cn, setP, List.set_cons_zero, List.set_cons_succ, decide_true, List.set_set]
      rfl
    · have el : less pre c n = pre := if_neg cn
      rw [el]
      simp only [Out.bind_ok, Out.bind_err, Out.bind_no, dnev_1, dnev_2, dnif_1, g__law_draw, List.getElem?_cons_zero, List.getElem?_cons_succ, decide_eq_false hn, D.dic, hd, dk_great, dk_seal, dk_turn, hne, k1, k3, pop, hd3, app, r4, r5, decide_eq_false cn, setP, List.set_cons_zero, List.set_cons_succ, decide_true, List.set_set]
  rw [e]
  have lt : ((h ++ [MO.lst []]).set g (.lst ((less pre c n).map PV.int))).take h.length = h.set g (.lst ((less pre c n).map PV.int)) := by
    rw [List.take_set, List.take_left']
    rfl
  have z := gcN_cut (h := h) (h' := (h ++ [MO.lst []]).set g (.lst ((less pre c n).map PV.int))) (v := .int (c.fmod n)) (by simp) rfl (by
    rw [lt]
    exact Cl.set (o := .lst ((less pre c n).map PV.int)) (show MO.lowr h.length (.lst ((less pre c n).map PV.int)) = true from lowrs_ints _ _) g D.cl)
  rw [z, lt]
/-- h2 is h but for the deck's two objects -/
structure Like (d g : Nat) (h h2 : PH) : Prop where
  len : h2.length = h.length
  at_ : ∀ i, i ≠ d → i ≠ g → h2[i]? = h[i]?
theorem Like.refl {d g : Nat} {h : PH} : Like d g h h := ⟨rfl, fun _ _ _ => rfl⟩
theorem Like.trans {d g : Nat} {h h2 h3 : PH} (a : Like d g h h2) (b : Like d g h2 h3) : Like d g h h3 := ⟨b.len.trans a.len, fun i x y => (b.at_ i x y).trans (a.at_ i x y)⟩
/-- a deck of whatever numbers -/
def Dk (d g : Nat) (h : PH) : Prop := ∃ gs a t w, Deck d g gs a t w h
/-- a draw: a number below many, or 0 -/
theorem draw_ok {d g : Nat} {n : Int} {h : PH} (D : Dk d g h) (hn2 : n < 1073741824) : ∃ k h2, m__law_draw [.ref d, .int n] h = .ok (.int k) h2 ∧ Dk d g h2 ∧ Like d g h h2 ∧ 0 ≤ k ∧ (n < 2 → k = 0) ∧ (2 ≤ n → k < n) := by
  obtain ⟨gs, a, t, w, D⟩ := D
  by_cases hn : n < 2
  · exact ⟨0, h, draw_small hn, ⟨gs, a, t, w, D⟩, .refl, by omega, fun _ => rfl, fun q => by omega⟩
  have ld : d < h.length := (List.getElem?_eq_some_iff.mp D.dic).1
  have lg : g < h.length := (List.getElem?_eq_some_iff.mp D.gre).1
  rcases List.eq_nil_or_concat gs with e | ⟨pre, c, e⟩
  · subst e
    refine ⟨_, _, draw_turn D hn, ⟨_, _, _, _, D.turn⟩, ⟨List.length_set, fun i x y => List.getElem?_set_ne (Ne.symm x)⟩, ?_, fun q => absurd q hn, fun _ => ?_⟩
    · exact (fm _ (by omega)).1
    · exact (fm _ (by omega)).2
  · rw [List.concat_eq_append] at e
    subst e
    refine ⟨_, _, draw_great D hn hn2, ⟨less pre c n, a, t, w, ?_⟩, ⟨List.length_set, fun i x y => List.getElem?_set_ne (Ne.symm y)⟩, (fm _ (by omega)).1, fun q => absurd q hn, fun _ => (fm _ (by omega)).2⟩
    refine ⟨by rw [List.getElem?_set_ne D.ne.symm]; exact D.dic, List.getElem?_set_self lg, fun x hx => ?_, ?_, by rw [List.length_set]; exact Cl.set (o := .lst ((less pre c n).map PV.int)) (show MO.lowr h.length (.lst ((less pre c n).map PV.int)) = true from lowrs_ints _ _) g D.cl⟩
    · have hc := D.pos c (by simp)
      unfold less at hx
      split at hx
      · rcases List.mem_append.mp hx with m | m
        · exact D.pos x (by simp [m])
        · rw [List.mem_singleton.mp m]
          exact Int.fdiv_nonneg hc (by omega)
      · exact D.pos x (by simp [hx])
    · have := D.few
      unfold less
      split <;> simp at this ⊢ <;> omega
end Dn
namespace Dn
open PySem PySem.Spec PyProof.Rows L2 PySem.SeqAt
theorem fLen_ref {h : PH} {n : Nat} {xs : List PV} (e : h[n]? = some (.lst xs)) : fLen [.ref n] h = some (.int (xs.length : Nat), h) := by
  unfold fLen seqOf
  dsimp only
  rw [e]
  rfl
theorem fLen_tup {h : PH} {xs : List PV} : fLen [.tup xs] h = some (.int (xs.length : Nat), h) := rfl
theorem atI_at {α : Type} {xs : List α} {k : Int} (h0 : 0 ≤ k) (h1 : k < xs.length) : ∃ x, atI xs k = some x ∧ x ∈ xs := by
  obtain ⟨j, rfl⟩ := Int.eq_ofNat_of_zero_le h0
  have hj : j < xs.length := by omega
  refine ⟨xs[j], ?_, List.getElem_mem hj⟩
  unfold atI ixN
  simp [hj]
/-- a pick of a list: one of its items -/
theorem pick_ok {d g m : Nat} {xs : List PV} {h : PH} (D : Dk d g h) (hm : h[m]? = some (.lst xs)) (md : m ≠ d) (mg : m ≠ g) (hx : xs ≠ []) (hl : xs.length < 1000000000) : ∃ x h2, m__law_pick [.ref d, .ref m] h = .ok x h2 ∧ x ∈ xs ∧ Dk d g h2 ∧ Like d g h h2 := by
  obtain ⟨k, h2, e, D2, L, k0, k1, k2⟩ := draw_ok (n := (xs.length : Nat)) D (by omega)
  have lx : 0 < xs.length := List.length_pos_iff.mpr hx
  obtain ⟨x, ex, mx⟩ := atI_at (xs := xs) (k := k) k0 (by
    by_cases q : ((xs.length : Nat) : Int) < 2
    · have := k1 q
      omega
    · exact k2 (by omega))
  refine ⟨x, h2, ?_, mx, D2, L⟩
  refine (mk_at (show [PV.ref d, PV.ref m].length = 2 from rfl)).trans ?_
  have hm2 := (L.at_ m md mg).trans hm
  have er : runB g__law_pick 2 [.ref d, .ref m] h = .ok x h2 := by
    have a0 : args0 2 [PV.ref d, PV.ref m] = [some (.ref d), some (.ref m)] := rfl
    unfold runB
    rw [a0]
    simp only [Out.bind_ok, Out.bind_err, Out.bind_no, dnev_1, dnev_2, dnif_1, g__law_pick, List.getElem?_cons_zero, List.getElem?_cons_succ, fLen_ref hm, e, hm2, ex]
  rw [er]
  exact gcN_len L.len
end Dn
namespace Dn
open PySem PySem.Spec PyProof.Rows L2 PySem.SeqAt
theorem phLowr_of {n : Nat} : ∀ {h : PH}, (∀ (i : Nat) (o : MO), h[i]? = some o → MO.lowr n o = true) → phLowr n h = true
  | [], _ => rfl
  | x :: r, q => by
    simp only [phLowr, Bool.and_eq_true]
    exact ⟨q 0 x rfl, phLowr_of fun i o e => q (i + 1) o (by simpa using e)⟩
mutual
theorem lowr_mono {n m : Nat} (l : n ≤ m) : ∀ x : PV, x.lowr n = true → x.lowr m = true
  | .non, _ => rfl
  | .bl _, _ => rfl
  | .int _, _ => rfl
  | .str _, _ => rfl
  | .tup xs, e => by
    simp only [PV.lowr] at e ⊢
    exact lowrs_mono l xs e
  | .kt xs, e => by
    simp only [PV.lowr] at e ⊢
    exact lowrs_mono l xs e
  | .fz xs, e => by
    simp only [PV.lowr] at e ⊢
    exact lowrs_mono l xs e
  | .ref k, e => by
    simp only [PV.lowr, decide_eq_true_eq] at e ⊢
    omega
theorem lowrs_mono {n m : Nat} (l : n ≤ m) : ∀ x : List PV, PV.lowrs n x = true → PV.lowrs m x = true
  | [], _ => rfl
  | x :: r, e => by
    simp only [PV.lowrs, Bool.and_eq_true] at e ⊢
    exact ⟨lowr_mono l x e.1, lowrs_mono l r e.2⟩
end
theorem kvLowr_mono {κ : Type} {n m : Nat} (l : n ≤ m) : ∀ x : List (κ × PV), kvLowr n x = true → kvLowr m x = true
  | [], _ => rfl
  | (k, x) :: r, e => by
    simp only [kvLowr, Bool.and_eq_true] at e ⊢
    exact ⟨lowr_mono l x e.1, kvLowr_mono l r e.2⟩
theorem MO.lowr_mono {n m : Nat} (l : n ≤ m) : ∀ x : MO, x.lowr n = true → x.lowr m = true
  | .lst xs, e => lowrs_mono l xs e
  | .dK xs, e => kvLowr_mono l xs e
  | .dT xs, e => kvLowr_mono l xs e
/-- a new object beside the deck -/
theorem Dk.push {d g : Nat} {h : PH} {o : MO} (D : Dk d g h) (ho : o.lowr (h.length + 1) = true) : Dk d g (h ++ [o]) := by
  obtain ⟨gs, a, t, w, D⟩ := D
  have ld : d < h.length := (List.getElem?_eq_some_iff.mp D.dic).1
  have lg : g < h.length := (List.getElem?_eq_some_iff.mp D.gre).1
  refine ⟨gs, a, t, w, (List.getElem?_append_left ld).trans D.dic, (List.getElem?_append_left lg).trans D.gre, D.pos, D.few, phLowr_of fun i p e => ?_⟩
  rw [List.length_append, List.length_singleton]
  by_cases c : i < h.length
  · rw [List.getElem?_append_left c] at e
    exact MO.lowr_mono (Nat.le_succ _) p (phLowr_at D.cl e)
  · rw [List.getElem?_append_right (by omega)] at e
    cases hk : i - h.length with
    | zero =>
      rw [hk] at e
      cases e
      exact ho
    | succ k =>
      rw [hk] at e
      simp at e
theorem Dk.lt {d g : Nat} {h : PH} (D : Dk d g h) : d < h.length ∧ g < h.length := by
  obtain ⟨gs, a, t, w, D⟩ := D
  exact ⟨(List.getElem?_eq_some_iff.mp D.dic).1, (List.getElem?_eq_some_iff.mp D.gre).1⟩
theorem Dk.back {d g : Nat} {h ys h3 : PH} (D : Dk d g h) (D3 : Dk d g h3) (L : Like d g (h ++ ys) h3) : Dk d g (h3.take h.length) ∧ Like d g h (h3.take h.length) := by
  obtain ⟨ld, lg⟩ := D.lt
  obtain ⟨gs0, a0, t0, _, D0⟩ := D
  obtain ⟨gs, a, t, w, D3⟩ := D3
  have hl : (h3.take h.length).length = h.length := by
    rw [List.length_take, L.len, List.length_append]
    omega
  have at_ : ∀ i, i < h.length → (h3.take h.length)[i]? = h3[i]? := fun i hi => List.getElem?_take_of_lt hi
  have L2 : Like d g h (h3.take h.length) := ⟨hl, fun i x y => by
    by_cases c : i < h.length
    · rw [at_ i c, L.at_ i x y, List.getElem?_append_left c]
    · rw [List.getElem?_eq_none (by omega), List.getElem?_eq_none (by omega)]⟩
  refine ⟨⟨gs, a, t, w, (at_ d ld).trans D3.dic, (at_ g lg).trans D3.gre, D3.pos, D3.few, phLowr_of fun i o e => ?_⟩, L2⟩
  rw [hl]
  by_cases cd : i = d
  · subst cd
    rw [at_ i ld, D3.dic] at e
    cases e
    exact lowr_deck lg
  by_cases cg : i = g
  · subst cg
    rw [at_ i lg, D3.gre] at e
    cases e
    exact lowrs_ints _ _
  rw [L2.at_ i cd cg] at e
  exact phLowr_at D0.cl e
theorem Dk.gc {d g : Nat} {h ys h3 : PH} {v : PV} (D : Dk d g h) (D3 : Dk d g h3) (L : Like d g (h ++ ys) h3) (hv : v.lowr h.length = true) : gcN h (.ok v h3) = .ok v (h3.take h.length) := by
  obtain ⟨D4, L4⟩ := D.back D3 L
  refine gcN_cut (by rw [L.len, List.length_append]; omega) hv ?_
  obtain ⟨_, _, _, _, D4⟩ := D4
  have := D4.cl
  rw [L4.len] at this
  exact this
end Dn
namespace Dn
open PySem PySem.Spec PyProof.Rows L2 PySem.SeqAt
theorem opEq_int (i j : Int) (h : PH) : opEq (.int i) (.int j) h = some (.bl (decide (i = j)), h) := rfl
theorem tupO_ok {xs : List PV} {h : PH} (l : xs.length ≤ 16777216) : tupO xs h = .ok (.tup xs) h := if_pos (by rw [sizeLine_eq]; exact l)
theorem lstO_ok {xs : List PV} {h : PH} (l : xs.length ≤ 16777216) : lstO xs h = .ok (.ref h.length) (h ++ [.lst xs]) := if_pos (by rw [sizeLine_eq]; exact l)
theorem tupO_1 (x : PV) (h : PH) : tupO [x] h = .ok (.tup [x]) h := tupO_ok (by simp)
theorem tupO_2 (x y : PV) (h : PH) : tupO [x, y] h = .ok (.tup [x, y]) h := tupO_ok (by simp)
theorem tupO_3 (x y z : PV) (h : PH) : tupO [x, y, z] h = .ok (.tup [x, y, z]) h := tupO_ok (by simp)
theorem tupO_4 (x y z w : PV) (h : PH) : tupO [x, y, z, w] h = .ok (.tup [x, y, z, w]) h := tupO_ok (by simp)
/-- the sizes of a house -/
def SizesOk (v : PV) : Prop := ∃ a b c : Int, v = .tup [.int a, .int b, .int c] ∧ 1 ≤ a ∧ a ≤ 5 ∧ 1 ≤ b ∧ b ≤ 6 ∧ c ∈ [2, 4, 6, 8, 12, 16, 24]
end Dn
namespace Dn
open PySem PySem.Spec PyProof.Rows L2 PySem.SeqAt
theorem set_last : ∀ (h0 : PH) (o p : MO), (h0 ++ [o]).set h0.length p = h0 ++ [p]
  | [], _, _ => rfl
  | x :: r, o, p => congrArg (x :: ·) (set_last r o p)
theorem get_last (h0 : PH) (o : MO) : (h0 ++ [o])[h0.length]? = some o := by simp
/-- a comprehension whose test and element change nothing -/
theorem comp_pure {gs : List (Nat × List PV)} {g : GP} {t : DT} {e : DE} {s : Sl} {h0 : PH} (b : PV → Bool) (f : PV → PV) (ok : ∀ acc, okG gs (h0 ++ [.lst acc]) = true) :
    ∀ (items acc : List PV), (∀ x ∈ items, ∃ as, g x = some as ∧ ∀ acc, t (setP as s) (h0 ++ [.lst acc]) = .ok (b x) (h0 ++ [.lst acc]) ∧ (b x = true → e (setP as s) (h0 ++ [.lst acc]) = .ok (f x) (h0 ++ [.lst acc]))) → acc.length + items.length < 16777216 →
      compItems gs g t e h0.length s items (h0 ++ [.lst acc]) = .ok () (h0 ++ [.lst (acc ++ (items.filter b).map f)])
  | [], acc, _, _ => by
    unfold compItems
    rw [if_pos (ok acc)]
    simp
  | x :: r, acc, q, l => by
    obtain ⟨as, e1, e2⟩ := q x (by simp)
    obtain ⟨e3, e4⟩ := e2 acc
    have q2 := fun y hy => q y (List.mem_cons_of_mem x hy)
    unfold compItems
    rw [if_pos (ok acc), e1]
    dsimp only
    rw [e3]
    show (if b x = true then _ else _) = _
    by_cases c : b x = true
    · rw [if_pos c, e4 c]
      show (match (h0 ++ [MO.lst acc])[h0.length]? with
          | some (.lst acc) => if acc.length < 16777216 then compItems gs g t e h0.length s r ((h0 ++ [MO.lst _]).set h0.length (.lst (acc ++ [f x]))) else .no
          | _ => .no) = _
      rw [get_last]
      dsimp only
      simp only [List.length_cons] at l
      rw [if_pos (by omega), set_last, comp_pure b f ok r (acc ++ [f x]) q2 (by simp; omega), List.filter_cons_of_pos c]
      simp
    · rw [if_neg c]
      simp only [List.length_cons] at l
      rw [comp_pure b f ok r acc q2 (by omega), List.filter_cons_of_neg c]
end Dn
namespace Dn
open PySem PySem.Spec PyProof.Rows L2 PySem.SeqAt
def parO (i j : Nat) (vs : List PV) (s : Sl) (h : PH) : OutS := match vs with
  | [v, w] => .nx ((s.set i (some v)).set j (some w)) h
  | _ => .no
theorem sPar_ap (i j : Nat) (f : DA) (s : Sl) (h : PH) : sPar i j f s h = (f s h).then s fun vs h => parO i j vs s h := rfl
theorem parO_2 (i j : Nat) (v w : PV) (s : Sl) (h : PH) : parO i j [v, w] s h = .nx ((s.set i (some v)).set j (some w)) h := rfl
theorem eLc_ap (it : DI) (g : GP) (t : DT) (e : DE) (vs : List Nat) (s : Sl) (h : PH) : eLc it g t e vs s h = (it s h).bind fun p h => (compItems p.1 g t e h.length (wipeP s vs) p.2 (h ++ [.lst []])).bind fun _ h2 => .ok (.ref h.length) h2 := rfl
def refO (o : Option MO) (n : Nat) (h : PH) : Out Its' := match o with
  | some (.lst xs) => .ok ([(n, xs)], xs) h
  | _ => .no
theorem refO_lst (xs : List PV) (n : Nat) (h : PH) : refO (some (.lst xs)) n h = .ok ([(n, xs)], xs) h := rfl
def seqO (v : PV) (h : PH) : Out Its' := match v with
  | .tup xs => .ok ([], xs) h
  | .kt xs => .ok ([], xs) h
  | .fz xs => .ok ([], xs) h
  | .str z => .ok ([], chars z) h
  | .ref n => refO h[n]? n h
  | _ => .no
theorem seqO_ref (n : Nat) (h : PH) : seqO (.ref n) h = refO h[n]? n h := rfl
theorem seqO_tup (xs : List PV) (h : PH) : seqO (.tup xs) h = .ok ([], xs) h := rfl
theorem iSeq_ap (f : DE) (s : Sl) (h : PH) : iSeq f s h = (f s h).bind fun v h => seqO v h := rfl
theorem eSl_ap (f : FS) (a : DE) (lo hi : DO) (s : Sl) (h : PH) : eSl f a lo hi s h = (a s h).bind fun x h => (lo s h).bind fun l h => (hi s h).bind fun u h => Out.of (f x l u h) := rfl
theorem oNone_ap (s : Sl) (h : PH) : oNone s h = .ok none h := rfl
def intO (x : PV) (h : PH) : Out (Option Int) := match x with
  | .int i => .ok (some i) h
  | _ => .no
theorem intO_int (i : Int) (h : PH) : intO (.int i) h = .ok (some i) h := rfl
theorem oSome_ap (a : DE) (s : Sl) (h : PH) : oSome a s h = (a s h).bind fun x h => intO x h := rfl
theorem sFor_ap (it : DI) (g : GP) (body : DS) (s : Sl) (h : PH) : sFor it g body s h = (it s h).then s fun p h => forItems p.1 g body p.2 s h := rfl
theorem fAbs_ap (i : Int) (h : PH) : fAbs [.int i] h = some (.int (if i < 0 then -i else i), h) := rfl
theorem fInt_bl (b : Bool) (h : PH) : fInt [.bl b] h = some (.int (if b then 1 else 0), h) := rfl
theorem opMul_l {i j : Int} {h : PH} (e : smallB i = true) : opMul (.int i) (.int j) h = some (.int (i * j), h) := if_pos (by rw [e, Bool.true_or])
theorem cut_all {xs : List PV} (l : xs.length ≤ 63) : cutP xs none (some 63) = xs := by
  unfold cutP
  rw [show (HT.sIx xs.length 0 none) = 0 from rfl, show HT.sIx xs.length xs.length (some 63) = min 63 xs.length from rfl]
  rw [List.drop_zero, List.take_of_length_le (by omega)]
def cellOf (i : Int) : Int := 2 * (if i < 0 then -i else i) + (if decide (i < 0) = true then 1 else 0)
theorem cellOf_pos (i : Int) : 0 ≤ cellOf i := by
  unfold cellOf
  by_cases c : i < 0
  · rw [if_pos c, if_pos (decide_eq_true c)]
    omega
  · rw [if_neg c, if_neg (by rw [decide_eq_false c]; exact Bool.false_ne_true)]
    omega
def cellP : PV → PV
  | .int i => .int (cellOf i)
  | v => v
def bigP : PV → Bool
  | .int i => decide (10 ^ 18 ≤ i)
  | _ => false
def bodySeal : DS := sAsg (gNm 2) (eOp opMod (eCall fInt (eCons (eOp opAdd (eOp opAdd (eOp opMul (eVar 2) (eC (.int 48271))) (eVar 3)) (eC (.int 1))) eNil)) (eC (.int 4294967291)))
def dnev_3 := And.intro @opEq_int (And.intro @tupO_1 (And.intro @tupO_2 (And.intro @tupO_3 (And.intro @tupO_4 (And.intro @sPar_ap (And.intro @parO_2 (And.intro @eLc_ap (And.intro @refO_lst (And.intro @seqO_ref (And.intro @seqO_tup (And.intro @iSeq_ap (And.intro @eSl_ap (And.intro @oNone_ap (And.intro @intO_int (And.intro @oSome_ap (And.intro @sFor_ap (And.intro @fAbs_ap (@fInt_bl))))))))))))))))))
theorem seal_loop {gs : List (Nat × List PV)} {h : PH} {a b e : Option PV} (ok : okG gs h = true) : ∀ (items : List Int) (z0 : Int) (l3 : Option PV), ∃ z1 l3', forItems gs (gNm 3) bodySeal (items.map PV.int) [a, b, some (.int z0), l3, e] h = .nx [a, b, some (.int z1), l3', e] h
  | [], z0, l3 => ⟨z0, l3, by unfold forItems; rw [List.map_nil]; exact if_pos ok⟩
  | x :: r, z0, l3 => by
    have m1 : ∀ (i : Int) (h : PH), opMul (.int i) (.int 48271) h = some (.int (i * 48271), h) := fun _ _ => opMul_r rfl
    have r1 : ∀ (i : Int) (h : PH), opMod (.int i) (.int 4294967291) h = some (.int (i.fmod 4294967291), h) := fun _ _ => opMod_ap (by decide)
    have e1 : bodySeal (setP [(3, .int x)] [a, b, some (.int z0), l3, e]) h = .nx [a, b, some (.int ((z0 * 48271 + x + 1).fmod 4294967291)), some (.int x), e] h := by
      simp only [Out.bind_ok, Out.bind_err, Out.bind_no, dnev_1, dnev_2, dnev_3, dnif_1, bodySeal, setP, List.set_cons_zero, List.set_cons_succ, List.getElem?_cons_zero, List.getElem?_cons_succ, m1, r1]
    obtain ⟨z1, l3', ih⟩ := seal_loop ok r ((z0 * 48271 + x + 1).fmod 4294967291) (some (.int x))
    refine ⟨z1, l3', ?_⟩
    rw [List.map_cons, forItems, if_pos ok]
    show (match gNm 3 (.int x) with
      | some as => match bodySeal (setP as _) h with
        | .nx s h => forItems gs (gNm 3) bodySeal (r.map PV.int) s h
        | .ct s h => forItems gs (gNm 3) bodySeal (r.map PV.int) s h
        | .bk s h => .nx s h
        | o => o
      | none => .no) = _
    rw [gNm_ap]
    dsimp only
    rw [e1]
    exact ih
end Dn
namespace Dn
open PySem PySem.Spec PyProof.Rows L2 PySem.SeqAt
def dispO (n : Nat) (kvs : List (L2.Key × PV)) (h1 : PH) : Out PV := if isNewK h1 n = true ∧ kvs.length ≤ 15 then .ok (.ref n) (h1.set n (.dK (mergeG [] kvs))) else .no
theorem eDisp_ap (ps : List (DE × DE)) (s : Sl) (h : PH) : eDisp ps s h = (pairsD ps s (h ++ [.dK []])).bind fun kvs h1 => dispO h.length kvs h1 := rfl
def pairO (o : Option L2.Key) (y : PV) (r : Out (List (L2.Key × PV))) : Out (List (L2.Key × PV)) := match o with
  | some k => r.bind fun ps h => .ok ((k, y) :: ps) h
  | none => .no
theorem pairO_some (k : L2.Key) (y : PV) (r : Out (List (L2.Key × PV))) : pairO (some k) y r = r.bind fun ps h => .ok ((k, y) :: ps) h := rfl
theorem pairsD_nil (s : Sl) (h : PH) : pairsD [] s h = .ok [] h := rfl
theorem pairsD_cons (k v : DE) (r : List (DE × DE)) (s : Sl) (h : PH) : pairsD ((k, v) :: r) s h = (k s h).bind fun kx h => (v s h).bind fun y h => pairO (keyOf kx) y (pairsD r s h) := rfl
theorem keyOf_str (x : Str) : keyOf (.str x) = some (.inr x) := rfl
def lsO (o : Option MO) : Option (List PV) := match o with
  | some (.lst xs) => some xs
  | _ => none
theorem lsO_lst (xs : List PV) : lsO (some (.lst xs)) = some xs := rfl
theorem lsOf_ref (h : PH) (n : Nat) : lsOf h (.ref n) = lsO h[n]? := rfl
def revO (o : Option (List PV)) (h : PH) : Out PV := match o with
  | some ys => .ok (.ref h.length) (h ++ [.lst ys.reverse])
  | none => .no
theorem revO_some (ys : List PV) (h : PH) : revO (some ys) h = .ok (.ref h.length) (h ++ [.lst ys.reverse]) := rfl
theorem eRev_ap (f : DE) (s : Sl) (h : PH) : eRev f s h = (f s h).bind fun x h => revO (lsOf h x) h := rfl
theorem fLen_fz {h : PH} {xs : List PV} : fLen [.fz xs] h = some (.int (xs.length : Nat), h) := rfl
def dnev_4 := And.intro @eDisp_ap (And.intro @pairO_some (And.intro @pairsD_nil (And.intro @pairsD_cons (And.intro @keyOf_str (And.intro @lsO_lst (And.intro @lsOf_ref (And.intro @revO_some (@eRev_ap))))))))
theorem deck_ok (ns : List Int) (len : ns.length ≤ 63) : ∃ h, m__law_deck [.fz (ns.map PV.int)] [] = .ok (.ref 2) h ∧ Dk 2 4 h := by
  let X := ns.map PV.int
  let ci := ns.map cellOf
  let cs := ci.map PV.int
  have lX : X.length ≤ 63 := by simpa [X] using len
  have hs : opSl (.fz X) none (some 63) [] = some (.ref 0, [.lst X]) := by
    show some (PV.ref 0, [MO.lst (cutP X none (some 63))]) = _
    rw [cut_all lX]
  have m2 : ∀ (i : Int) (h : PH), opMul (.int 2) (.int i) h = some (.int (2 * i), h) := fun _ _ => opMul_l rfl
  have m7 : ∀ (i : Int) (h : PH), opMul (.int 7) (.int i) h = some (.int (7 * i), h) := fun _ _ => opMul_l rfl
  have pw : ∀ (h : PH), opPow (.int 10) (.int 18) h = some (.int (10 ^ 18), h) := fun _ => rfl
  have fX : (X.filter fun _ => true).map cellP = cs := by
    rw [List.filter_eq_self.mpr (fun _ _ => rfl)]
    simp [X, cs, ci, cellP, Function.comp_def]
  have hc1 : ∀ (s : Sl), s.length = 5 → compItems [(0, X)] (gNm 4) tYesD (eOp opAdd (eOp opMul (eC (.int 2)) (eCall fAbs (eCons (eVar 4) eNil))) (eCall fInt (eCons (eOp opLt (eVar 4) (eC (.int 0))) eNil))) 1 s X [.lst X, .lst []] = .ok () [.lst X, .lst cs] := fun s ls => by
    have q := comp_pure (gs := [(0, X)]) (g := gNm 4) (t := tYesD) (e := eOp opAdd (eOp opMul (eC (.int 2)) (eCall fAbs (eCons (eVar 4) eNil))) (eCall fInt (eCons (eOp opLt (eVar 4) (eC (.int 0))) eNil))) (s := s) (h0 := [.lst X]) (fun _ => true) cellP (fun acc => by simp [okG]) X [] (fun x hx => by
      obtain ⟨i, hi, rfl⟩ := List.mem_map.mp hx
      refine ⟨_, rfl, fun acc => ⟨rfl, fun _ => ?_⟩⟩
      have h4 : (setP [(4, PV.int i)] s)[4]? = some (some (.int i)) := List.getElem?_set_self (by omega)
      simp only [Out.bind_ok, Out.bind_err, Out.bind_no, dnev_1, dnev_2, dnev_3, dnev_4, dnif_1, h4, m2]
      rfl) (by simp; omega)
    rw [fX] at q
    exact q
  have fB : (cs.filter bigP).map id = (ci.filter fun i => decide (10 ^ 18 ≤ i)).map PV.int := by
    rw [List.map_id, List.filter_map]
    rfl
  have hc2 : ∀ (s : Sl), s.length = 5 → compItems [(1, cs)] (gNm 3) (tV (eOp opGe (eVar 3) (eOp opPow (eC (.int 10)) (eC (.int 18))))) (eVar 3) 3 s cs [.lst X, .lst cs, .dK [], .lst []] = .ok () [.lst X, .lst cs, .dK [], .lst ((ci.filter fun i => decide (10 ^ 18 ≤ i)).map PV.int)] := fun s ls => by
    have q := comp_pure (gs := [(1, cs)]) (g := gNm 3) (t := tV (eOp opGe (eVar 3) (eOp opPow (eC (.int 10)) (eC (.int 18))))) (e := eVar 3) (s := s) (h0 := [.lst X, .lst cs, .dK []]) bigP id (fun acc => by simp [okG]) cs [] (fun x hx => by
      obtain ⟨i, hi, rfl⟩ := List.mem_map.mp hx
      have h3 : (setP [(3, PV.int i)] s)[3]? = some (some (.int i)) := List.getElem?_set_self (by omega)
      refine ⟨_, rfl, fun acc => ⟨?_, fun _ => ?_⟩⟩
      · simp only [Out.bind_ok, Out.bind_err, Out.bind_no, dnev_1, dnev_2, dnev_3, dnev_4, dnif_1, h3, pw]
        rfl
      · simp only [Out.bind_ok, Out.bind_err, Out.bind_no, dnev_1, dnev_2, dnev_3, dnev_4, dnif_1, h3]
        rfl) (by simp [cs, ci]; omega)
    rw [fB] at q
    exact q
  obtain ⟨z1, l3, lp⟩ := seal_loop (gs := [(1, cs)]) (h := [.lst X, .lst cs]) (a := some (.fz X)) (b := some (.ref 1)) (e := none) (by simp [okG]) ci (15910 + 7 * (X.length : Nat)) none
  unfold bodySeal at lp
  rw [show List.map PV.int ci = cs from rfl] at lp
  have a0 : args0 5 [PV.fz X] = [some (.fz X), none, none, none, none] := rfl
  have er : runB g__law_deck 5 [.fz X] [] = .ok (.ref 2) [.lst X, .lst cs, .dK [(.inr "great", .ref 4), (.inr "seal", .int z1), (.inr "turn", .int 0)], .lst ((ci.filter fun i => decide (10 ^ 18 ≤ i)).map PV.int), .lst ((ci.filter fun i => decide (10 ^ 18 ≤ i)).map PV.int).reverse] := by
    unfold runB
    rw [a0]
    simp only [Out.bind_ok, Out.bind_err, Out.bind_no, dnev_1, dnev_2, dnev_3, dnev_4, dnif_1, g__law_deck, List.getElem?_cons_zero, List.getElem?_cons_succ, hs, List.length_cons, List.length_nil, Nat.zero_add, List.cons_append, List.nil_append, Nat.reduceAdd, hc1 (wipeP [some (PV.fz X), none, none, none, none] [4]) rfl, fLen_fz, m7, setP, List.set_cons_zero, List.set_cons_succ, lp, hc2 (wipeP [some (PV.fz X), some (PV.ref 1), some (PV.int z1), l3, none] [3]) rfl]
    rfl
  refine ⟨[.lst X, .lst cs, .dK [(.inr "great", .ref 4), (.inr "seal", .int z1), (.inr "turn", .int 0)], .lst ((ci.filter fun i => decide (10 ^ 18 ≤ i)).map PV.int), .lst ((ci.filter fun i => decide (10 ^ 18 ≤ i)).map PV.int).reverse], (mk_at (show [PV.fz X].length = 1 from rfl)).trans ?_, (ci.filter fun i => decide (10 ^ 18 ≤ i)).reverse, z1, 0, false, rfl, ?_, fun x hx => ?_, ?_, ?_⟩
  · rw [er]
    rfl
  · rw [List.map_reverse]
    rfl
  · have := List.mem_filter.mp (List.mem_reverse.mp hx)
    obtain ⟨i, _, rfl⟩ := List.mem_map.mp this.1
    exact cellOf_pos i
  · rw [List.length_reverse]
    have := List.length_filter_le (fun i => decide (10 ^ 18 ≤ i)) ci
    have : ci.length = ns.length := by simp [ci]
    omega
  · have a1 : PV.lowrs 5 X = true := lowrs_ints 5 ns
    have a2 : PV.lowrs 5 cs = true := lowrs_ints 5 ci
    have a3 : PV.lowrs 5 ((ci.filter fun i => decide (10 ^ 18 ≤ i)).map PV.int) = true := lowrs_ints 5 _
    have a4 : PV.lowrs 5 ((ci.filter fun i => decide (10 ^ 18 ≤ i)).map PV.int).reverse = true := by
      rw [← List.map_reverse]
      exact lowrs_ints 5 _
    show phLowr 5 _ = true
    simp only [phLowr, MO.lowr, a1, a2, a3, a4, kvLowr, PV.lowr]
    rfl
end Dn
namespace Dn
open PySem PySem.Spec PyProof.Rows L2 PySem.SeqAt
theorem lowrs_iff {n : Nat} : ∀ {xs : List PV}, PV.lowrs n xs = true ↔ ∀ x ∈ xs, x.lowr n = true
  | [] => by simp [PV.lowrs]
  | x :: r => by
    simp only [PV.lowrs, Bool.and_eq_true, List.mem_cons, forall_eq_or_imp]
    exact and_congr_right fun _ => lowrs_iff
/-- another list at an object that is not the deck's -/
theorem Dk.set {d g i : Nat} {h : PH} {o : MO} (D : Dk d g h) (hd : i ≠ d) (hg : i ≠ g) (ho : o.lowr h.length = true) : Dk d g (h.set i o) := by
  obtain ⟨gs, a, t, w, D⟩ := D
  exact ⟨gs, a, t, w, by rw [List.getElem?_set_ne hd]; exact D.dic, by rw [List.getElem?_set_ne hg]; exact D.gre, D.pos, D.few, by rw [List.length_set]; exact Cl.set ho i D.cl⟩
/-- what a list of the heap holds refers below -/
theorem Dk.lst {d g i : Nat} {h : PH} {xs : List PV} (D : Dk d g h) (e : h[i]? = some (.lst xs)) : ∀ x ∈ xs, x.lowr h.length = true := by
  obtain ⟨gs, a, t, w, D⟩ := D
  exact lowrs_iff.mp (phLowr_at D.cl e)
/-- h2 has what h has, but for the deck's two objects, and perhaps more -/
structure Ov (d g : Nat) (h h2 : PH) : Prop where
  len : h.length ≤ h2.length
  at_ : ∀ i, i < h.length → i ≠ d → i ≠ g → h2[i]? = h[i]?
theorem Like.ov {d g : Nat} {h h2 : PH} (L : Like d g h h2) : Ov d g h h2 := ⟨by rw [L.len]; exact Nat.le_refl _, fun i _ x y => L.at_ i x y⟩
theorem Ov.refl {d g : Nat} {h : PH} : Ov d g h h := ⟨Nat.le_refl _, fun _ _ _ _ => rfl⟩
theorem Ov.trans {d g : Nat} {h h2 h3 : PH} (a : Ov d g h h2) (b : Ov d g h2 h3) : Ov d g h h3 := ⟨Nat.le_trans a.len b.len, fun i l x y => (b.at_ i (Nat.lt_of_lt_of_le l a.len) x y).trans (a.at_ i l x y)⟩
theorem Ov.push {d g : Nat} {h : PH} {o : MO} : Ov d g h (h ++ [o]) := ⟨by rw [List.length_append]; omega, fun i l _ _ => List.getElem?_append_left l⟩
theorem Ov.set {d g i : Nat} {h h2 : PH} {o : MO} (a : Ov d g h h2) (l : h.length ≤ i) : Ov d g h (h2.set i o) := ⟨by rw [List.length_set]; exact a.len, fun j m x y => by rw [List.getElem?_set_ne (by omega)]; exact a.at_ j m x y⟩
/-- behind a def that gives a value without new objects, whatever it left -/
theorem Dk.gcO {d g : Nat} {h h3 : PH} {v : PV} (D : Dk d g h) (D3 : Dk d g h3) (L : Ov d g h h3) (hv : v.lowr h.length = true) : ∃ h4, gcN h (.ok v h3) = .ok v h4 ∧ Dk d g h4 ∧ Like d g h h4 := by
  obtain ⟨ld, lg⟩ := D.lt
  have E : ∃ ys h0, h0 ++ ys = h3 ∧ h0 = h3.take h.length := ⟨h3.drop h.length, h3.take h.length, List.take_append_drop _ _, rfl⟩
  have hl : (h3.take h.length).length = h.length := by
    rw [List.length_take]
    have := L.len
    omega
  have L3 : Like d g (h ++ h3.drop h.length) h3 := ⟨by rw [List.length_append, List.length_drop]; have := L.len; omega, fun i x y => by
    by_cases c : i < h.length
    · rw [L.at_ i c x y, List.getElem?_append_left c]
    · rw [List.getElem?_append_right (by omega), List.getElem?_drop]
      congr 1
      omega⟩
  obtain ⟨D4, L4⟩ := D.back D3 L3
  exact ⟨_, D.gc D3 L3 hv, D4, L4⟩
end Dn
namespace Dn
open PySem PySem.Spec PyProof.Rows L2 PySem.SeqAt
theorem mPop_at {h : PH} {n k : Nat} {xs : List PV} {y : PV} (e : h[n]? = some (.lst xs)) (hk : xs[k]? = some y) (l : xs.length < 1000000) : mPop (.ref n) [.int (k : Int)] h = some (y, h.set n (.lst (xs.eraseIdx k))) := by
  have lk : k < xs.length := (List.getElem?_eq_some_iff.mp hk).1
  have s1 : smallB (2 * (k : Int)) = true := smallB_of (by omega) (by omega)
  have s2 : seqIndex? (k : Int) xs.length = some k := by
    unfold seqIndex?
    simp
    omega
  unfold mPop lstAt
  dsimp only
  rw [e]
  simp [s1, s2, hk]
theorem perm_erase {y : PV} : ∀ {xs : List PV} {k : Nat}, xs[k]? = some y → (y :: xs.eraseIdx k).Perm xs
  | [], _, e => by simp at e
  | x :: r, 0, e => by
    cases e
    exact .refl _
  | x :: r, k + 1, e => (List.Perm.swap x y _).trans ((perm_erase (xs := r) (k := k) (by simpa using e)).cons x)
def mixT : DT := tV (eOp opNe (eVar 2) (eLst eNil))
def mixB : DS := sDrop (eMt "list" mAppend (eVar 3) (eCons (eMt "list" mPop (eVar 2) (eCons (eCallF (m__law_draw) (eCons (eVar 0) (eCons (eCall fLen (eCons (eVar 2) eNil)) eNil))) eNil)) eNil))
theorem mix_loop {d g L F : Nat} {it : Option PV} (Ld : L ≠ d) (Lg : L ≠ g) (Fd : F ≠ d) (Fg : F ≠ g) (LF : L ≠ F) : ∀ (fuel : Nat) (h : PH) (xs ys : List PV), xs.length < fuel → xs.length + ys.length < 1000 → Dk d g h → h[L]? = some (.lst xs) → h[F]? = some (.lst ys) →
    ∃ h2 zs, sWhile mixT mixB fuel [some (.ref d), it, some (.ref L), some (.ref F)] h = .nx [some (.ref d), it, some (.ref L), some (.ref F)] h2 ∧ h2[F]? = some (.lst (ys ++ zs)) ∧ zs.Perm xs ∧ Dk d g h2 ∧ h.length ≤ h2.length ∧ ∀ i, i < h.length → i ≠ d → i ≠ g → i ≠ L → i ≠ F → h2[i]? = h[i]?
  | 0, _, _, _, l, _, _, _, _ => absurd l (Nat.not_lt_zero _)
  | fuel + 1, h, xs, ys, l, l2, D, hL, hF => by
    have lL : L < h.length := (List.getElem?_eq_some_iff.mp hL).1
    have lF : F < h.length := (List.getElem?_eq_some_iff.mp hF).1
    have D1 := D.push (o := .lst []) rfl
    have hL1 := (List.getElem?_append_left (l₂ := [MO.lst []]) lL).trans hL
    have hF1 := (List.getElem?_append_left (l₂ := [MO.lst []]) lF).trans hF
    have hne := ne_nil hL1 (get_last h (.lst []))
    have ht : mixT [some (.ref d), it, some (.ref L), some (.ref F)] h = .ok (decide (xs ≠ [])) (h ++ [.lst []]) := by
      simp only [Out.bind_ok, Out.bind_err, Out.bind_no, dnev_1, dnev_2, dnev_3, dnev_4, dnif_1, mixT, List.getElem?_cons_zero, List.getElem?_cons_succ, hne]
    unfold sWhile
    rw [ht]
    cases hx : xs with
    | nil =>
      refine ⟨h ++ [.lst []], [], ?_, by rw [List.append_nil]; exact hF1, .refl _, D1, by rw [List.length_append]; omega, fun i a _ _ _ _ => List.getElem?_append_left a⟩
      rfl
    | cons x0 r0 =>
      have lx : 0 < xs.length := by rw [hx]; exact Nat.zero_lt_succ _
      rw [← hx]
      obtain ⟨k, h2, e, D2, K2, k0, k1, k2⟩ := draw_ok (n := (xs.length : Nat)) D1 (by omega)
      have kl : k < xs.length := by
        by_cases q : ((xs.length : Nat) : Int) < 2
        · have := k1 q
          omega
        · exact k2 (by omega)
      obtain ⟨j, rfl⟩ := Int.eq_ofNat_of_zero_le k0
      have jl : j < xs.length := by omega
      have hj : xs[j]? = some xs[j] := List.getElem?_eq_getElem jl
      have hL2 := (K2.at_ L Ld Lg).trans hL1
      have hF2 := (K2.at_ F Fd Fg).trans hF1
      have pop := mPop_at hL2 hj (by omega)
      have l2L : L < h2.length := (List.getElem?_eq_some_iff.mp hL2).1
      have hF3 : (h2.set L (.lst (xs.eraseIdx j)))[F]? = some (.lst ys) := by rw [List.getElem?_set_ne LF]; exact hF2
      have app := mAppend_ap (x := xs[j]) hF3 (by omega)
      have q2 := D2.lst hL2
      have qF := D2.lst hF2
      have D3 : Dk d g (h2.set L (.lst (xs.eraseIdx j))) := D2.set Ld Lg (lowrs_iff.mpr fun y hy => q2 y (List.mem_of_mem_eraseIdx hy))
      have D4 : Dk d g ((h2.set L (.lst (xs.eraseIdx j))).set F (.lst (ys ++ [xs[j]]))) := D3.set Fd Fg (lowrs_iff.mpr fun y hy => by
        rw [List.length_set]
        rcases List.mem_append.mp hy with m | m
        · exact qF y m
        · rw [List.mem_singleton.mp m]
          exact q2 _ (List.getElem_mem jl))
      have hb : mixB [some (.ref d), it, some (.ref L), some (.ref F)] (h ++ [.lst []]) = .nx [some (.ref d), it, some (.ref L), some (.ref F)] ((h2.set L (.lst (xs.eraseIdx j))).set F (.lst (ys ++ [xs[j]]))) := by
        simp only [Out.bind_ok, Out.bind_err, Out.bind_no, dnev_1, dnev_2, dnev_3, dnev_4, dnif_1, mixB, List.getElem?_cons_zero, List.getElem?_cons_succ, kind_lst hL1, kind_lst hF1, fLen_ref hL1, e, pop, app, decide_true]
      have hL4 : ((h2.set L (.lst (xs.eraseIdx j))).set F (.lst (ys ++ [xs[j]])))[L]? = some (.lst (xs.eraseIdx j)) := by
        rw [List.getElem?_set_ne LF.symm]
        exact List.getElem?_set_self l2L
      have hF4 : ((h2.set L (.lst (xs.eraseIdx j))).set F (.lst (ys ++ [xs[j]])))[F]? = some (.lst (ys ++ [xs[j]])) := List.getElem?_set_self (List.getElem?_eq_some_iff.mp hF3).1
      have le : (xs.eraseIdx j).length = xs.length - 1 := by rw [List.length_eraseIdx, if_pos jl]
      have lh : h2.length = h.length + 1 := by rw [K2.len, List.length_append]; rfl
      obtain ⟨h5, zs, w, f5, p5, D5, n5, a5⟩ := mix_loop Ld Lg Fd Fg LF fuel _ (xs.eraseIdx j) (ys ++ [xs[j]]) (by omega) (by rw [List.length_append, List.length_singleton]; omega) D4 hL4 hF4
      rw [List.length_set, List.length_set, lh] at n5
      refine ⟨h5, xs[j] :: zs, ?_, by rw [f5, List.append_assoc]; rfl, (p5.cons _).trans (perm_erase hj), D5, by omega, fun i a b c u v => ?_⟩
      · rw [decide_eq_true (show xs ≠ [] by rw [hx]; exact List.cons_ne_nil _ _)]
        dsimp only
        rw [hb]
        exact w
      · rw [a5 i (by rw [List.length_set, List.length_set, lh]; omega) b c u v, List.getElem?_set_ne (Ne.symm v), List.getElem?_set_ne (Ne.symm u), K2.at_ i b c]
        exact List.getElem?_append_left a
end Dn
namespace Dn
open PySem PySem.Spec PyProof.Rows L2 PySem.SeqAt
theorem gcN_keep {h h' : PH} {v : PV} (e : v.lowr h.length = false) : gcN h (.ok v h') = .ok v h' := by
  unfold gcN
  dsimp only
  rw [if_neg (by rw [e, Bool.false_and]; exact Bool.false_ne_true)]
theorem fList_ref {h : PH} {n : Nat} {xs : List PV} (e : h[n]? = some (.lst xs)) : fList [.ref n] h = some (.ref h.length, h ++ [.lst xs]) := by
  unfold fList seqOf
  dsimp only
  rw [e]
  rfl
end Dn

namespace Dn
open PySem PySem.Spec PyProof.Rows L2 PySem.SeqAt

/-! ### what is wanted of an outcome: a value and objects -/
/-- what follows is not looked into: its type hangs on it -/
inductive Bx {α : Type} (Q : α → PH → Prop) : Type where
  | mk
inductive Bs2 (N : Sl → PH → Prop) (R : PV → PH → Prop) : Type where
  | mk
@[irreducible] def wO {α : Type} (o : Out α) (Q : α → PH → Prop) (b : Bx Q := .mk) : Prop := match o with
  | .ok a h => Q a h
  | _ => False
@[irreducible] def wP {α : Type} (o : Option (α × PH)) (Q : α → PH → Prop) (b : Bx Q := .mk) : Prop := match o with
  | some (a, h) => Q a h
  | none => False
/-- of a statement: how it goes on, what it returns -/
@[irreducible] def wS (o : OutS) (N : Sl → PH → Prop) (R : PV → PH → Prop) (b : Bs2 N R := .mk) : Prop := match o with
  | .nx s h => N s h
  | .rt v h => R v h
  | _ => False
theorem wO_ok {α : Type} (a : α) (h : PH) (Q : α → PH → Prop) : wO (.ok a h) Q = Q a h := by unfold wO; rfl
theorem wO_bind {α β : Type} (o : Out α) (k : α → PH → Out β) (Q : β → PH → Prop) : wO (o.bind k) Q = wO o fun a h => wO (k a h) Q := by unfold wO; cases o <;> rfl
theorem wO_of {α : Type} (o : Option (α × PH)) (Q : α → PH → Prop) : wO (Out.of o) Q = wP o Q := by unfold wO wP; cases o <;> rfl
theorem wP_some {α : Type} (a : α) (h : PH) (Q : α → PH → Prop) : wP (some (a, h)) Q = Q a h := by unfold wP; rfl
theorem wS_nx (s : Sl) (h : PH) (N : Sl → PH → Prop) (R : PV → PH → Prop) : wS (.nx s h) N R = N s h := by unfold wS; rfl
theorem wS_rt (v : PV) (h : PH) (N : Sl → PH → Prop) (R : PV → PH → Prop) : wS (.rt v h) N R = R v h := by unfold wS; rfl
theorem wO_no {α : Type} (Q : α → PH → Prop) : wO .no Q = False := by unfold wO; rfl
theorem wO_err {α : Type} (e : PErr) (h : PH) (Q : α → PH → Prop) : wO (.err e h) Q = False := by unfold wO; rfl
theorem wP_none {α : Type} (Q : α → PH → Prop) : wP none Q = False := by unfold wP; rfl
theorem wS_no (N : Sl → PH → Prop) (R : PV → PH → Prop) : wS .no N R = False := by unfold wS; rfl
theorem wS_err (e : PErr) (s : Sl) (h : PH) (N : Sl → PH → Prop) (R : PV → PH → Prop) : wS (.err e s h) N R = False := by unfold wS; rfl
theorem wS_bk (s : Sl) (h : PH) (N : Sl → PH → Prop) (R : PV → PH → Prop) : wS (.bk s h) N R = False := by unfold wS; rfl
theorem wS_ct (s : Sl) (h : PH) (N : Sl → PH → Prop) (R : PV → PH → Prop) : wS (.ct s h) N R = False := by unfold wS; rfl
theorem wS_then {α : Type} (o : Out α) (s : Sl) (k : α → PH → OutS) (N : Sl → PH → Prop) (R : PV → PH → Prop) : wS (o.then s k) N R = wO o fun a h => wS (k a h) N R := by unfold wO; cases o <;> first | rfl | (unfold Out.then; dsimp only; unfold wS; rfl)
theorem wS_seq (o : OutS) (b : DS) (N : Sl → PH → Prop) (R : PV → PH → Prop) : wS (o.seq b) N R = wS o (fun s h => wS (b s h) N R) R := by cases o <;> simp only [OutS.seq, wS_nx, wS_rt, wS_bk, wS_ct, wS_err, wS_no]
theorem wO_ite {α : Type} (p : Prop) [Decidable p] (a b : Out α) (Q : α → PH → Prop) : wO (iteO (decide p) a b) Q = ((p → wO a Q) ∧ (¬ p → wO b Q)) := by
  by_cases h : p
  · rw [decide_eq_true h, iteO_true]
    simp [h]
  · rw [decide_eq_false h, iteO_false]
    simp [h]
theorem wS_ite (p : Prop) [Decidable p] (a b : OutS) (N : Sl → PH → Prop) (R : PV → PH → Prop) : wS (iteO (decide p) a b) N R = ((p → wS a N R) ∧ (¬ p → wS b N R)) := by
  by_cases h : p
  · rw [decide_eq_true h, iteO_true]
    simp [h]
  · rw [decide_eq_false h, iteO_false]
    simp [h]
theorem wO_iteB {α : Type} (c : Bool) (a b : Out α) (Q : α → PH → Prop) : wO (iteO c a b) Q = ((c = true → wO a Q) ∧ (c = false → wO b Q)) := by cases c <;> simp [iteO_true, iteO_false]
theorem wS_iteB (c : Bool) (a b : OutS) (N : Sl → PH → Prop) (R : PV → PH → Prop) : wS (iteO c a b) N R = ((c = true → wS a N R) ∧ (c = false → wS b N R)) := by cases c <;> simp [iteO_true, iteO_false]
theorem wO_mono {α : Type} {o : Out α} {Q Q' : α → PH → Prop} (a : wO o Q) (k : ∀ x h, Q x h → Q' x h) : wO o Q' := by
  unfold wO at a ⊢
  cases o with
  | ok x h => exact k _ _ a
  | err _ _ => exact a
  | no => exact a
theorem wS_mono {o : OutS} {N N' : Sl → PH → Prop} {R R' : PV → PH → Prop} (a : wS o N R) (k : ∀ s h, N s h → N' s h) (k2 : ∀ x h, R x h → R' x h) : wS o N' R' := by
  unfold wS at a ⊢
  cases o with
  | nx s h => exact k _ _ a
  | rt x h => exact k2 _ _ a
  | _ => exact a
theorem wO_ex {α : Type} {o : Out α} {Q : α → PH → Prop} : wO o Q ↔ ∃ x h, o = .ok x h ∧ Q x h := by
  unfold wO
  cases o with
  | ok x h => exact ⟨fun q => ⟨_, _, rfl, q⟩, fun ⟨_, _, e, q⟩ => by cases e; exact q⟩
  | err _ _ => exact ⟨fun q => q.elim, fun ⟨_, _, e, _⟩ => by cases e⟩
  | no => exact ⟨fun q => q.elim, fun ⟨_, _, e, _⟩ => by cases e⟩
theorem wO_eq {α : Type} {o : Out α} {x : α} {h : PH} {Q : α → PH → Prop} (e : o = .ok x h) (q : Q x h) : wO o Q := by rw [e, wO_ok]; exact q
theorem eq_of_wO {α : Type} {o : Out α} {x : α} {h : PH} (q : wO o fun y h' => y = x ∧ h' = h) : o = .ok x h := by
  obtain ⟨y, h', e, rfl, rfl⟩ := wO_ex.mp q
  exact e
/-- a def's function: its body, then what is new and of no use is forgotten -/
theorem wO_mk {n N : Nat} {g : DS} {xs : List PV} {h : PH} {Q : PV → PH → Prop} (l : xs.length = n) (q : wS (g (args0 N xs) h) (fun _ h' => wO (gcN h (.ok .non h')) Q) (fun v h' => wO (gcN h (.ok v h')) Q)) : wO (mk n N g xs h) Q := by
  rw [mk_at l]
  unfold runB
  cases e : g (args0 N xs) h with
  | nx s h' => rw [e, wS_nx] at q; exact q
  | rt v h' => rw [e, wS_rt] at q; exact q
  | bk s h' => rw [e, wS_bk] at q; exact q.elim
  | ct s h' => rw [e, wS_ct] at q; exact q.elim
  | err z s h' => rw [e, wS_err] at q; exact q.elim
  | no => rw [e, wS_no] at q; exact q.elim
/-- the body's new objects are forgotten -/
theorem gc_new {h L : PH} {v : PV} {Q : PV → PH → Prop} (hv : v.lowr h.length = true) (c : Cl h.length h) (q : Q v h) : wO (gcN h (.ok v (h ++ L))) Q := by
  have := gcN_cut (h := h) (h' := h ++ L) (v := v) (by simp) hv (by rw [List.take_left' rfl]; exact c)
  rw [this, List.take_left' rfl, wO_ok]
  exact q
theorem gc_same {h : PH} {v : PV} {Q : PV → PH → Prop} (q : Q v h) : wO (gcN h (.ok v h)) Q := by rw [gcN_len rfl, wO_ok]; exact q
theorem gc_len {h h' : PH} {v : PV} {Q : PV → PH → Prop} (e : h'.length = h.length) (q : Q v h') : wO (gcN h (.ok v h')) Q := by rw [gcN_len e, wO_ok]; exact q

/-! ### slots -/
theorem setP_nil (s : Sl) : setP [] s = s := rfl
theorem setP_cons (i : Nat) (v : PV) (r : List (Nat × PV)) (s : Sl) : setP ((i, v) :: r) s = setP r (s.set i (some v)) := rfl
theorem wipeP_nil (s : Sl) : wipeP s [] = s := rfl
theorem wipeP_cons (s : Sl) (v : Nat) (vs : List Nat) : wipeP s (v :: vs) = (wipeP s vs).set v none := rfl
theorem args0_1 (N : Nat) (x : PV) : args0 (N + 1) [x] = some x :: List.replicate N none := rfl
theorem args0_2 (N : Nat) (x y : PV) : args0 (N + 2) [x, y] = some x :: some y :: List.replicate N none := rfl
theorem args0_3 (N : Nat) (x y z : PV) : args0 (N + 3) [x, y, z] = some x :: some y :: some z :: List.replicate N none := rfl
theorem args0_4 (N : Nat) (x y z u : PV) : args0 (N + 4) [x, y, z, u] = some x :: some y :: some z :: some u :: List.replicate N none := rfl
theorem rep_0 (x : Option PV) : List.replicate 0 x = [] := rfl
theorem rep_s (n : Nat) (x : Option PV) : List.replicate (n + 1) x = x :: List.replicate n x := rfl

/-! ### the objects: some old ones, and new ones behind -/
theorem get_new {h L : PH} {n k : Nat} (e : h.length = n) : (h ++ L)[n + k]? = L[k]? := by
  subst e
  rw [List.getElem?_append_right (by omega)]
  congr 1
  omega
theorem get_new0 {h L : PH} {n : Nat} (e : h.length = n) : (h ++ L)[n]? = L[0]? := get_new (k := 0) e
theorem set_new {h L : PH} {n k : Nat} {o : MO} (e : h.length = n) : (h ++ L).set (n + k) o = h ++ L.set k o := by
  subst e
  rw [List.set_append_right _ _ (by omega)]
  congr 2
  omega
theorem set_new0 {h L : PH} {n : Nat} {o : MO} (e : h.length = n) : (h ++ L).set n o = h ++ L.set 0 o := set_new (k := 0) e
theorem len_new {h L : PH} {n : Nat} (e : h.length = n) : (h ++ L).length = n + L.length := by rw [List.length_append, e]
theorem get_old {h L : PH} {i : Nat} (l : i < h.length) : (h ++ L)[i]? = h[i]? := List.getElem?_append_left l
theorem get_lastO {h : PH} {o : MO} : (h ++ [o])[h.length]? = some o := by simp
theorem set_lastO {h : PH} {o p : MO} : (h ++ [o]).set h.length p = h ++ [p] := set_last h o p

/-! ### what reads an object, by the object -/
def kindO : Option MO → Option String
  | some (.lst _) => some "list"
  | some (.dK _) => some "dict"
  | some (.dT _) => some "dict"
  | none => none
theorem kindP_ref (h : PH) (n : Nat) : kindP h (.ref n) = kindO h[n]? := by
  unfold kindP kindO
  dsimp only
  all_goals cases h[n]? with
  | none => rfl
  | some o => cases o <;> rfl
theorem kindO_lst (xs : List PV) : kindO (some (.lst xs)) = some "list" := rfl
theorem kindO_dK (xs : List (L2.Key × PV)) : kindO (some (.dK xs)) = some "dict" := rfl
theorem kindP_str (h : PH) (x : Str) : kindP h (.str x) = some "str" := rfl
theorem dec_some (x : String) : decide (some x = some x) = true := decide_eq_true rfl
def appO (o : Option MO) (n : Nat) (y : PV) (h : PH) : Option (PV × PH) := match o with
  | some (.lst xs) => if decide (xs.length < 16777216) then some (.non, h.set n (.lst (xs ++ [y]))) else none
  | _ => none
theorem mAppend_ref (n : Nat) (y : PV) (h : PH) : mAppend (.ref n) [y] h = appO h[n]? n y h := by
  unfold mAppend lstAt appO
  dsimp only
  cases h[n]? with
  | none => rfl
  | some o => cases o <;> rfl
theorem appO_lst {xs : List PV} {n : Nat} {y : PV} {h : PH} (l : xs.length < 16777216) : appO (some (.lst xs)) n y h = some (.non, h.set n (.lst (xs ++ [y]))) := if_pos (decide_eq_true l)
theorem wP_app (xs : List PV) (n : Nat) (y : PV) (h : PH) (Q : PV → PH → Prop) : wP (appO (some (.lst xs)) n y h) Q = (xs.length < 16777216 ∧ Q .non (h.set n (.lst (xs ++ [y])))) := by
  by_cases l : xs.length < 16777216
  · rw [appO_lst l]
    simp [l, wP]
  · have : appO (some (.lst xs)) n y h = none := if_neg (by simpa using l)
    rw [this]
    simp [l, wP]
def popO (o : Option MO) (n : Nat) (h : PH) : Option (PV × PH) := match o with
  | some (.lst xs) => xs[xs.length - 1]?.map fun y => (y, h.set n (.lst xs.dropLast))
  | _ => none
theorem mPop_ref (n : Nat) (h : PH) : mPop (.ref n) [] h = popO h[n]? n h := by
  unfold mPop lstAt popO
  dsimp only
  cases h[n]? with
  | none => rfl
  | some o => cases o <;> rfl
theorem popO_snoc (xs : List PV) (x : PV) (n : Nat) (h : PH) : popO (some (.lst (xs ++ [x]))) n h = some (x, h.set n (.lst xs)) := by
  unfold popO
  simp
def extO (o p : Option MO) (n : Nat) (h : PH) : Option (PV × PH) := match o, p with
  | some (.lst xs), some (.lst zs) => if sizeOk (xs.length + zs.length) then some (.non, h.set n (.lst (xs ++ zs))) else none
  | _, _ => none
theorem mExtend_ref (n m : Nat) (h : PH) : mExtend (.ref n) [.ref m] h = extO h[n]? h[m]? n h := by
  unfold mExtend lstAt extO
  dsimp only
  cases h[n]? with
  | none => rfl
  | some o =>
    cases o with
    | lst xs =>
      cases h[m]? with
      | none => rfl
      | some p => cases p <;> rfl
    | _ => rfl
theorem wP_ext (xs zs : List PV) (n : Nat) (h : PH) (Q : PV → PH → Prop) : wP (extO (some (.lst xs)) (some (.lst zs)) n h) Q = (xs.length + zs.length ≤ 16777216 ∧ Q .non (h.set n (.lst (xs ++ zs)))) := by
  unfold extO sizeOk
  by_cases l : xs.length + zs.length ≤ 16777216
  · simp [l, wP]
  · simp [l, wP]
def seqL (o : Option MO) : Option (List PV) := match o with
  | some (.lst xs) => some xs
  | _ => none
theorem seqL_lst (xs : List PV) : seqL (some (.lst xs)) = some xs := rfl
theorem seqOf_ref (h : PH) (n : Nat) : seqOf h (.ref n) = seqL h[n]? := by
  unfold seqOf seqL
  dsimp only
  all_goals cases h[n]? with
  | none => rfl
  | some o => cases o <;> rfl
theorem seqOf_tup (h : PH) (xs : List PV) : seqOf h (.tup xs) = some xs := rfl
theorem seqOf_kt (h : PH) (xs : List PV) : seqOf h (.kt xs) = some xs := rfl
theorem seqOf_fz (h : PH) (xs : List PV) : seqOf h (.fz xs) = some xs := rfl
end Dn
namespace Dn
open PySem PySem.Spec PyProof.Rows L2 PySem.SeqAt
theorem map_none' {α β : Type} (f : α → β) : (none : Option α).map f = none := rfl
theorem fLen_seq {h : PH} {x : PV} {xs : List PV} (e : seqOf h x = some xs) : fLen [x] h = some (.int (xs.length : Nat), h) := by
  cases x with
  | str z => cases e
  | _ =>
    unfold fLen
    dsimp only
    rw [e]
    rfl
theorem fLen_tup' (h : PH) (xs : List PV) : fLen [.tup xs] h = some (.int (xs.length : Nat), h) := rfl
theorem fLen_kt (h : PH) (xs : List PV) : fLen [.kt xs] h = some (.int (xs.length : Nat), h) := rfl
theorem fLen_refO (h : PH) (n : Nat) : fLen [.ref n] h = (seqL h[n]?).map fun ys => (.int (ys.length : Nat), h) := by
  unfold fLen
  dsimp only
  rw [seqOf_ref]
theorem fTuple_refO (h : PH) (n : Nat) : fTuple [.ref n] h = (seqL h[n]?).map fun ys => (.tup ys, h) := by
  unfold fTuple
  dsimp only
  rw [seqOf_ref]
theorem fTuple_tup (h : PH) (xs : List PV) : fTuple [.tup xs] h = some (.tup xs, h) := rfl
theorem fList_refO (h : PH) (n : Nat) : fList [.ref n] h = (seqL h[n]?).map fun ys => (.ref h.length, h ++ [.lst ys]) := by
  unfold fList
  dsimp only
  rw [seqOf_ref]
theorem fList_tup (h : PH) (xs : List PV) : fList [.tup xs] h = some (.ref h.length, h ++ [.lst xs]) := rfl
/-- lists put together -/
def catO (o p : Option MO) (h : PH) : Option (PV × PH) := match o, p with
  | some (.lst xs), some (.lst ys) => if sizeOk (xs.length + ys.length) then some (.ref h.length, h ++ [.lst (xs ++ ys)]) else none
  | _, _ => none
theorem opAdd_ref (m n : Nat) (h : PH) : opAdd (.ref m) (.ref n) h = catO h[m]? h[n]? h := by
  unfold opAdd catO
  dsimp only
  all_goals cases h[m]? with
  | none => rfl
  | some o =>
    cases o with
    | lst xs =>
      cases h[n]? with
      | none => rfl
      | some p => cases p <;> rfl
    | _ => rfl
theorem wP_cat (xs ys : List PV) (h : PH) (Q : PV → PH → Prop) : wP (catO (some (.lst xs)) (some (.lst ys)) h) Q = (xs.length + ys.length ≤ 16777216 ∧ Q (.ref h.length) (h ++ [.lst (xs ++ ys)])) := by
  unfold catO sizeOk
  by_cases l : xs.length + ys.length ≤ 16777216
  · simp [l, wP]
  · simp [l, wP]
theorem opAdd_tup (xs ys : List PV) (h : PH) : opAdd (.tup xs) (.tup ys) h = if sizeOk (xs.length + ys.length) then some (.tup (xs ++ ys), h) else none := rfl
theorem wP_if (n : Nat) (a : PV) (h : PH) (Q : PV → PH → Prop) : wP (if sizeOk n = true then some (a, h) else none) Q = (n ≤ 16777216 ∧ Q a h) := by
  unfold sizeOk
  by_cases l : n ≤ 16777216
  · simp [l, wP]
  · simp [l, wP]
theorem wO_tup (xs : List PV) (h : PH) (Q : PV → PH → Prop) : wO (tupO xs h) Q = (xs.length ≤ 16777216 ∧ Q (.tup xs) h) := by
  unfold tupO
  rw [sizeLine_eq]
  by_cases l : xs.length ≤ 16777216
  · rw [if_pos l]; simp [l, wO]
  · rw [if_neg l]; simp [l, wO]
theorem wO_lst (xs : List PV) (h : PH) (Q : PV → PH → Prop) : wO (lstO xs h) Q = (xs.length ≤ 16777216 ∧ Q (.ref h.length) (h ++ [.lst xs])) := by
  unfold lstO
  rw [sizeLine_eq]
  by_cases l : xs.length ≤ 16777216
  · rw [if_pos l]; simp [l, wO]
  · rw [if_neg l]; simp [l, wO]
theorem lstO_1 (x : PV) (h : PH) : lstO [x] h = .ok (.ref h.length) (h ++ [.lst [x]]) := lstO_ok (by simp)
theorem lstO_2 (x y : PV) (h : PH) : lstO [x, y] h = .ok (.ref h.length) (h ++ [.lst [x, y]]) := lstO_ok (by simp)
theorem lstO_3 (x y z : PV) (h : PH) : lstO [x, y, z] h = .ok (.ref h.length) (h ++ [.lst [x, y, z]]) := lstO_ok (by simp)
theorem wP_map {α β : Type} (o : Option α) (f : α → β × PH) (Q : β → PH → Prop) : wP (o.map f) Q = ∃ a, o = some a ∧ Q (f a).1 (f a).2 := by
  cases o with
  | none => simp [wP]
  | some a =>
    rw [Option.map_some]
    generalize e : f a = p
    obtain ⟨b, h⟩ := p
    rw [wP_some]
    simp [e]
theorem fSet_ref' (n : Nat) (i v : PV) (h : PH) : fSet (.ref n) i v h = (match h[n]?, i with
    | some (.lst xs), .int k => (ixN xs.length k).map fun j => h.set n (.lst (xs.set j v))
    | some (.dK kvs), i => (keyOf i).bind fun k => if decide (kvs.length < 16777216) then some (h.set n (.dK (putG kvs k v))) else none
    | some (.dT kvs), .tup ks => (keysOf ks).bind fun k => if decide (kvs.length < 16777216) then some (h.set n (.dT (putG kvs k v))) else none
    | _, _ => none) := rfl
/-- beside an empty list -/
def neO (o p : Option MO) (m n : Nat) (h : PH) : Option (PV × PH) := match o, p with
  | some (.lst xs), some (.lst []) => some (.bl (decide (xs ≠ [])), h)
  | _, _ => opNe (.ref m) (.ref n) h
theorem opNe_ref (m n : Nat) (h : PH) : opNe (.ref m) (.ref n) h = neO h[m]? h[n]? m n h := by
  unfold neO
  split
  · rename_i xs e1 e2
    exact ne_nil e1 e2
  · rfl
theorem neO_nil (xs : List PV) (m n : Nat) (h : PH) : neO (some (.lst xs)) (some (.lst [])) m n h = some (.bl (decide (xs ≠ [])), h) := rfl
def eqO (o p : Option MO) (m n : Nat) (h : PH) : Option (PV × PH) := match o, p with
  | some (.lst xs), some (.lst []) => some (.bl (decide (xs = [])), h)
  | _, _ => opEq (.ref m) (.ref n) h
theorem eq_nil {h : PH} {m n : Nat} {xs : List PV} (e1 : h[m]? = some (.lst xs)) (e2 : h[n]? = some (.lst [])) : opEq (.ref m) (.ref n) h = some (.bl (decide (xs = [])), h) := by
  unfold opEq
  cases xs with
  | cons x r =>
    have : eqB h (.ref m) (.ref n) = some false := by
      unfold eqB lenB
      dsimp only
      rw [e1, e2]
      rfl
    rw [this]
    simp
  | nil =>
    have l : lenB h (.ref m) (.ref n) = none := by
      unfold lenB
      dsimp only
      rw [e1, e2]
      rfl
    have st : strB h (.ref m) (.ref n) = none := by
      unfold strB
      cases toD h 50 (.ref m) <;> rfl
    have : eqB h (.ref m) (.ref n) = some true := by
      unfold eqB
      rw [l, st]
      unfold eqV
      dsimp only
      rw [toD_nil (k := 49) e1, toD_nil (k := 49) e2]
      rfl
    rw [this]
    simp
theorem opEq_ref (m n : Nat) (h : PH) : opEq (.ref m) (.ref n) h = eqO h[m]? h[n]? m n h := by
  unfold eqO
  split
  · rename_i xs e1 e2
    exact eq_nil e1 e2
  · rfl
theorem eqO_nil (xs : List PV) (m n : Nat) (h : PH) : eqO (some (.lst xs)) (some (.lst [])) m n h = some (.bl (decide (xs = [])), h) := rfl
theorem opEq_nilT (xs : List PV) (h : PH) : opEq (.tup xs) (.tup []) h = some (.bl (decide (xs = [])), h) := by
  unfold opEq eqB lenB
  dsimp only
  rfl
theorem str_beq (a b : Str) : (b == a) = decide (a = b) := by
  by_cases e : a = b
  · subst e; simp
  · simp [e, Ne.symm e]
theorem opEq_str (a b : Str) (h : PH) : opEq (.str a) (.str b) h = some (.bl (decide (a = b)), h) := by
  unfold opEq eqB lenB strB toD
  dsimp only
  simp only [Rw.eqS, Option.map_some, str_beq]
theorem opNe_str (a b : Str) (h : PH) : opNe (.str a) (.str b) h = some (.bl (!decide (a = b)), h) := by
  unfold opNe neB toD
  dsimp only
  simp only [Rw.eqS, Option.map_some, str_beq]
theorem opNe_int (i j : Int) (h : PH) : opNe (.int i) (.int j) h = some (.bl (!decide (i = j)), h) := by
  unfold opNe neB toD
  dsimp only
  rfl
theorem opIs_non (x : PV) (h : PH) : opIs x .non h = some (.bl (isNon x), h) := by
  cases x <;> rfl
theorem opIsNot_non (x : PV) (h : PH) : opIsNot x .non h = some (.bl (!isNon x), h) := by
  cases x <;> rfl
theorem isNon_non : isNon .non = true := rfl
theorem isNon_tup (xs : List PV) : isNon (.tup xs) = false := rfl
theorem isNon_int (i : Int) : isNon (.int i) = false := rfl
def truO (o : Option Bool) (h : PH) : Out Bool := match o with
  | some b => .ok b h
  | none => .no
theorem tTru_ap (a : DE) (s : Sl) (h : PH) : tTru a s h = (a s h).bind fun x h => truO (truB h x) h := rfl
theorem truO_some (b : Bool) (h : PH) : truO (some b) h = .ok b h := rfl
theorem truB_bl (h : PH) (b : Bool) : truB h (.bl b) = some b := rfl
theorem truB_non (h : PH) : truB h .non = some false := rfl
theorem truB_int (h : PH) (i : Int) : truB h (.int i) = some (i != 0) := rfl
theorem truB_tup (h : PH) (xs : List PV) : truB h (.tup xs) = some (!xs.isEmpty) := rfl
def isiO (n : String) (o : Option String) (h : PH) : Out PV := match o with
  | some c => .ok (.bl (Rw.isC n c)) h
  | none => .no
theorem eIsi_ap (n : String) (a : DE) (s : Sl) (h : PH) : eIsi n a s h = (a s h).bind fun x h => isiO n (tyP h x) h := rfl
theorem isiO_some (n c : String) (h : PH) : isiO n (some c) h = .ok (.bl (Rw.isC n c)) h := rfl
theorem tyP_int (h : PH) (i : Int) : tyP h (.int i) = some "int" := rfl
theorem tyP_bl (h : PH) (i : Bool) : tyP h (.bl i) = some "bool" := rfl
theorem tyP_non (h : PH) : tyP h .non = some "NoneType" := rfl
theorem tyP_str (h : PH) (i : Str) : tyP h (.str i) = some "str" := rfl
theorem tyP_tup (h : PH) (i : List PV) : tyP h (.tup i) = some "tuple" := rfl
def andO (x : PV) (h : PH) (k : PH → Out PV) : Out PV := match x with
  | .bl true => k h
  | .bl false => .ok (.bl false) h
  | _ => .no
def orO (x : PV) (h : PH) (k : PH → Out PV) : Out PV := match x with
  | .bl true => .ok (.bl true) h
  | .bl false => k h
  | _ => .no
theorem eAnd_ap (a b : DE) (s : Sl) (h : PH) : eAnd a b s h = (a s h).bind fun x h => andO x h (b s) := by
  unfold eAnd andO
  congr 1
theorem eOr_ap (a b : DE) (s : Sl) (h : PH) : eOr a b s h = (a s h).bind fun x h => orO x h (b s) := by
  unfold eOr orO
  congr 1
theorem andO_true (h : PH) (k : PH → Out PV) : andO (.bl true) h k = k h := rfl
theorem andO_false (h : PH) (k : PH → Out PV) : andO (.bl false) h k = .ok (.bl false) h := rfl
theorem orO_true (h : PH) (k : PH → Out PV) : orO (.bl true) h k = .ok (.bl true) h := rfl
theorem orO_false (h : PH) (k : PH → Out PV) : orO (.bl false) h k = k h := rfl
theorem iteO_not {α : Type} (c : Bool) (a b : α) : iteO (!c) a b = iteO c b a := by cases c <;> rfl
theorem eChain_ap (f g : F2) (a b c : DE) (s : Sl) (h : PH) : eChain f g a b c s h = (a s h).bind fun x h => (b s h).bind fun y h => (Out.of (f x y h)).bind fun z h => andO z h fun h => (c s h).bind fun u h => Out.of (g y u h) := by
  unfold eChain andO
  congr 1
theorem wO_andD (p : Prop) [Decidable p] (h : PH) (k : PH → Out PV) (Q : PV → PH → Prop) : wO (andO (.bl (decide p)) h k) Q = ((p → wO (k h) Q) ∧ (¬ p → Q (.bl false) h)) := by
  by_cases c : p
  · simp [c, andO, wO]
  · simp [c, andO, wO]
theorem wO_orD (p : Prop) [Decidable p] (h : PH) (k : PH → Out PV) (Q : PV → PH → Prop) : wO (orO (.bl (decide p)) h k) Q = ((p → Q (.bl true) h) ∧ (¬ p → wO (k h) Q)) := by
  by_cases c : p
  · simp [c, orO, wO]
  · simp [c, orO, wO]
theorem wO_and (b : Bool) (h : PH) (k : PH → Out PV) (Q : PV → PH → Prop) : wO (andO (.bl b) h k) Q = ((b = true → wO (k h) Q) ∧ (b = false → Q (.bl false) h)) := by
  cases b <;> simp [andO, wO]
theorem wO_or (b : Bool) (h : PH) (k : PH → Out PV) (Q : PV → PH → Prop) : wO (orO (.bl b) h k) Q = ((b = true → Q (.bl true) h) ∧ (b = false → wO (k h) Q)) := by
  cases b <;> simp [orO, wO]
def notO (x : PV) (h : PH) : Out PV := match x with
  | .bl b => .ok (.bl (!b)) h
  | _ => .no
theorem eNot_ap (a : DE) (s : Sl) (h : PH) : eNot a s h = (a s h).bind fun x h => notO x h := by
  unfold eNot notO
  congr 1
theorem notO_bl (b : Bool) (h : PH) : notO (.bl b) h = .ok (.bl (!b)) h := rfl
def rg1O (v : PV) (h : PH) : Out Its' := match v with
  | .int j => if decide (-4611686018427387904 ≤ j ∧ j < 4611686018427387904) then .ok ([], rangeP 0 j.toNat) h else .no
  | _ => .no
theorem iRange1_ap (f : DE) (s : Sl) (h : PH) : iRange1 f s h = (f s h).bind fun v h => rg1O v h := rfl
theorem rg1O_ok {j : Int} {h : PH} (a : -4611686018427387904 ≤ j) (b : j < 4611686018427387904) : rg1O (.int j) h = .ok ([], rangeP 0 j.toNat) h := if_pos (decide_eq_true ⟨a, b⟩)
theorem wO_rg1 (j : Int) (h : PH) (Q : Its' → PH → Prop) : wO (rg1O (.int j) h) Q = ((-4611686018427387904 ≤ j ∧ j < 4611686018427387904) ∧ Q ([], rangeP 0 j.toNat) h) := by
  by_cases l : -4611686018427387904 ≤ j ∧ j < 4611686018427387904
  · rw [rg1O_ok l.1 l.2]
    simp [wO, l]
  · have : rg1O (.int j) h = .no := if_neg (by simpa using l)
    rw [this]
    simp [wO, l]
def rg2O (v w : PV) (h : PH) : Out Its' := match v, w with
  | .int i, .int j => if decide (-4611686018427387904 ≤ i ∧ i < 4611686018427387904 ∧ -4611686018427387904 ≤ j ∧ j < 4611686018427387904) then .ok ([], rangeP i (j - i).toNat) h else .no
  | _, _ => .no
theorem iRange2_ap (f g : DE) (s : Sl) (h : PH) : iRange2 f g s h = (f s h).bind fun v h => (g s h).bind fun w h => rg2O v w h := rfl
theorem wO_rg2 (i j : Int) (h : PH) (Q : Its' → PH → Prop) : wO (rg2O (.int i) (.int j) h) Q = ((-4611686018427387904 ≤ i ∧ i < 4611686018427387904 ∧ -4611686018427387904 ≤ j ∧ j < 4611686018427387904) ∧ Q ([], rangeP i (j - i).toNat) h) := by
  by_cases l : -4611686018427387904 ≤ i ∧ i < 4611686018427387904 ∧ -4611686018427387904 ≤ j ∧ j < 4611686018427387904
  · have : rg2O (.int i) (.int j) h = .ok ([], rangeP i (j - i).toNat) h := if_pos (decide_eq_true l)
    rw [this]
    simp only [wO, l, and_self, true_and]
  · have : rg2O (.int i) (.int j) h = .no := if_neg (by simpa using l)
    rw [this]
    simp only [wO, l, false_and]
def enO (o : Option MO) (n : Nat) (h : PH) : Out Its' := match o with
  | some (.lst xs) => .ok ([(n, xs)], enumP 0 xs) h
  | _ => .no
def enV (v : PV) (h : PH) : Out Its' := match v with
  | .tup xs => .ok ([], enumP 0 xs) h
  | .fz xs => .ok ([], enumP 0 xs) h
  | .ref n => enO h[n]? n h
  | _ => .no
theorem iEnumP_ap (f : DE) (s : Sl) (h : PH) : iEnumP f s h = (f s h).bind fun v h => enV v h := by
  unfold iEnumP
  congr 1
theorem enV_tup (xs : List PV) (h : PH) : enV (.tup xs) h = .ok ([], enumP 0 xs) h := rfl
theorem enV_ref (n : Nat) (h : PH) : enV (.ref n) h = enO h[n]? n h := rfl
theorem enO_lst (xs : List PV) (n : Nat) (h : PH) : enO (some (.lst xs)) n h = .ok ([(n, xs)], enumP 0 xs) h := rfl
theorem opSl_tup (xs : List PV) (lo hi : Option Int) (h : PH) : opSl (.tup xs) lo hi h = some (.tup (cutP xs lo hi), h) := rfl
theorem opNeg_int (i : Int) (h : PH) : opNeg (.int i) h = some (.int (-i), h) := rfl
theorem opMul_c (i j : Int) (h : PH) : opMul (.int i) (.int j) h = if (smallB i || smallB j) = true then some (.int (i * j), h) else none := rfl
theorem wP_mul (i j : Int) (h : PH) (Q : PV → PH → Prop) : wP (if (smallB i || smallB j) = true then some (.int (i * j), h) else none) Q = ((smallB i || smallB j) = true ∧ Q (.int (i * j)) h) := by
  by_cases l : (smallB i || smallB j) = true
  · rw [if_pos l]; simp only [wP, l, true_and]
  · rw [if_neg l]; simp only [wP, l, false_and]; simp
theorem eCallK_ap (m : DF) (pl : List Nat) (a : DA) (s : Sl) (h : PH) : eCallK m pl a s h = (a s h).bind fun xs h => m (atPl pl xs) h := rfl
theorem gTp_2 (g : List PV → Option (List (Nat × PV))) (a b : PV) : gTp 2 g (.tup [a, b]) = g [a, b] := rfl
theorem gTp_3 (g : List PV → Option (List (Nat × PV))) (a b c : PV) : gTp 3 g (.tup [a, b, c]) = g [a, b, c] := rfl
theorem gTp_4 (g : List PV → Option (List (Nat × PV))) (a b c d : PV) : gTp 4 g (.tup [a, b, c, d]) = g [a, b, c, d] := rfl
theorem gTp_ap (n : Nat) (g : List PV → Option (List (Nat × PV))) (xs : List PV) : gTp n g (.tup xs) = if xs.length = n then g xs else none := rfl
theorem gsNil_ap : gsNil [] = some [] := rfl
def gsO (a b : Option (List (Nat × PV))) : Option (List (Nat × PV)) := match a, b with
  | some a, some b => some (a ++ b)
  | _, _ => none
theorem gsCons_ap (g : GP) (r : List PV → Option (List (Nat × PV))) (v : PV) (vs : List PV) : gsCons g r (v :: vs) = gsO (g v) (r vs) := by
  unfold gsCons gsO
  dsimp only
  all_goals (cases g v <;> cases r vs <;> rfl)
theorem gsO_some (a b : List (Nat × PV)) : gsO (some a) (some b) = some (a ++ b) := rfl
end Dn
namespace Rw
open PySem L2
/-! ### data that can be shown: short leaves, not too deep, not too heavy -/
mutual
def strsO : PyData → Bool
  | .str x => PyData.strOk x
  | .list xs => strsOA xs
  | .tuple xs => strsOA xs
  | .dict kvs => strsOK kvs
  | _ => true
def strsOA : List PyData → Bool
  | [] => true
  | x :: xs => strsO x && strsOA xs
def strsOK : List (PyData × PyData) → Bool
  | [] => true
  | (a, b) :: r => strsO a && strsO b && strsOK r
end
structure Nc (k : Nat) (d : PyData) : Prop where
  sh : d.leavesShort 25 = true
  sw : d.showable = true
  dp : d.depth ≤ k
  so : strsO d = true
structure NcAll (k : Nat) (ds : List PyData) : Prop where
  sh : PyData.leavesShortAll 25 ds = true
  sw : PyData.showableAll ds = true
  dp : PyData.depthAll ds ≤ k
  so : strsOA ds = true
theorem Nc.up {k j : Nat} {d : PyData} (h : Nc k d) (e : k ≤ j) : Nc j d := ⟨h.sh, h.sw, Nat.le_trans h.dp e, h.so⟩
theorem NcAll.up {k j : Nat} {d : List PyData} (h : NcAll k d) (e : k ≤ j) : NcAll j d := ⟨h.sh, h.sw, Nat.le_trans h.dp e, h.so⟩
theorem Nc.non {k : Nat} : Nc k .none := ⟨rfl, rfl, Nat.zero_le _, rfl⟩
theorem Nc.bl {k : Nat} (b : Bool) : Nc k (.bool b) := ⟨rfl, rfl, Nat.zero_le _, rfl⟩
theorem Nc.int {k : Nat} {i : Int} (h : i.natAbs < 10 ^ 20) : Nc k (.int i) := by
  refine ⟨?_, ?_, Nat.zero_le _, rfl⟩
  · have e := int_text_length_le10 (k := 20) (by decide) h
    have e2 : (PyData.shown (.int i)).length ≤ 25 := by
      show (Str.ofString (toString i)).length ≤ 25
      rw [ofString_length]
      omega
    simp only [PyData.leavesShort, decide_eq_true e2]
  · have l : i.natAbs.log2 < 1920 := by
      by_cases h0 : i.natAbs = 0
      · rw [h0]
        decide
      · have q : i.natAbs.log2 < 69 := (Nat.log2_lt h0).mpr (Nat.lt_trans h (by decide))
        omega
    simp only [PyData.showable, decide_eq_true l]
theorem Nc.str {k : Nat} {x : Str} (h : (x.cps.toList.all fun c => decide (c < 1114112)) = true) : Nc k (.str x) := by
  have h2 := List.all_eq_true.mp h
  refine ⟨?_, rfl, Nat.zero_le _, ?_⟩
  · show (x.cps.toList.all fun c => decide (c < 16 ^ 8)) = true
    exact List.all_eq_true.mpr fun c hc => decide_eq_true (Nat.lt_trans (of_decide_eq_true (h2 c hc)) (by decide))
  · show PyData.strOk x = true
    unfold PyData.strOk
    rw [← Array.all_toList]
    exact h
theorem NcAll.nil {k : Nat} : NcAll k [] := ⟨rfl, rfl, Nat.zero_le _, rfl⟩
theorem NcAll.cons {k : Nat} {d : PyData} {ds : List PyData} (a : Nc k d) (b : NcAll k ds) : NcAll k (d :: ds) := by
  refine ⟨?_, ?_, ?_, by simp only [strsOA, a.so, b.so, Bool.and_self]⟩
  · simp only [PyData.leavesShortAll, a.sh, b.sh, Bool.and_self]
  · simp only [PyData.showableAll, a.sw, b.sw, Bool.and_self]
  · simp only [PyData.depthAll]
    exact Nat.max_le.mpr ⟨a.dp, b.dp⟩
theorem NcAll.parts {k : Nat} {d : PyData} {ds : List PyData} (h : NcAll k (d :: ds)) : Nc k d ∧ NcAll k ds := by
  have h1 : d.leavesShort 25 = true ∧ PyData.leavesShortAll 25 ds = true := by
    have q := h.sh
    simpa only [PyData.leavesShortAll, Bool.and_eq_true] using q
  have h2 : d.showable = true ∧ PyData.showableAll ds = true := by
    have q := h.sw
    simpa only [PyData.showableAll, Bool.and_eq_true] using q
  have h3 : d.depth ≤ k ∧ PyData.depthAll ds ≤ k := by
    have q := h.dp
    simp only [PyData.depthAll] at q
    exact Nat.max_le.mp q
  have h4 : strsO d = true ∧ strsOA ds = true := by
    have q := h.so
    simpa only [strsOA, Bool.and_eq_true] using q
  exact ⟨⟨h1.1, h2.1, h3.1, h4.1⟩, ⟨h1.2, h2.2, h3.2, h4.2⟩⟩
theorem NcAll.iff {k : Nat} : ∀ {ds : List PyData}, NcAll k ds ↔ ∀ d ∈ ds, Nc k d
  | [] => ⟨fun _ d h => absurd h (by simp), fun _ => NcAll.nil⟩
  | d :: ds => by
    constructor
    · intro h x hx
      rcases List.mem_cons.mp hx with e | e
      · rw [e]
        exact h.parts.1
      · exact NcAll.iff.mp h.parts.2 x e
    · intro h
      exact .cons (h d List.mem_cons_self) (NcAll.iff.mpr fun x hx => h x (List.mem_cons_of_mem _ hx))
theorem Nc.tup {k : Nat} {ds : List PyData} (h : NcAll k ds) : Nc (k + 1) (.tuple ds) := by
  refine ⟨?_, ?_, ?_, by simp only [strsO, h.so]⟩
  · simp only [PyData.leavesShort, h.sh]
  · simp only [PyData.showable, h.sw]
  · simp only [PyData.depth]
    have := h.dp
    omega
theorem Nc.lst {k : Nat} {ds : List PyData} (h : NcAll k ds) : Nc (k + 1) (.list ds) := by
  refine ⟨?_, ?_, ?_, by simp only [strsO, h.so]⟩
  · simp only [PyData.leavesShort, h.sh]
  · simp only [PyData.showable, h.sw]
  · simp only [PyData.depth]
    have := h.dp
    omega
theorem Nc.dct {k : Nat} {x : Str} {d : PyData} (hx : Nc k (.str x)) (h : Nc k d) : Nc (k + 1) (.dict [(.str x, d)]) := by
  refine ⟨?_, ?_, ?_, by have := hx.so; simp only [strsO] at this; simp only [strsO, strsOK, this, h.so, Bool.and_self]⟩
  · simp only [PyData.leavesShort, PyData.leavesShortKv, h.sh, Bool.and_true]
    exact hx.sh
  · simp only [PyData.showable, PyData.showableKv, h.sw, Bool.and_self]
  · simp only [PyData.depth, PyData.depthKv]
    have := h.dp
    omega
theorem Nc.of_tup {k : Nat} {ds : List PyData} (h : Nc k (.tuple ds)) : NcAll (k - 1) ds ∧ 1 ≤ k := by
  have h1 := h.sh
  have h2 := h.sw
  have h3 := h.dp
  simp only [PyData.leavesShort] at h1
  simp only [PyData.showable] at h2
  simp only [PyData.depth] at h3
  exact ⟨⟨h1, h2, by omega, by have := h.so; simpa only [strsO] using this⟩, by omega⟩
theorem NcAll.app {k : Nat} {ds es : List PyData} (a : NcAll k ds) (b : NcAll k es) : NcAll k (ds ++ es) := NcAll.iff.mpr fun d hd => by
  rcases List.mem_append.mp hd with e | e
  · exact NcAll.iff.mp a d e
  · exact NcAll.iff.mp b d e
theorem NcAll.sub {k : Nat} {ds es : List PyData} (a : NcAll k ds) (h : ∀ d ∈ es, d ∈ ds) : NcAll k es := NcAll.iff.mpr fun d hd => NcAll.iff.mp a d (h d hd)
theorem NcAll.set {k : Nat} {ds : List PyData} {d : PyData} (a : NcAll k ds) (b : Nc k d) (i : Nat) : NcAll k (ds.set i d) := NcAll.iff.mpr fun x hx => by
  rcases List.mem_or_eq_of_mem_set hx with e | e
  · exact NcAll.iff.mp a x e
  · rw [e]
    exact b
theorem wA_app : ∀ ds es : List PyData, PyData.weightAll (ds ++ es) = PyData.weightAll ds + PyData.weightAll es
  | [], es => by simp [PyData.weightAll]
  | d :: ds, es => by
    rw [List.cons_append]
    simp only [PyData.weightAll, wA_app ds es]
    omega
theorem wA_mem : ∀ {ds : List PyData} {d : PyData}, d ∈ ds → d.weight + 1 ≤ PyData.weightAll ds
  | e :: ds, d, h => by
    simp only [PyData.weightAll]
    rcases List.mem_cons.mp h with q | q
    · rw [q]
      omega
    · have := wA_mem q
      omega
theorem wA_take (n : Nat) (ds : List PyData) : PyData.weightAll (ds.take n) ≤ PyData.weightAll ds := by
  have h := wA_app (ds.take n) (ds.drop n)
  rw [List.take_append_drop] at h
  omega
theorem wA_drop (n : Nat) (ds : List PyData) : PyData.weightAll (ds.drop n) ≤ PyData.weightAll ds := by
  have h := wA_app (ds.take n) (ds.drop n)
  rw [List.take_append_drop] at h
  omega
theorem wA_set : ∀ (ds : List PyData) (i : Nat) (d : PyData), PyData.weightAll (ds.set i d) ≤ PyData.weightAll ds + d.weight + 1
  | [], _, _ => by simp [PyData.weightAll]
  | e :: ds, 0, d => by
    rw [List.set_cons_zero]
    simp only [PyData.weightAll]
    omega
  | e :: ds, i + 1, d => by
    rw [List.set_cons_succ]
    simp only [PyData.weightAll]
    have := wA_set ds i d
    omega
theorem wA_len : ∀ ds : List PyData, ds.length ≤ PyData.weightAll ds
  | [] => Nat.zero_le _
  | d :: ds => by
    simp only [PyData.weightAll, List.length_cons]
    have := wA_len ds
    omega
theorem w_int {i : Int} (h : i.natAbs < 10 ^ 20) : (PyData.int i).weight ≤ 70 := by
  simp only [PyData.weight]
  split
  · omega
  · rename_i h0
    have n0 : i.natAbs ≠ 0 := by
      intro e
      apply h0
      simp [Int.natAbs_eq_zero.mp e]
    have : i.natAbs.log2 < 69 := (Nat.log2_lt n0).mpr (Nat.lt_trans h (by decide))
    omega
theorem Nc.fits {k : Nat} {d : PyData} (h : Nc k d) (w : d.weight ≤ 500000) : d.shown.length ≤ sizeLine := by
  have e := PyData.shown_le 25 (by decide) d h.sh
  rw [sizeLine_eq]
  omega
end Rw
namespace Dn
open PySem PySem.Spec PyProof.Rows L2 PySem.SeqAt Rw

/-! ### a value as data, beside the deck -/
/-- the objects but for the first n -/
def msk (n : Nat) (h : PH) : PH := h.mapIdx fun i o => if i < n then .dT [] else o
def shownO : MO → Bool
  | .lst _ => true
  | .dK [(.inr _, _)] => true
  | _ => false
theorem allD_some {f : PV → Option PyData} : ∀ {xs : List PV} {ds : List PyData}, allD f xs = some ds ↔ ∃ l : xs.length = ds.length, ∀ (i : Nat) x d, xs[i]? = some x → ds[i]? = some d → f x = some d
  | [], ds => by
    constructor
    · intro e
      cases e
      exact ⟨rfl, fun i x d h => by simp at h⟩
    · rintro ⟨l, _⟩
      cases ds with
      | nil => rfl
      | cons _ _ => simp at l
  | x :: xs, ds => by
    constructor
    · intro e
      obtain ⟨d, es, rfl, h1, h2⟩ := allD_cons e
      obtain ⟨l, q⟩ := allD_some.mp h2
      refine ⟨by simp [l], fun i y z a b => ?_⟩
      cases i with
      | zero => cases a; cases b; exact h1
      | succ i => exact q i y z (by simpa using a) (by simpa using b)
    · rintro ⟨l, q⟩
      cases ds with
      | nil => simp at l
      | cons d ds =>
        unfold allD
        rw [q 0 x d rfl rfl, allD_some.mpr ⟨by simpa using l, fun i y z a b => q (i + 1) y z (by simpa using a) (by simpa using b)⟩]
theorem allD_len {f : PV → Option PyData} {xs : List PV} {ds : List PyData} (e : allD f xs = some ds) : xs.length = ds.length := (allD_some.mp e).1
theorem allD_mono {f f' : PV → Option PyData} : ∀ {xs : List PV} {ds : List PyData}, (∀ x ∈ xs, ∀ d, f x = some d → f' x = some d) → allD f xs = some ds → allD f' xs = some ds
  | [], _, _, e => e
  | x :: xs, ds, k, e => by
    obtain ⟨d, es, rfl, h1, h2⟩ := allD_cons e
    unfold allD
    rw [k x (by simp) d h1, allD_mono (fun y hy => k y (List.mem_cons_of_mem _ hy)) h2]
theorem allD_app {f : PV → Option PyData} : ∀ {xs ys : List PV} {ds es : List PyData}, allD f xs = some ds → allD f ys = some es → allD f (xs ++ ys) = some (ds ++ es)
  | [], _, _, _, e, q => by cases e; exact q
  | x :: xs, ys, ds, es, e, q => by
    obtain ⟨d, es2, rfl, h1, h2⟩ := allD_cons e
    show allD f (x :: (xs ++ ys)) = _
    unfold allD
    rw [h1, allD_app h2 q]
    rfl
theorem allD_take {f : PV → Option PyData} : ∀ {xs : List PV} {ds : List PyData} (n : Nat), allD f xs = some ds → allD f (xs.take n) = some (ds.take n)
  | _, _, 0, _ => rfl
  | [], _, _ + 1, e => by cases e; rfl
  | x :: xs, ds, n + 1, e => by
    obtain ⟨d, es2, rfl, h1, h2⟩ := allD_cons e
    show allD f (x :: xs.take n) = some (d :: es2.take n)
    unfold allD
    rw [h1, allD_take n h2]
theorem allD_drop {f : PV → Option PyData} : ∀ {xs : List PV} {ds : List PyData} (n : Nat), allD f xs = some ds → allD f (xs.drop n) = some (ds.drop n)
  | _, _, 0, e => e
  | [], _, _ + 1, e => by cases e; rfl
  | x :: xs, ds, n + 1, e => by
    obtain ⟨d, es2, rfl, h1, h2⟩ := allD_cons e
    exact allD_drop n h2
/-- a value as data, without tuples of the module -/
def toE (ph : PH) : Nat → PV → Option PyData
  | 0, _ => none
  | n + 1, x => match x with
    | .non => some .none
    | .bl b => some (.bool b)
    | .int i => some (.int i)
    | .str z => some (.str z)
    | .tup xs => (allD (toE ph n) xs).map .tuple
    | .kt _ => none
    | .fz _ => none
    | .ref k => match ph[k]? with
      | some (.lst xs) => (allD (toE ph n) xs).map .list
      | some (.dK [(.inr z, y)]) => (toE ph n y).map fun d => .dict [(.str z, d)]
      | _ => none
theorem toE_toD {h : PH} : ∀ (k : Nat) {v : PV} {d : PyData}, toE h k v = some d → toD h k v = some d
  | 0, _, _, e => by cases e
  | k + 1, v, d, e => by
    have ih := fun v d => toE_toD (h := h) k (v := v) (d := d)
    unfold toE at e
    unfold toD
    cases v with
    | tup xs =>
      dsimp only at e ⊢
      cases q : allD (toE h k) xs with
      | none => rw [q] at e; cases e
      | some ds => rw [q] at e; rw [allD_mono (fun x _ d => ih x d) q]; exact e
    | kt xs => cases e
    | ref n =>
      dsimp only at e ⊢
      split at e
      · rename_i xs eh
        try rw [eh]
        try dsimp only
        cases q : allD (toE h k) xs with
        | none => rw [q] at e; cases e
        | some ds => rw [q] at e; rw [allD_mono (fun x _ d => ih x d) q]; exact e
      · rename_i z y eh
        try rw [eh]
        try dsimp only
        cases q : toE h k y with
        | none => rw [q] at e; cases e
        | some ds => rw [q] at e; rw [ih _ _ q]; exact e
      · cases e
    | _ => exact e
theorem toE_mono {h : PH} : ∀ (k : Nat) {v : PV} {d : PyData}, toE h k v = some d → toE h (k + 1) v = some d
  | 0, _, _, e => by cases e
  | k + 1, v, d, e => by
    have ih := fun v d => toE_mono (h := h) k (v := v) (d := d)
    unfold toE at e ⊢
    cases v with
    | tup xs =>
      dsimp only at e ⊢
      cases q : allD (toE h k) xs with
      | none => rw [q] at e; cases e
      | some ds => rw [q] at e; rw [allD_mono (fun x _ d => ih x d) q]; exact e
    | kt xs => cases e
    | ref n =>
      dsimp only at e ⊢
      split at e
      · rename_i xs eh
        cases q : allD (toE h k) xs with
        | none => rw [q] at e; cases e
        | some ds => rw [q] at e; rw [allD_mono (fun x _ d => ih x d) q]; exact e
      · rename_i z y eh
        cases q : toE h k y with
        | none => rw [q] at e; cases e
        | some ds => rw [q] at e; rw [ih _ _ q]; exact e
      · cases e
    | _ => exact e
theorem toE_up {h : PH} {j k : Nat} {v : PV} {d : PyData} (l : j ≤ k) (e : toE h j v = some d) : toE h k v = some d := by
  obtain ⟨m, rfl⟩ := Nat.exists_eq_add_of_le l
  clear l
  induction m with
  | zero => exact e
  | succ m ih => exact toE_mono _ ih
theorem toE_ext {h h2 : PH} (q : ∀ (i : Nat) o, h[i]? = some o → shownO o = true → h2[i]? = some o) : ∀ (k : Nat) {v : PV} {d : PyData}, toE h k v = some d → toE h2 k v = some d
  | 0, _, _, e => by cases e
  | k + 1, v, d, e => by
    have ih := fun v d => toE_ext q k (v := v) (d := d)
    unfold toE at e ⊢
    cases v with
    | tup xs =>
      dsimp only at e ⊢
      cases q : allD (toE h k) xs with
      | none => rw [q] at e; cases e
      | some ds => rw [q] at e; rw [allD_mono (fun x _ d => ih x d) q]; exact e
    | kt xs => cases e
    | ref n =>
      dsimp only at e ⊢
      split at e
      · rename_i xs eh
        rw [q n _ eh rfl]
        dsimp only
        cases q : allD (toE h k) xs with
        | none => rw [q] at e; cases e
        | some ds => rw [q] at e; rw [allD_mono (fun x _ d => ih x d) q]; exact e
      · rename_i z y eh
        rw [q n _ eh rfl]
        dsimp only
        cases q : toE h k y with
        | none => rw [q] at e; cases e
        | some ds => rw [q] at e; rw [ih _ _ q]; exact e
      · cases e
    | _ => exact e
theorem toE_low {h : PH} : ∀ (k : Nat) {v : PV} {d : PyData}, toE h k v = some d → v.lowr h.length = true
  | 0, _, _, e => by cases e
  | k + 1, v, d, e => by
    have ih := fun v d => toE_low (h := h) k (v := v) (d := d)
    have all : ∀ {xs : List PV} {ds : List PyData}, allD (toE h k) xs = some ds → PV.lowrs h.length xs = true := by
      intro xs
      induction xs with
      | nil => intro _ _; rfl
      | cons x xs ih2 =>
        intro ds e
        obtain ⟨d, es, rfl, h1, h2⟩ := allD_cons e
        simp only [PV.lowrs, ih _ _ h1, ih2 h2, Bool.and_self]
    unfold toE at e
    cases v with
    | tup xs =>
      dsimp only at e
      cases q : allD (toE h k) xs with
      | none => rw [q] at e; cases e
      | some ds => exact all q
    | kt xs => cases e
    | fz xs => cases e
    | ref n =>
      dsimp only at e
      have : ∃ o, h[n]? = some o := by
        split at e
        · exact ⟨_, by assumption⟩
        · exact ⟨_, by assumption⟩
        · cases e
      obtain ⟨o, ho⟩ := this
      simp only [PV.lowr, decide_eq_true_eq]
      exact (List.getElem?_eq_some_iff.mp ho).1
    | _ => rfl
theorem msk_at {n : Nat} {h : PH} {i : Nat} {o : MO} (e : (msk n h)[i]? = some o) (s : shownO o = true) : n ≤ i ∧ h[i]? = some o := by
  unfold msk at e
  rw [List.getElem?_mapIdx] at e
  cases q : h[i]? with
  | none => rw [q] at e; cases e
  | some u =>
    rw [q] at e
    simp only [Option.map_some, Option.some.injEq] at e
    by_cases c : i < n
    · rw [if_pos c] at e
      subst e
      cases s
    · rw [if_neg c] at e
      exact ⟨by omega, by rw [e]⟩
theorem msk_of {n : Nat} {h : PH} {i : Nat} {o : MO} (l : n ≤ i) (e : h[i]? = some o) : (msk n h)[i]? = some o := by
  unfold msk
  rw [List.getElem?_mapIdx, e]
  simp only [Option.map_some, if_neg (show ¬ i < n by omega)]
theorem msk_len {n : Nat} {h : PH} : (msk n h).length = h.length := List.length_mapIdx
theorem msk_toD {n k : Nat} {h : PH} {v : PV} {d : PyData} (e : toE (msk n h) k v = some d) : toD h k v = some d := toE_toD k (toE_ext (fun _ _ q s => (msk_at q s).2) k e)
/-- data of objects from n on: k deep, w heavy at most -/
def Da (k w n : Nat) (h : PH) (v : PV) : Prop := ∃ d, toE (msk n h) k v = some d ∧ Nc k d ∧ d.weight ≤ w
def Das (k w n : Nat) (h : PH) (xs : List PV) : Prop := ∃ ds, allD (toE (msk n h) k) xs = some ds ∧ NcAll k ds ∧ PyData.weightAll ds ≤ w
/-- what is shown from n on in h is so in h2, from n2 on -/
def Kp (n : Nat) (h : PH) (n2 : Nat) (h2 : PH) : Prop := ∀ (i : Nat) o, n ≤ i → h[i]? = some o → shownO o = true → n2 ≤ i ∧ h2[i]? = some o
theorem Kp.msk {n n2 : Nat} {h h2 : PH} (k : Kp n h n2 h2) : ∀ (i : Nat) o, (msk n h)[i]? = some o → shownO o = true → (msk n2 h2)[i]? = some o := fun i o e s => by
  obtain ⟨a, b⟩ := msk_at e s
  obtain ⟨c, d⟩ := k i o a b s
  exact msk_of c d
theorem Da.kp {k w n n2 : Nat} {h h2 : PH} {v : PV} (a : Da k w n h v) (q : Kp n h n2 h2) : Da k w n2 h2 v := by
  obtain ⟨x, e, m, l⟩ := a
  exact ⟨x, toE_ext q.msk k e, m, l⟩
theorem Das.kp {k w n n2 : Nat} {h h2 : PH} {v : List PV} (a : Das k w n h v) (q : Kp n h n2 h2) : Das k w n2 h2 v := by
  obtain ⟨x, e, m, l⟩ := a
  exact ⟨x, allD_mono (fun _ _ d e => toE_ext q.msk k e) e, m, l⟩
/-- what the deck's draws leave -/
theorem Ov.kp {d g n : Nat} {h h2 : PH} (ld : d < n) (lg : g < n) (O : Ov d g h h2) : Kp n h n h2 := fun i o l e _ => by
  refine ⟨l, ?_⟩
  rw [O.at_ i (List.getElem?_eq_some_iff.mp e).1 (by omega) (by omega)]
  exact e
theorem Kp.less {n m : Nat} {h : PH} (l : m ≤ n) : Kp n h m h := fun i o a e _ => ⟨by omega, e⟩
theorem Kp.set {n i : Nat} {h : PH} {o : MO} (l : i < n) : Kp n h n (h.set i o) := fun j p a e _ => ⟨a, by rw [List.getElem?_set_ne (by omega)]; exact e⟩
theorem Kp.push {n : Nat} {h : PH} {o : MO} : Kp n h n (h ++ [o]) := fun j p a e _ => ⟨a, by rw [List.getElem?_append_left (List.getElem?_eq_some_iff.mp e).1]; exact e⟩
theorem Kp.trans {n n2 n3 : Nat} {h h2 h3 : PH} (a : Kp n h n2 h2) (b : Kp n2 h2 n3 h3) : Kp n h n3 h3 := fun i o l e s => by
  obtain ⟨x, y⟩ := a i o l e s
  exact b i o x y s
theorem Da.low {k w n : Nat} {h : PH} {v : PV} (a : Da k w n h v) : v.lowr h.length = true := by
  obtain ⟨d, e, _⟩ := a
  have := toE_low k e
  rwa [msk_len] at this
theorem Da.up {k w k2 w2 g : Nat} {h : PH} {v : PV} (a : Da k w g h v) (lk : k ≤ k2) (lw : w ≤ w2) : Da k2 w2 g h v := by
  obtain ⟨d, e, n, l⟩ := a
  exact ⟨d, toE_up lk e, n.up lk, Nat.le_trans l lw⟩
theorem Das.up {k w k2 w2 g : Nat} {h : PH} {v : List PV} (a : Das k w g h v) (lk : k ≤ k2) (lw : w ≤ w2) : Das k2 w2 g h v := by
  obtain ⟨d, e, n, l⟩ := a
  exact ⟨d, allD_mono (fun _ _ _ q => toE_up lk q) e, n.up lk, Nat.le_trans l lw⟩
theorem Da.non {k w g : Nat} {h : PH} : Da (k + 1) w g h .non := ⟨.none, rfl, .non, Nat.zero_le _⟩
theorem Da.bl {k w g : Nat} {h : PH} (b : Bool) : Da (k + 1) w g h (.bl b) := ⟨.bool b, rfl, .bl b, Nat.zero_le _⟩
theorem Da.int {k w g : Nat} {h : PH} {i : Int} (l : i.natAbs < 10 ^ 20) (lw : 70 ≤ w) : Da (k + 1) w g h (.int i) := ⟨.int i, rfl, .int l, Nat.le_trans (w_int l) lw⟩
theorem Da.str {k w g : Nat} {h : PH} {x : Str} (l : (x.cps.toList.all fun c => decide (c < 1114112)) = true) (lw : x.cps.size ≤ w) : Da (k + 1) w g h (.str x) := ⟨.str x, rfl, .str l, by simp only [PyData.weight]; exact lw⟩
theorem Das.nil {k w g : Nat} {h : PH} : Das k w g h [] := ⟨[], rfl, .nil, Nat.zero_le _⟩
theorem Das.cons {k w1 w2 w g : Nat} {h : PH} {x : PV} {xs : List PV} (a : Da k w1 g h x) (b : Das k w2 g h xs) (l : w1 + 1 + w2 ≤ w) : Das k w g h (x :: xs) := by
  obtain ⟨d, e, n, q⟩ := a
  obtain ⟨ds, e2, n2, q2⟩ := b
  refine ⟨d :: ds, by unfold allD; rw [e, e2], .cons n n2, ?_⟩
  simp only [PyData.weightAll]
  omega
theorem Das.app {k w1 w2 w g : Nat} {h : PH} {xs ys : List PV} (a : Das k w1 g h xs) (b : Das k w2 g h ys) (l : w1 + w2 ≤ w) : Das k w g h (xs ++ ys) := by
  obtain ⟨d, e, n, q⟩ := a
  obtain ⟨ds, e2, n2, q2⟩ := b
  refine ⟨d ++ ds, allD_app e e2, n.app n2, ?_⟩
  rw [wA_app]
  omega
theorem Das.take {k w g : Nat} {h : PH} {xs : List PV} (a : Das k w g h xs) (n : Nat) : Das k w g h (xs.take n) := by
  obtain ⟨d, e, m, q⟩ := a
  exact ⟨d.take n, allD_take n e, m.sub fun x hx => List.mem_of_mem_take hx, Nat.le_trans (wA_take n d) q⟩
theorem Das.drop {k w g : Nat} {h : PH} {xs : List PV} (a : Das k w g h xs) (n : Nat) : Das k w g h (xs.drop n) := by
  obtain ⟨d, e, m, q⟩ := a
  exact ⟨d.drop n, allD_drop n e, m.sub fun x hx => List.mem_of_mem_drop hx, Nat.le_trans (wA_drop n d) q⟩
theorem Das.at_ {k w g : Nat} {h : PH} {xs : List PV} {x : PV} (a : Das k w g h xs) (hx : x ∈ xs) : Da k w g h x := by
  obtain ⟨ds, e, n, l⟩ := a
  obtain ⟨i, li, ei⟩ := List.getElem_of_mem hx
  obtain ⟨ll, q⟩ := allD_some.mp e
  have l2 : i < ds.length := by omega
  have hd := List.getElem_mem l2
  refine ⟨ds[i], q i x _ (by rw [List.getElem?_eq_getElem li, ei]) (List.getElem?_eq_getElem l2), NcAll.iff.mp n _ hd, ?_⟩
  have := wA_mem hd
  omega
theorem Da.nk {k w g : Nat} {h : PH} {v : PV} (a : Da k w g h v) : ∀ xs, v ≠ .kt xs := fun xs e => by
  subst e
  obtain ⟨d, e, _⟩ := a
  cases k <;> cases e
theorem Da.tup {k w g : Nat} {h : PH} {xs : List PV} (a : Das k w g h xs) : Da (k + 1) w g h (.tup xs) := by
  obtain ⟨ds, e, n, l⟩ := a
  refine ⟨.tuple ds, ?_, .tup n, by simp only [PyData.weight]; exact l⟩
  unfold toE
  dsimp only
  rw [e]
  rfl
theorem Da.of_tup {k w g : Nat} {h : PH} {xs : List PV} (a : Da (k + 1) w g h (.tup xs)) : Das k w g h xs := by
  obtain ⟨d, e, n, l⟩ := a
  unfold toE at e
  dsimp only at e
  cases q : allD (toE (msk g h) k) xs with
  | none => rw [q] at e; cases e
  | some ds =>
    rw [q] at e
    cases e
    exact ⟨ds, q, n.of_tup.1, by simp only [PyData.weight] at l; exact l⟩
theorem Da.lst {k w g i : Nat} {h : PH} {xs : List PV} (a : Das k w g h xs) (e : h[i]? = some (.lst xs)) (c : g ≤ i) : Da (k + 1) w g h (.ref i) := by
  obtain ⟨ds, q, n, l⟩ := a
  refine ⟨.list ds, ?_, .lst n, by simp only [PyData.weight]; exact l⟩
  unfold toE
  dsimp only
  rw [msk_of c e]
  dsimp only
  rw [q]
  rfl
theorem Da.dct {k w g i : Nat} {h : PH} {x : Str} {y : PV} (a : Da k w g h y) (e : h[i]? = some (.dK [(.inr x, y)])) (c : g ≤ i) (hx : (x.cps.toList.all fun c => decide (c < 1114112)) = true) : Da (k + 1) (w + x.cps.size + 2) g h (.ref i) := by
  obtain ⟨ds, q, n, l⟩ := a
  refine ⟨.dict [(.str x, ds)], ?_, .dct (.str hx) n, by simp only [PyData.weight, PyData.weightKv]; omega⟩
  unfold toE
  dsimp only
  rw [msk_of c e]
  dsimp only
  rw [q]
  rfl
end Dn
namespace Dn
open PySem PySem.Spec PyProof.Rows L2 PySem.SeqAt Rw

/-! ### loops, by what holds from turn to turn -/
theorem ne_w {α : Type} {o : Out α} {Q : α → PH → Prop} (q : wO o Q) : wO o.ne Q := by
  cases o with
  | ok a h => exact q
  | err _ _ => rw [wO_err] at q; exact q.elim
  | no => exact q
/-- a comprehension: J tells of the number of items done, the new list's items, the objects -/
theorem comp_w {gs : List (Nat × List PV)} {g : GP} {t : DT} {e : DE} {n : Nat} {s : Sl} (J : Nat → List PV → PH → Prop) {items : List PV} (hn : ∀ i acc h, J i acc h → h[n]? = some (.lst acc) ∧ okG gs h = true)
    (step : ∀ i x, items[i]? = some x → ∀ acc h, J i acc h → ∃ as, g x = some as ∧ wO (t (setP as s) h) fun b h1 => (b = true → wO (e (setP as s) h1) fun y h2 => h2[n]? = some (.lst acc) ∧ acc.length < 16777216 ∧ J (i + 1) (acc ++ [y]) (h2.set n (.lst (acc ++ [y])))) ∧ (b = false → J (i + 1) acc h1))
    {Q : Unit → PH → Prop} : ∀ (k : Nat) (acc : List PV) (h : PH), k ≤ items.length → J k acc h → (∀ acc h, J items.length acc h → Q () h) → wO (compItems gs g t e n s (items.drop k) h) Q := by
  intro k
  generalize hm : items.length - k = m
  induction m generalizing k with
  | zero =>
    intro acc h l j q
    have e : k = items.length := by omega
    subst e
    rw [List.drop_length]
    unfold compItems
    rw [if_pos (hn _ _ _ j).2, wO_ok]
    exact q acc h j
  | succ m ih =>
    intro acc h l j q
    have lt : k < items.length := by omega
    rw [List.drop_eq_getElem_cons lt]
    unfold compItems
    rw [if_pos (hn _ _ _ j).2]
    obtain ⟨as, e1, e2⟩ := step k items[k] (List.getElem?_eq_getElem lt) acc h j
    rw [e1]
    dsimp only
    rw [wO_bind]
    refine wO_mono (ne_w e2) fun b h1 ⟨yes, no⟩ => ?_
    cases b with
    | false =>
      rw [if_neg (by simp)]
      exact ih (k + 1) (by omega) acc h1 (by omega) (no rfl) q
    | true =>
      rw [if_pos rfl, wO_bind]
      refine wO_mono (ne_w (yes rfl)) fun y h2 ⟨a1, a2, a3⟩ => ?_
      rw [a1]
      dsimp only
      rw [if_pos a2]
      exact ih (k + 1) (by omega) _ _ (by omega) a3 q
/-- [.. for ..] as an expression -/
theorem lc_w {gs : List (Nat × List PV)} {g : GP} {t : DT} {e : DE} {s : Sl} {items : List PV} {h : PH} {Q : Unit → PH → Prop} (J : Nat → List PV → PH → Prop) (j0 : J 0 [] (h ++ [.lst []])) (hn : ∀ i acc h', J i acc h' → h'[h.length]? = some (.lst acc) ∧ okG gs h' = true)
    (step : ∀ i x, items[i]? = some x → ∀ acc h', J i acc h' → ∃ as, g x = some as ∧ wO (t (setP as s) h') fun b h1 => (b = true → wO (e (setP as s) h1) fun y h2 => h2[h.length]? = some (.lst acc) ∧ acc.length < 16777216 ∧ J (i + 1) (acc ++ [y]) (h2.set h.length (.lst (acc ++ [y])))) ∧ (b = false → J (i + 1) acc h1))
    (q : ∀ acc h, J items.length acc h → Q () h) : wO (compItems gs g t e h.length s items (h ++ [.lst []])) Q := by
  have := comp_w (n := h.length) (Q := Q) J hn step 0 [] (h ++ [.lst []]) (Nat.zero_le _) j0 q
  rwa [List.drop_zero] at this
def wL (o : OutS) (Nx N : Sl → PH → Prop) (R : PV → PH → Prop) : Prop := match o with
  | .nx s h => Nx s h
  | .ct s h => Nx s h
  | .bk s h => N s h
  | .rt v h => R v h
  | _ => False
/-- for: J tells of the number of items done, the slots, the objects -/
theorem for_w {gs : List (Nat × List PV)} {g : GP} {body : DS} {N : Sl → PH → Prop} {R : PV → PH → Prop} {items : List PV} (J : Nat → Sl → PH → Prop) (hg : ∀ i s h, J i s h → okG gs h = true)
    (step : ∀ i x, items[i]? = some x → ∀ s h, J i s h → ∃ as, g x = some as ∧ wL (body (setP as s) h) (J (i + 1)) N R) : ∀ (k : Nat) (s : Sl) (h : PH), k ≤ items.length → J k s h → (∀ s h, J items.length s h → N s h) → wS (forItems gs g body (items.drop k) s h) N R := by
  intro k
  generalize hm : items.length - k = m
  induction m generalizing k with
  | zero =>
    intro s h l j q
    have e : k = items.length := by omega
    subst e
    rw [List.drop_length]
    unfold forItems
    rw [if_pos (hg _ _ _ j), wS_nx]
    exact q s h j
  | succ m ih =>
    intro s h l j q
    have lt : k < items.length := by omega
    rw [List.drop_eq_getElem_cons lt]
    unfold forItems
    rw [if_pos (hg _ _ _ j)]
    obtain ⟨as, e1, e2⟩ := step k items[k] (List.getElem?_eq_getElem lt) s h j
    rw [e1]
    dsimp only
    cases eb : body (setP as s) h with
    | nx s2 h2 =>
      rw [eb] at e2
      exact ih (k + 1) (by omega) s2 h2 (by omega) e2 q
    | ct s2 h2 =>
      rw [eb] at e2
      exact ih (k + 1) (by omega) s2 h2 (by omega) e2 q
    | bk s2 h2 => rw [eb] at e2; dsimp only; rw [wS_nx]; exact e2
    | rt v h2 => rw [eb] at e2; dsimp only; rw [wS_rt]; exact e2
    | err z s2 h2 => rw [eb] at e2; exact e2.elim
    | no => rw [eb] at e2; exact e2.elim
theorem nx_w {o : OutS} {Nx : Sl → PH → Prop} {N : Sl → PH → Prop} {R : PV → PH → Prop} (q : wS o Nx R) : wL o Nx N R := by
  unfold wS at q
  cases o with
  | nx s h => exact q
  | rt s h => exact q
  | _ => exact q.elim
/-- for, whose body only goes on or returns -/
theorem for_ww {gs : List (Nat × List PV)} {g : GP} {body : DS} {N : Sl → PH → Prop} {R : PV → PH → Prop} {items : List PV} {s : Sl} {h : PH} (J : Nat → Sl → PH → Prop) (j0 : J 0 s h) (hg : ∀ i s h, J i s h → okG gs h = true)
    (step : ∀ i x, items[i]? = some x → ∀ s h, J i s h → ∃ as, g x = some as ∧ wS (body (setP as s) h) (fun s h => J (i + 1) s h) R) (q : ∀ s h, J items.length s h → N s h) : wS (forItems gs g body items s h) N R := by
  have := for_w (gs := gs) (g := g) (body := body) (N := N) (R := R) (items := items) J hg (fun i x hx s h j => by
    obtain ⟨as, e1, e2⟩ := step i x hx s h j
    exact ⟨as, e1, nx_w e2⟩) 0 s h (Nat.zero_le _) j0 q
  rwa [List.drop_zero] at this
/-- while: a measure that falls -/
theorem while_w {c : DT} {b : DS} {N : Sl → PH → Prop} {R : PV → PH → Prop} (J : Nat → Sl → PH → Prop)
    (step : ∀ m s h, J m s h → wO (c s h) fun k h1 => (k = true → wS (b s h1) (fun s2 h2 => ∃ m', m' < m ∧ J m' s2 h2) R) ∧ (k = false → N s h1)) : ∀ (n m : Nat) (s : Sl) (h : PH), m < n → J m s h → wS (sWhile c b n s h) N R
  | 0, m, _, _, l, _ => absurd l (Nat.not_lt_zero _)
  | n + 1, m, s, h, l, j => by
    have q := step m s h j
    unfold sWhile
    cases ec : c s h with
    | no => rw [ec, wO_no] at q; exact q.elim
    | err _ _ => rw [ec, wO_err] at q; exact q.elim
    | ok k h1 =>
      rw [ec, wO_ok] at q
      obtain ⟨yes, no⟩ := q
      cases k with
      | false => dsimp only; rw [wS_nx]; exact no rfl
      | true =>
        have yes := yes rfl
        dsimp only
        cases eb : b s h1 with
        | nx s2 h2 =>
          rw [eb, wS_nx] at yes
          obtain ⟨m', l', j'⟩ := yes
          exact while_w J step n m' s2 h2 (by omega) j'
        | rt v h2 => rw [eb, wS_rt] at yes; dsimp only; rw [wS_rt]; exact yes
        | bk _ _ => rw [eb, wS_bk] at yes; exact yes.elim
        | ct _ _ => rw [eb, wS_ct] at yes; exact yes.elim
        | err _ _ _ => rw [eb, wS_err] at yes; exact yes.elim
        | no => rw [eb, wS_no] at yes; exact yes.elim
/-- tuple(.. for ..) -/
theorem gen_w {gs : List (Nat × List PV)} {g : GP} {t : DT} {e : DE} {s : Sl} {items : List PV} {h : PH} {Q : List PV → PH → Prop} (J : Nat → List PV → PH → Prop) (j0 : J 0 [] h) (hn : ∀ i acc h', J i acc h' → okG gs h' = true)
    (step : ∀ i x, items[i]? = some x → ∀ acc h', J i acc h' → ∃ as, g x = some as ∧ wO (t (setP as s) h') fun b h1 => (b = true → wO (e (setP as s) h1) fun y h2 => acc.length < 16777216 ∧ J (i + 1) (acc ++ [y]) h2) ∧ (b = false → J (i + 1) acc h1))
    (q : ∀ acc h, J items.length acc h → Q acc h) : wO (genItems gs g t e s items [] h) Q := by
  have key : ∀ (m k : Nat), items.length - k = m → ∀ (acc : List PV) (h : PH), k ≤ items.length → J k acc h → wO (genItems gs g t e s (items.drop k) acc h) Q := by
    intro m
    induction m with
    | zero =>
      intro k hm acc h l j
      have e : k = items.length := by omega
      subst e
      rw [List.drop_length]
      unfold genItems
      rw [if_pos (hn _ _ _ j), wO_ok]
      exact q acc h j
    | succ m ih =>
      intro k hm acc h l j
      have lt : k < items.length := by omega
      rw [List.drop_eq_getElem_cons lt]
      unfold genItems
      rw [if_pos (hn _ _ _ j)]
      obtain ⟨as, e1, e2⟩ := step k items[k] (List.getElem?_eq_getElem lt) acc h j
      rw [e1]
      dsimp only
      rw [wO_bind]
      refine wO_mono (ne_w e2) fun b h1 ⟨yes, no⟩ => ?_
      cases b with
      | false =>
        rw [if_neg (by simp)]
        exact ih (k + 1) (by omega) acc h1 (by omega) (no rfl)
      | true =>
        rw [if_pos rfl, wO_bind]
        refine wO_mono (ne_w (yes rfl)) fun y h2 ⟨a1, a3⟩ => ?_
        rw [if_pos a1]
        exact ih (k + 1) (by omega) _ _ (by omega) a3
  have := key items.length 0 (by omega) [] h (Nat.zero_le _) j0
  rwa [List.drop_zero] at this
theorem range_at {lo : Int} {n i : Nat} {x : PV} (h : (rangeP lo n)[i]? = some x) : x = .int (lo + (i : Nat)) ∧ i < n := by
  unfold rangeP at h
  rw [List.getElem?_map] at h
  by_cases l : i < n
  · rw [List.getElem?_range l] at h
    exact ⟨(Option.some.inj h).symm, l⟩
  · rw [List.getElem?_eq_none (by simpa using l)] at h
    cases h
theorem range_len (lo : Int) (n : Nat) : (rangeP lo n).length = n := by simp [rangeP]
end Dn
namespace Dn
open PySem PySem.Spec PyProof.Rows L2 PySem.SeqAt Rw

/-! ### draws, as what is wanted of them -/
theorem draw_w {d g : Nat} {n : Int} {h : PH} {Q : PV → PH → Prop} (D : Dk d g h) (hn2 : n < 1073741824) (q : ∀ (k : Int) h2, Dk d g h2 → Like d g h h2 → 0 ≤ k → (n < 2 → k = 0) → (2 ≤ n → k < n) → Q (.int k) h2) : wO (m__law_draw [.ref d, .int n] h) Q := by
  obtain ⟨k, h2, e, a, b, c, u, v⟩ := draw_ok D hn2
  exact wO_eq e (q k h2 a b c u v)
theorem pick_w {d g m : Nat} {xs : List PV} {h : PH} {Q : PV → PH → Prop} (D : Dk d g h) (hm : h[m]? = some (.lst xs)) (md : m ≠ d) (mg : m ≠ g) (hx : xs ≠ []) (hl : xs.length < 1000000000) (q : ∀ x h2, x ∈ xs → Dk d g h2 → Like d g h h2 → Q x h2) : wO (m__law_pick [.ref d, .ref m] h) Q := by
  obtain ⟨x, h2, e, a, b, c⟩ := pick_ok D hm md mg hx hl
  exact wO_eq e (q x h2 a b c)
/-- a pick of a new list -/
theorem pick_new {d g : Nat} {xs : List PV} {h : PH} {Q : PV → PH → Prop} (D : Dk d g h) (c : PV.lowrs (h.length + 1) xs = true) (hx : xs ≠ []) (hl : xs.length < 1000000000) (q : ∀ x h2, x ∈ xs → Dk d g h2 → Ov d g h h2 → Q x h2) : wO (m__law_pick [.ref d, .ref h.length] (h ++ [.lst xs])) Q := by
  have lt := D.lt
  exact pick_w (D.push (o := .lst xs) c) (get_last h _) (by omega) (by omega) hx hl fun x h2 m D2 L => q x h2 m D2 (Ov.push.trans L.ov)
theorem gc_dk {d g : Nat} {h h3 : PH} {v : PV} {Q : PV → PH → Prop} (D : Dk d g h) (D3 : Dk d g h3) (O : Ov d g h h3) (hv : v.lowr h.length = true) (q : ∀ h4, Dk d g h4 → Like d g h h4 → Q v h4) : wO (gcN h (.ok v h3)) Q := by
  obtain ⟨h4, e, a, b⟩ := D.gcO D3 O hv
  exact wO_eq e (q h4 a b)
theorem toE_cut {h h3 : PH} {n : Nat} (q : ∀ (i : Nat) o, i < n → h3[i]? = some o → shownO o = true → h[i]? = some o ∧ o.lowr n = true) : ∀ (k : Nat) {v : PV} {d : PyData}, v.lowr n = true → toE h3 k v = some d → toE h k v = some d
  | 0, _, _, _, e => by cases e
  | k + 1, v, d, lv, e => by
    have ih := fun v d => toE_cut q k (v := v) (d := d)
    unfold toE at e ⊢
    cases v with
    | tup xs =>
      dsimp only at e ⊢
      simp only [PV.lowr] at lv
      have lv := lowrs_iff.mp lv
      cases q : allD (toE h3 k) xs with
      | none => rw [q] at e; cases e
      | some ds => rw [q] at e; rw [allD_mono (fun x hx d => ih x d (lv x hx)) q]; exact e
    | kt xs => cases e
    | ref m =>
      dsimp only at e ⊢
      simp only [PV.lowr, decide_eq_true_eq] at lv
      split at e
      · rename_i xs eh
        obtain ⟨q1, q2⟩ := q m _ lv eh rfl
        rw [q1]
        dsimp only
        have lv := lowrs_iff.mp (show PV.lowrs n xs = true from q2)
        cases q : allD (toE h3 k) xs with
        | none => rw [q] at e; cases e
        | some ds => rw [q] at e; rw [allD_mono (fun x hx d => ih x d (lv x hx)) q]; exact e
      · rename_i z y eh
        obtain ⟨q1, q2⟩ := q m _ lv eh rfl
        rw [q1]
        dsimp only
        have lv : y.lowr n = true := by
          have q2 : kvLowr n [((Sum.inr z : L2.Key), y)] = true := q2
          simpa [kvLowr] using q2
        cases q : toE h3 k y with
        | none => rw [q] at e; cases e
        | some ds => rw [q] at e; rw [ih _ _ lv q]; exact e
      · cases e
    | _ => exact e
theorem Da.cut {k w : Nat} {h h3 h4 : PH} {v : PV} (a : Da k w h.length h3 v) (c : v.lowr h.length = true) : Da k w h.length h4 v := by
  obtain ⟨x, e, n, l⟩ := a
  refine ⟨x, toE_cut (n := h.length) (fun i o li e1 s => ?_) k c e, n, l⟩
  have := (msk_at e1 s).1
  omega
/-- whatever is forgotten: data stay data -/
theorem gc_da {d g k w : Nat} {h h3 : PH} {v : PV} {Q : PV → PH → Prop} (D : Dk d g h) (D3 : Dk d g h3) (O : Ov d g h h3) (a : Da k w h.length h3 v) (q : ∀ h4, Dk d g h4 → Ov d g h h4 → Da k w h.length h4 v → Q v h4) : wO (gcN h (.ok v h3)) Q := by
  by_cases c : v.lowr h.length = true
  · exact gc_dk D D3 O c fun h4 D4 L4 => q h4 D4 L4.ov (a.cut c)
  · rw [gcN_keep (by simpa using c), wO_ok]
    exact q h3 D3 O a

theorem draw_if {d g : Nat} {p : Prop} {a b : Int} {h : PH} {C : PV → PH → Prop} (D : Dk d g h) (la : 2 ≤ a ∧ a < 1073741824) (lb : 2 ≤ b ∧ b < 1073741824) (q : ∀ (k : Int) h2, Dk d g h2 → Like d g h h2 → 0 ≤ k → (p → k < a) → (¬ p → k < b) → C (.int k) h2) :
    (p → wO (m__law_draw [.ref d, .int a] h) C) ∧ (¬ p → wO (m__law_draw [.ref d, .int b] h) C) :=
  ⟨fun c => draw_w D la.2 fun k h2 D2 L k0 _ k2 => q k h2 D2 L k0 (fun _ => k2 la.1) fun n => absurd c n, fun c => draw_w D lb.2 fun k h2 D2 L k0 _ k2 => q k h2 D2 L k0 (fun n => absurd n c) fun _ => k2 lb.1⟩
/-! ### any value -/
theorem strs_ok {x : PV} (m : x ∈ [PV.str "in", .str "out", .str "", .str "-", .str "stand", .str "bow", .str "even", .str "rest", .str "go", .str "plain", .str "way +0 -0"]) : ∃ z : Str, x = .str z ∧ (z.cps.toList.all fun c => decide (c < 1114112)) = true ∧ z.cps.size ≤ 20 := by
  simp only [List.mem_cons, List.not_mem_nil, or_false] at m
  rcases m with e | e | e | e | e | e | e | e | e | e | e <;> exact ⟨_, e, by decide +kernel, by decide +kernel⟩
theorem ints_ok {x : PV} (m : x ∈ [PV.int (-1), .int 0, .int 1, .int 2, .int 4, .int 5, .int 6, .int 23, .int 24, .int (10 ^ 18 + 7)]) : ∃ z : Int, x = .int z ∧ z.natAbs < 10 ^ 20 := by
  simp only [List.mem_cons, List.not_mem_nil, or_false] at m
  rcases m with e | e | e | e | e | e | e | e | e | e <;> exact ⟨_, e, by decide +kernel⟩
def anyW : Nat → Nat
  | 0 => 70
  | n + 1 => 3 * (anyW n + 1) + 70
def dnev_5 := And.intro @setP_nil (And.intro @setP_cons (And.intro @wipeP_nil (And.intro @wipeP_cons (And.intro @args0_1 (And.intro @args0_2 (And.intro @args0_3 (And.intro @args0_4 (And.intro @rep_0 (And.intro @rep_s (And.intro @kindP_ref (And.intro @kindO_lst (And.intro @kindO_dK (And.intro @kindP_str (And.intro @dec_some (And.intro @mAppend_ref (And.intro @mPop_ref (And.intro @popO_snoc (And.intro @mExtend_ref (And.intro @seqL_lst (And.intro @seqOf_ref (And.intro @seqOf_tup (And.intro @seqOf_kt (And.intro @seqOf_fz (And.intro @map_none' (And.intro @fLen_tup' (And.intro @fLen_kt (And.intro @fLen_refO (And.intro @fTuple_refO (And.intro @fTuple_tup (And.intro @fList_refO (And.intro @fList_tup (And.intro @opAdd_ref (And.intro @opAdd_tup (And.intro @lstO_1 (And.intro @lstO_2 (And.intro @lstO_3 (And.intro @opNe_ref (And.intro @neO_nil (And.intro @opEq_ref (And.intro @eqO_nil (And.intro @opEq_nilT (And.intro @opEq_str (And.intro @opNe_str (And.intro @opNe_int (And.intro @opIs_non (And.intro @opIsNot_non (And.intro @isNon_non (And.intro @isNon_tup (And.intro @isNon_int (And.intro @tTru_ap (And.intro @truO_some (And.intro @truB_bl (And.intro @truB_non (And.intro @truB_int (And.intro @truB_tup (And.intro @eIsi_ap (And.intro @isiO_some (And.intro @tyP_int (And.intro @tyP_bl (And.intro @tyP_non (And.intro @tyP_str (And.intro @tyP_tup (And.intro @eAnd_ap (And.intro @eOr_ap (And.intro @andO_true (And.intro @andO_false (And.intro @orO_true (And.intro @orO_false (And.intro @iteO_not (And.intro @eChain_ap (And.intro @eNot_ap (And.intro @notO_bl (And.intro @iRange1_ap (And.intro @iRange2_ap (And.intro @iEnumP_ap (And.intro @enV_tup (And.intro @enV_ref (And.intro @enO_lst (And.intro @opSl_tup (And.intro @opNeg_int (And.intro @opMul_c (And.intro @eCallK_ap (And.intro @gTp_2 (And.intro @gTp_3 (And.intro @gTp_4 (And.intro @gsNil_ap (And.intro @gsCons_ap (@gsO_some))))))))))))))))))))))))))))))))))))))))))))))))))))))))))))))))))))))))))))))))))))))))
def dnw_1 := And.intro @wO_ok (And.intro @wO_bind (And.intro @wO_of (And.intro @wP_some (And.intro @wS_nx (And.intro @wS_rt (And.intro @wS_then (And.intro @wS_seq (And.intro @wO_ite (And.intro @wS_ite (And.intro @wP_app (And.intro @wP_ext (And.intro @wP_cat (And.intro @wP_if (And.intro @wO_tup (And.intro @wO_lst (And.intro @wP_map (And.intro @wO_andD (And.intro @wO_orD (And.intro @wO_rg1 (And.intro @wO_rg2 (@wP_mul)))))))))))))))))))))
theorem any_w : ∀ (n : Nat) {deep : Nat} {d g : Nat} {h : PH} {Q : PV → PH → Prop} (D : Dk d g h) (ln : deep < n) (q : ∀ v h2, Dk d g h2 → Ov d g h h2 → Da (2 * deep + 1) (anyW deep) h.length h2 v → Q v h2), wO (m__law_any n [.ref d, .int deep] h) Q
  | 0, deep, _, _, _, _, _, ln, _ => absurd ln (Nat.not_lt_zero _)
  | n + 1, deep, d, g, h, Q, D, ln, q => by
    have w70 : 70 ≤ anyW deep := by cases deep <;> simp [anyW] <;> omega
    refine wO_mk (show [PV.ref d, PV.int deep].length = 2 from rfl) ?_
    simp only [Out.bind_ok, Out.bind_err, Out.bind_no, dnev_1, dnev_2, dnev_3, dnev_4, List.getElem?_cons_zero, List.getElem?_cons_succ, List.set_cons_zero, List.set_cons_succ, decide_true, decide_false, Bool.not_false, Bool.not_true, Bool.not_not, List.cons_append, List.nil_append, dnev_5, dnif_1, dnw_1, g__law_any]
    refine draw_if D (by decide) (by decide) fun k h1 D1 L1 k0 k1 k2 => ?_
    have O1 := L1.ov
    have fin : ∀ {v : PV} {h3 : PH}, Dk d g h3 → Ov d g h h3 → Da (2 * deep + 1) (anyW deep) h.length h3 v → wO (gcN h (.ok v h3)) Q := fun D3 O3 a => gc_da D D3 O3 a (q _)
    simp only [Out.bind_ok, Out.bind_err, Out.bind_no, dnev_1, dnev_2, dnev_3, dnev_4, List.getElem?_cons_zero, List.getElem?_cons_succ, List.set_cons_zero, List.set_cons_succ, decide_true, decide_false, Bool.not_false, Bool.not_true, Bool.not_not, List.cons_append, List.nil_append, dnev_5, dnif_1, dnw_1]
    refine ⟨fun c3 => ?_, fun c3 => ?_⟩
    · rw [get_last]
      simp only [Out.bind_ok, Out.bind_err, Out.bind_no, dnev_1, dnev_2, dnev_3, dnev_4, List.getElem?_cons_zero, List.getElem?_cons_succ, List.set_cons_zero, List.set_cons_succ, decide_true, decide_false, Bool.not_false, Bool.not_true, Bool.not_not, List.cons_append, List.nil_append, dnev_5, dnif_1, dnw_1]
      have D2 := D1.push (o := .lst [.non, .bl true, .bl false]) rfl
      have O2 := O1.trans (Ov.push (o := .lst [.non, .bl true, .bl false]))
      obtain ⟨x, ex, mx⟩ := atI_at (xs := [PV.non, .bl true, .bl false]) (k := k) k0 (by simpa using c3)
      refine ⟨x, ex, fin D2 O2 ?_⟩
      simp only [List.mem_cons, List.not_mem_nil, or_false] at mx
      rcases mx with e | e | e <;> subst e
      · exact .non
      · exact .bl _
      · exact .bl _
    refine ⟨fun c6 => ?_, fun c6 => ?_⟩
    · have pw : ∀ h : PH, opPow (.int 10) (.int 18) h = some (.int (10 ^ 18), h) := fun _ => rfl
      simp only [pw, Out.bind_ok, Out.bind_err, Out.bind_no, dnev_1, dnev_2, dnev_3, dnev_4, List.getElem?_cons_zero, List.getElem?_cons_succ, List.set_cons_zero, List.set_cons_succ, decide_true, decide_false, Bool.not_false, Bool.not_true, Bool.not_not, List.cons_append, List.nil_append, dnev_5, dnw_1]
      refine ⟨by simp, pick_new D1 rfl (by simp) (by simp) fun x h3 mx D3 O3 => ?_⟩
      rw [wS_rt]
      refine fin D3 (O1.trans O3) ?_
      obtain ⟨z, rfl, lz⟩ := ints_ok mx
      exact .int lz w70
    refine ⟨fun c10 => ?_, fun c10 => ?_⟩
    · refine ⟨by simp, pick_new D1 rfl (by simp) (by simp) fun x h3 mx D3 O3 => ?_⟩
      rw [wS_rt]
      refine fin D3 (O1.trans O3) ?_
      obtain ⟨z, rfl, lz, wz⟩ := strs_ok mx
      exact .str lz (by omega)
    have dp : deep ≠ 0 := fun e => by
      have := k2 (by omega)
      omega
    obtain ⟨dd, rfl⟩ : ∃ m, deep = m + 1 := ⟨deep - 1, by omega⟩
    refine draw_w D1 (by decide) fun j h2 D2 K2 j0 j1 j2 => ?_
    have j4 := j2 (by decide)
    have O2 := O1.trans K2.ov
    simp only [Out.bind_ok, Out.bind_err, Out.bind_no, dnev_1, dnev_2, dnev_3, dnev_4, List.getElem?_cons_zero, List.getElem?_cons_succ, List.set_cons_zero, List.set_cons_succ, decide_true, decide_false, Bool.not_false, Bool.not_true, Bool.not_not, List.cons_append, List.nil_append, dnev_5, dnif_1, dnw_1]
    refine ⟨⟨by omega, by omega⟩, ?_⟩
    obtain ⟨ld, lg⟩ := D2.lt
    refine lc_w (fun i acc h' => Dk d g h' ∧ Ov d g h2 h' ∧ h'[h2.length]? = some (.lst acc) ∧ acc.length = i ∧ Das (2 * dd + 1) (i * (anyW dd + 1)) (h2.length + 1) h' acc) ⟨D2.push rfl, .push, get_last h2 _, rfl, .nil⟩ (fun i acc h' z => ⟨z.2.2.1, rfl⟩) (fun i x hx acc h' z => ?_) fun acc h3 z => ?_
    · obtain ⟨D3, O3, e3, rfl, a3⟩ := z
      obtain ⟨rfl, li⟩ := range_at hx
      refine ⟨_, rfl, ?_⟩
      simp only [Out.bind_ok, Out.bind_err, Out.bind_no, dnev_1, dnev_2, dnev_3, dnev_4, List.getElem?_cons_zero, List.getElem?_cons_succ, List.set_cons_zero, List.set_cons_succ, decide_true, decide_false, Bool.not_false, Bool.not_true, Bool.not_not, List.cons_append, List.nil_append, dnev_5, dnif_1, dnw_1]
      refine ⟨fun _ => ?_, fun z => nomatch z⟩
      rw [show ((dd + 1 : Nat) : Int) - 1 = (dd : Nat) by omega]
      refine any_w n D3 (by omega) fun v h4 D4 O4 a4 => ?_
      have l3 : h2.length < h'.length := (List.getElem?_eq_some_iff.mp e3).1
      have e4 : h4[h2.length]? = some (.lst acc) := (O4.at_ _ l3 (by omega) (by omega)).trans e3
      have l4 : h2.length < h4.length := (List.getElem?_eq_some_iff.mp e4).1
      have kp : Kp (h2.length + 1) h' (h2.length + 1) (h4.set h2.length (.lst (acc ++ [v]))) := (O4.kp (by omega) (by omega)).trans (Kp.set (by omega))
      have a5 : Da (2 * dd + 1) (anyW dd) (h2.length + 1) (h4.set h2.length (.lst (acc ++ [v]))) v := (a4.kp (Kp.less (by omega))).kp (Kp.set (by omega))
      refine ⟨e4, by omega, D4.set (by omega) (by omega) (lowrs_iff.mpr fun y hy => ?_), (O3.trans O4).set (by omega), List.getElem?_set_self l4, by simp, (a3.kp kp).app (Das.cons (w := anyW dd + 1) (w2 := 0) a5 .nil (by omega)) (by rw [Nat.add_mul]; omega)⟩
      rcases List.mem_append.mp hy with m | m
      · exact D4.lst e4 y m
      · rw [List.mem_singleton.mp m]
        exact a4.low
    · obtain ⟨D3, O3, e3, l3, a3⟩ := z
      rw [range_len] at l3 a3
      have lj : j.toNat ≤ 3 := by omega
      have O4 := O2.trans O3
      have wt : j.toNat * (anyW dd + 1) ≤ 3 * (anyW dd + 1) := Nat.mul_le_mul_right _ lj
      have lh := L1.len
      have lh2 := K2.len
      have b3 : Das (2 * dd + 1) (3 * (anyW dd + 1)) h.length h3 acc := (a3.kp (Kp.less (by omega))).up (Nat.le_refl _) wt
      have c3 : Da (2 * dd + 2) (3 * (anyW dd + 1)) h.length h3 (.ref h2.length) := Da.lst b3 e3 (by omega)
      simp only [Out.bind_ok, Out.bind_err, Out.bind_no, dnev_1, dnev_2, dnev_3, dnev_4, List.getElem?_cons_zero, List.getElem?_cons_succ, List.set_cons_zero, List.set_cons_succ, decide_true, decide_false, Bool.not_false, Bool.not_true, Bool.not_not, List.cons_append, List.nil_append, dnev_5, dnif_1, dnw_1, e3]
      refine ⟨fun c => fin D3 O4 (c3.up (by omega) (by simp only [anyW]; omega)), fun c => ⟨fun c2 => ?_, fun c2 => ?_⟩⟩
      · have new : isNewK (h3 ++ [MO.dK []]) h3.length = true := by
          unfold isNewK
          rw [get_last]
        have d3 : dispO h3.length [(.inr "0", .ref h2.length)] (h3 ++ [.dK []]) = .ok (.ref h3.length) (h3 ++ [.dK [(.inr "0", .ref h2.length)]]) := by
          unfold dispO
          rw [if_pos ⟨new, by simp⟩, set_last]
          rfl
        rw [d3]
        simp only [dnw_1]
        have l5 : h2.length < h3.length := (List.getElem?_eq_some_iff.mp e3).1
        have D5 := D3.push (o := .dK [(.inr "0", .ref h2.length)]) (by simp [MO.lowr, kvLowr, PV.lowr]; omega)
        refine fin D5 (O4.trans .push) ?_
        have c5 : Da (2 * dd + 2) (3 * (anyW dd + 1)) h.length (h3 ++ [MO.dK [((.inr "0" : L2.Key), PV.ref h2.length)]]) (.ref h2.length) := c3.kp Kp.push
        exact (Da.dct (x := "0") (i := h3.length) c5 (get_last h3 _) (by have := O4.len; omega) (by decide +kernel)).up (by omega) (by simp only [anyW]; show 3 * (anyW dd + 1) + 1 + 2 ≤ _; omega)
      · exact fin D3 O4 ((Da.tup b3).up (by omega) (by simp only [anyW]; omega))
end Dn
namespace Dn
open PySem PySem.Spec PyProof.Rows L2 PySem.SeqAt Rw

/-! ### x in (numbers) -/
theorem eqJ_int (h : PH) (i j : Int) : eqJ h (.int i) (.int j) = some (decide (j = i)) := by
  unfold eqJ toD
  dsimp only
  rfl
theorem anyO_int (h : PH) (i : Int) : ∀ js : List Int, anyO (eqJ h (.int i)) (js.map PV.int) = some (decide (i ∈ js))
  | [] => rfl
  | j :: js => by
    rw [List.map_cons]
    unfold anyO
    rw [eqJ_int, anyO_int h i js]
    simp only [List.mem_cons]
    congr 1
    by_cases e : j = i
    · simp [e]
    · simp [e, Ne.symm e]
theorem inSeq_int (h : PH) (i : Int) (js : List Int) : inSeq h (.int i) (js.map PV.int) = some (decide (i ∈ js)) := by
  unfold inSeq toD
  dsimp only
  exact anyO_int h i js
theorem opIn_int {h : PH} {c : PV} {i : Int} {js : List Int} (e : seqOf h c = some (js.map PV.int)) : opIn (.int i) c h = some (.bl (decide (i ∈ js)), h) := by
  unfold opIn inB
  cases c with
  | str _ => cases e
  | _ =>
    dsimp only
    rw [e]
    dsimp only
    rw [inSeq_int]
    rfl
theorem opNotIn_int {h : PH} {c : PV} {i : Int} {js : List Int} (e : seqOf h c = some (js.map PV.int)) : opNotIn (.int i) c h = some (.bl (!decide (i ∈ js)), h) := by
  unfold opNotIn inB
  cases c with
  | str _ => cases e
  | _ =>
    dsimp only
    rw [e]
    dsimp only
    rw [inSeq_int]
    rfl
theorem opIn_4 (i a b c d : Int) (h : PH) : opIn (.int i) (.tup [.int a, .int b, .int c, .int d]) h = some (.bl (decide (i ∈ [a, b, c, d])), h) := opIn_int (js := [a, b, c, d]) rfl
theorem opIn_2 (i a b : Int) (h : PH) : opIn (.int i) (.tup [.int a, .int b]) h = some (.bl (decide (i ∈ [a, b])), h) := opIn_int (js := [a, b]) rfl

/-! ### a whole number in a range -/
def wholeB (v : PV) (a b : Int) : Bool := match v with
  | .int i => decide (a ≤ i) && decide (i ≤ b)
  | _ => false
theorem ty_toD {h : PH} : ∀ {k : Nat} {v : PV} {d : PyData}, toD h k v = some d → ∃ c, tyP h v = some c
  | 0, _, _, e => by cases e
  | k + 1, v, d, e => by
    cases v with
    | ref n =>
      unfold toD at e
      dsimp only at e
      unfold tyP
      dsimp only
      split at e
      · rename_i xs eh; rw [eh]; exact ⟨_, rfl⟩
      · rename_i z y eh; rw [eh]; exact ⟨_, rfl⟩
      · cases e
    | _ => exact ⟨_, rfl⟩
theorem Da.ty {k w n : Nat} {h : PH} {v : PV} (a : Da k w n h v) : ∃ c, tyP h v = some c := by
  obtain ⟨d, e, _⟩ := a
  exact ty_toD (msk_toD e)
/-- what isinstance says -/
theorem isC_ty {h : PH} {v : PV} {c : String} (e : tyP h v = some c) : (Rw.isC "int" c = true → (∃ i, v = .int i) ∨ ∃ b, v = .bl b) ∧ (Rw.isC "tuple" c = true → (∃ xs, v = .tup xs) ∨ ∃ xs, v = .kt xs) ∧ (Rw.isC "str" c = true → ∃ x, v = .str x) ∧ (Rw.isC "bool" c = true → ∃ b, v = .bl b) := by
  cases v with
  | ref n =>
    unfold tyP at e
    dsimp only at e
    split at e <;> cases e <;> refine ⟨?_, ?_, ?_, ?_⟩ <;> intro q <;> exact absurd q (by decide)
  | int i => cases e; exact ⟨fun _ => .inl ⟨_, rfl⟩, fun q => absurd q (by decide), fun q => absurd q (by decide), fun q => absurd q (by decide)⟩
  | bl i => cases e; exact ⟨fun _ => .inr ⟨_, rfl⟩, fun q => absurd q (by decide), fun q => absurd q (by decide), fun _ => ⟨_, rfl⟩⟩
  | non => cases e; exact ⟨fun q => absurd q (by decide), fun q => absurd q (by decide), fun q => absurd q (by decide), fun q => absurd q (by decide)⟩
  | str i => cases e; exact ⟨fun q => absurd q (by decide), fun q => absurd q (by decide), fun _ => ⟨_, rfl⟩, fun q => absurd q (by decide)⟩
  | tup i => cases e; exact ⟨fun q => absurd q (by decide), fun _ => .inl ⟨_, rfl⟩, fun q => absurd q (by decide), fun q => absurd q (by decide)⟩
  | kt i => cases e; exact ⟨fun q => absurd q (by decide), fun _ => .inr ⟨_, rfl⟩, fun q => absurd q (by decide), fun q => absurd q (by decide)⟩
  | fz i => cases e; exact ⟨fun q => absurd q (by decide), fun q => absurd q (by decide), fun q => absurd q (by decide), fun q => absurd q (by decide)⟩
theorem isC_ii : Rw.isC "int" "int" = true := by decide
theorem isC_ib : Rw.isC "int" "bool" = true := by decide
theorem isC_bi : Rw.isC "bool" "int" = false := by decide
theorem isC_bb : Rw.isC "bool" "bool" = true := by decide
theorem isC_tt : Rw.isC "tuple" "tuple" = true := by decide
theorem isC_ss : Rw.isC "str" "str" = true := by decide
theorem iteO_and {α : Type} (c e : Bool) (a b : α) : iteO (c && e) a b = iteO c (iteO e a b) b := by cases c <;> rfl
end Dn
namespace Dn
open PySem PySem.Spec PyProof.Rows L2 PySem.SeqAt Rw
/-- a test by itself, then what follows -/
theorem if_w {c : DT} {a b : DS} {s : Sl} {h : PH} {N : Sl → PH → Prop} {R : PV → PH → Prop} (P : Bool → PH → Prop) (hc : wO (c s h) P) (yes : ∀ h', P true h' → wS (a s h') N R) (no : ∀ h', P false h' → wS (b s h') N R) : wS (sIf c a b s h) N R := by
  rw [sIf_ap, wS_then]
  refine wO_mono hc fun k h' p => ?_
  cases k with
  | true => rw [iteO_true]; exact yes h' p
  | false => rw [iteO_false]; exact no h' p
theorem cut_to {xs : List PV} {k : Int} (h : 0 ≤ k) : cutP xs none (some k) = xs.take k.toNat := by
  unfold cutP
  have e : HT.sIx xs.length xs.length (some k) = min k.toNat xs.length := if_neg (by omega)
  rw [e, show HT.sIx xs.length 0 none = 0 from rfl, List.drop_zero, Nat.sub_zero]
  by_cases c : k.toNat ≤ xs.length
  · rw [Nat.min_eq_left c]
  · rw [Nat.min_eq_right (by omega), List.take_length, List.take_of_length_le (by omega)]
theorem cut_from {xs : List PV} {k : Int} (h : 0 ≤ k) : cutP xs (some k) none = xs.drop k.toNat := by
  unfold cutP
  have e : HT.sIx xs.length 0 (some k) = min k.toNat xs.length := if_neg (by omega)
  rw [e, show HT.sIx xs.length xs.length none = xs.length from rfl]
  by_cases c : k.toNat ≤ xs.length
  · rw [Nat.min_eq_left c, List.take_of_length_le (by simp)]
  · rw [Nat.min_eq_right (by omega), List.drop_of_length_le (i := xs.length) (by omega), List.drop_of_length_le (by omega)]
    simp
theorem cut_to1 {xs : List PV} : cutP xs none (some 1) = xs.take 1 := cut_to (by decide)
theorem cut_from1 {xs : List PV} : cutP xs (some 1) none = xs.drop 1 := cut_from (by decide)
theorem len_da {k w n : Nat} {h : PH} {xs : List PV} (a : Das k w n h xs) : xs.length ≤ w := by
  obtain ⟨ds, e, _, l⟩ := a
  have := allD_len e
  have := wA_len ds
  omega
theorem strs2_ok {x : PV} (m : x ∈ [PV.str "in", .str "out", .str "stand", .str "bow", .str "even", .str "-", .str "In", .str "in ", .str "rest", .str "go", .str "hand", .str "look", .str "yield", .str "low"]) : ∃ z : Str, x = .str z ∧ (z.cps.toList.all fun c => decide (c < 1114112)) = true ∧ z.cps.size ≤ 20 := by
  simp only [List.mem_cons, List.not_mem_nil, or_false] at m
  rcases m with e | e | e | e | e | e | e | e | e | e | e | e | e | e <;> exact ⟨_, e, by decide +kernel, by decide +kernel⟩
end Dn
namespace Dn
open PySem PySem.Spec PyProof.Rows L2 PySem.SeqAt Rw
/-- what a def leaves: data of objects from n on -/
theorem gc_daN {k w n d g : Nat} {h h3 : PH} {v : PV} {Q : PV → PH → Prop} (D : Dk d g h) (ln : d < n ∧ g < n ∧ n ≤ h.length) (D3 : Dk d g h3) (O3 : Ov d g h h3) (a3 : Da k w n h3 v) (q : ∀ h4, Dk d g h4 → Ov d g h h4 → Da k w n h4 v → Q v h4) : wO (gcN h (.ok v h3)) Q := by
  obtain ⟨ld, lg, lh⟩ := ln
  by_cases c : v.lowr h.length = true
  · refine gc_dk D D3 O3 c fun h4 D4 L4 => q h4 D4 L4.ov ?_
    obtain ⟨x, e, m, l⟩ := a3
    refine ⟨x, toE_cut (n := h.length) (fun i o li e1 s => ?_) _ c e, m, l⟩
    obtain ⟨z1, z2⟩ := msk_at e1 s
    rw [O3.at_ i li (by omega) (by omega)] at z2
    refine ⟨msk_of z1 ?_, ?_⟩
    · rw [L4.at_ i (by omega) (by omega)]
      exact z2
    · obtain ⟨_, _, _, _, D⟩ := D
      exact phLowr_at D.cl z2
  · rw [gcN_keep (by simpa using c), wO_ok]
    exact q h3 D3 O3 a3
theorem Das.get {k w n : Nat} {h : PH} {xs : List PV} {j : Int} (a : Das k w n h xs) (j0 : 0 ≤ j) (j1 : j < xs.length) : ∃ x, atI xs j = some x ∧ Da k w n h x := by
  obtain ⟨x, e, m⟩ := atI_at j0 j1
  exact ⟨x, e, a.at_ m⟩
theorem cut_fromS {xs : List PV} {j : Int} (h : 0 ≤ j) : cutP xs (some (j + 1)) none = xs.drop (j + 1).toNat := cut_from (by omega)
/-! ### stores -/
def wF (o : Option PH) (N : PH → Prop) : Prop := match o with
  | some h => N h
  | none => False
theorem wS_hO (o : Option (Sl × PH)) (N : Sl → PH → Prop) (R : PV → PH → Prop) : wS (hO o) N R = wP o N := by
  cases o with
  | none => rw [wP_none]; exact wS_no N R
  | some p => cases p; rw [wP_some]; exact wS_nx _ _ N R
theorem wP_hTp (n : Nat) (g : GHs) (xs : List PV) (s : Sl) (h : PH) (N : Sl → PH → Prop) : wP (hTp n g (.tup xs) s h) N = (xs.length = n ∧ wP (g xs s h) N) := by
  unfold hTp
  by_cases l : xs.length = n
  · simp only [l, if_true, true_and]
  · simp only [l, if_false, wP, false_and]
theorem wP_hsCons (g : GH) (r : GHs) (v : PV) (vs : List PV) (s : Sl) (h : PH) (N : Sl → PH → Prop) : wP (hsCons g r (v :: vs) s h) N = wP (g v s h) fun s h => wP (r vs s h) N := by
  unfold hsCons
  dsimp only
  cases g v s h with
  | none => rw [Option.bind_none, wP_none, wP_none]
  | some p => cases p; rw [Option.bind_some, wP_some]
theorem wP_hsNil (s : Sl) (h : PH) (N : Sl → PH → Prop) : wP (hsNil [] s h) N = N s h := wP_some s h N
theorem wP_hNm (i : Nat) (v : PV) (s : Sl) (h : PH) (N : Sl → PH → Prop) : wP (hNm i v s h) N = N (s.set i (some v)) h := wP_some _ h N
theorem wP_hSub (f : F3) (o i : DE) (v : PV) (s : Sl) (h : PH) (N : Sl → PH → Prop) : wP (hSub f o i v s h) N = wO (o s h) fun ov h1 => wO (i s h1) fun iv h2 => wF (f ov iv v h2) fun h3 => N s h3 := by
  unfold hSub
  cases o s h with
  | no => rw [wO_no]; exact wP_none N
  | err _ _ => rw [wO_err]; exact wP_none N
  | ok ov h1 =>
    dsimp only
    rw [wO_ok]
    cases i s h1 with
    | no => rw [wO_no]; exact wP_none N
    | err _ _ => rw [wO_err]; exact wP_none N
    | ok iv h2 =>
      dsimp only
      rw [wO_ok]
      cases f ov iv v h2 with
      | none => rw [Option.map_none, wP_none]; rfl
      | some h3 => rw [Option.map_some, wP_some]; rfl
def setO (o : Option MO) (n : Nat) (k : Int) (v : PV) (h : PH) : Option PH := match o with
  | some (.lst xs) => (ixN xs.length k).map fun j => h.set n (.lst (xs.set j v))
  | _ => fSet (.ref n) (.int k) v h
theorem fSet_int (n : Nat) (k : Int) (v : PV) (h : PH) : fSet (.ref n) (.int k) v h = setO h[n]? n k v h := by
  unfold setO
  split
  · rename_i xs e
    unfold fSet
    dsimp only
    rw [e]
  · rfl
theorem wF_set (xs : List PV) (n : Nat) (k : Int) (v : PV) (h : PH) (N : PH → Prop) : wF (setO (some (.lst xs)) n k v h) N = ∃ j, ixN xs.length k = some j ∧ N (h.set n (.lst (xs.set j v))) := by
  unfold setO
  dsimp only
  cases ixN xs.length k with
  | none => simp [wF]
  | some j => simp [wF]
theorem ixN_of {n : Nat} {k : Int} (a : 0 ≤ k) (b : k < n) : ixN n k = some k.toNat := by
  unfold ixN
  rw [if_pos a, if_pos b]
theorem allD_set {f : PV → Option PyData} : ∀ {xs : List PV} {ds : List PyData} {x : PV} {d : PyData} (n : Nat), allD f xs = some ds → f x = some d → allD f (xs.set n x) = some (ds.set n d)
  | [], _, _, _, _, e, _ => by cases e; rfl
  | y :: xs, ds, x, d, 0, e, q => by
    obtain ⟨d2, es2, rfl, h1, h2⟩ := allD_cons e
    show allD f (x :: xs) = some (d :: es2)
    unfold allD
    rw [q, h2]
  | y :: xs, ds, x, d, n + 1, e, q => by
    obtain ⟨d2, es2, rfl, h1, h2⟩ := allD_cons e
    show allD f (y :: xs.set n x) = some (d2 :: es2.set n d)
    unfold allD
    rw [h1, allD_set n h2 q]
theorem Das.set {k w w2 w3 n : Nat} {h : PH} {xs : List PV} {x : PV} (a : Das k w n h xs) (b : Da k w2 n h x) (i : Nat) (l : w + w2 + 1 ≤ w3) : Das k w3 n h (xs.set i x) := by
  obtain ⟨ds, e, m, q⟩ := a
  obtain ⟨d, e2, m2, q2⟩ := b
  refine ⟨ds.set i d, allD_set i e e2, m.set m2 i, ?_⟩
  have := wA_set ds i d
  omega
theorem tupO_0 (h : PH) : tupO [] h = .ok (.tup []) h := tupO_ok (by simp)
def bentW (deep w : Nat) : Nat := (deep + 2) * w + 1000 + deep
end Dn
namespace Dn
open PySem PySem.Spec PyProof.Rows L2 PySem.SeqAt Rw

/-! ### ways -/
def stepP (p : Bool × Nat) : PV := .tup [.str (if p.1 then "in" else "out"), .int (p.2 : Nat)]
/-- what is held behind some steps, the last one first; none if they are not nested -/
def nest : List (Bool × Nat) → List Nat → Option (List Nat)
  | [], hs => some hs
  | (true, r) :: st, hs => if r ∈ hs then none else nest st (r :: hs)
  | (false, r) :: st, hs => match hs with
    | q :: hs => if r = q then nest st hs else none
    | [] => none
theorem nest_app : ∀ (a b : List (Bool × Nat)) (hs : List Nat), nest (a ++ b) hs = (nest a hs).bind (nest b)
  | [], _, _ => rfl
  | (true, r) :: a, b, hs => by
    simp only [List.cons_append, nest]
    by_cases c : r ∈ hs
    · rw [if_pos c, if_pos c]; rfl
    · rw [if_neg c, if_neg c]; exact nest_app a b _
  | (false, r) :: a, b, hs => by
    cases hs with
    | nil => rfl
    | cons q hs =>
      simp only [List.cons_append, nest]
      by_cases c : r = q
      · rw [if_pos c, if_pos c]; exact nest_app a b _
      · rw [if_neg c, if_neg c]; rfl
structure WayOk (rooms most : Nat) (st : List (Bool × Nat)) : Prop where
  two : 2 ≤ st.length
  few : st.length ≤ most
  low : ∀ p ∈ st, p.2 < rooms
  nst : nest st [] = some []
def natsP (rs : List Nat) : List PV := rs.map fun r => .int ((r : Nat) : Int)
def wayP (st : List (Bool × Nat)) : PV := .tup (st.map stepP)
theorem Dk.setL {d g i : Nat} {h : PH} {xs : List PV} (D : Dk d g h) (hd : i ≠ d) (hg : i ≠ g) (ho : PV.lowrs h.length xs = true) : Dk d g (h.set i (.lst xs)) := D.set hd hg ho
theorem atI_last (xs : List PV) (x : PV) : atI (xs ++ [x]) (-1) = some x := by
  unfold atI ixN
  rw [if_neg (by decide), if_pos (by simp; omega)]
  simp only [Option.bind_some]
  rw [show (-1 + ((xs ++ [x]).length : Int)).toNat = xs.length by simp; omega]
  simp
theorem lowrs_nats (n : Nat) (rs : List Nat) : PV.lowrs n (natsP rs) = true := lowrs_iff.mpr fun x hx => by
  obtain ⟨r, _, rfl⟩ := List.mem_map.mp hx
  rfl
theorem lowrs_steps (n : Nat) (st : List (Bool × Nat)) : PV.lowrs n (st.map stepP) = true := lowrs_iff.mpr fun x hx => by
  obtain ⟨r, _, rfl⟩ := List.mem_map.mp hx
  rfl
theorem notIn_nats {h : PH} {n r : Nat} {rs : List Nat} (e : h[n]? = some (.lst (natsP rs))) : opNotIn (.int (r : Nat)) (.ref n) h = some (.bl (!decide (r ∈ rs)), h) := by
  have : natsP rs = (rs.map fun r => ((r : Nat) : Int)).map PV.int := by simp [natsP]
  rw [opNotIn_int (js := rs.map fun r => ((r : Nat) : Int)) (by rw [seqOf_ref, e, this]; rfl)]
  have : (((r : Nat) : Int) ∈ rs.map fun r => ((r : Nat) : Int)) ↔ r ∈ rs := by
    rw [List.mem_map]
    exact ⟨fun ⟨a, m, e⟩ => by have e : a = r := by omega
                               rw [← e]; exact m, fun m => ⟨r, m, rfl⟩⟩
  simp only [this]
def frees (rooms : Nat) (hs : List Nat) : List Nat := (List.range rooms).filter fun r => !decide (r ∈ hs)
def dnev_6 := And.intro @opIn_4 (And.intro @opIn_2 (And.intro @isC_ii (And.intro @isC_ib (And.intro @isC_bi (And.intro @isC_bb (And.intro @isC_tt (And.intro @isC_ss (And.intro @iteO_and (And.intro @fSet_int (@tupO_0))))))))))
/-- the rooms that are not held, in a new list -/
theorem free_comp {h : PH} {x0 x1 x2 x3 x4 x6 x7 : Option PV} {I rooms : Nat} {hs : List Nat} (e : h[I]? = some (.lst (natsP hs))) (r6 : rooms ≤ 6) :
    compItems [] (gNm 7) (tV (eOp opNotIn (eVar 7) (eVar 5))) (eVar 7) h.length [x0, x1, x2, x3, x4, some (.ref I), x6, x7] (rangeP 0 rooms) (h ++ [.lst []]) = .ok () (h ++ [.lst (natsP (frees rooms hs))]) := by
  have li : I < h.length := (List.getElem?_eq_some_iff.mp e).1
  have q := comp_pure (gs := []) (g := gNm 7) (t := tV (eOp opNotIn (eVar 7) (eVar 5))) (e := eVar 7) (s := [x0, x1, x2, x3, x4, some (.ref I), x6, x7]) (h0 := h) (fun x => match x with | .int i => !decide (i.toNat ∈ hs) | _ => false) id (fun _ => rfl) (rangeP 0 rooms) [] (fun x hx => by
    obtain ⟨i, hi, rfl⟩ := List.mem_map.mp hx
    have ni := fun acc => notIn_nats (h := h ++ [.lst acc]) (r := i) ((List.getElem?_append_left li).trans e)
    have e0 : 0 + ((i : Nat) : Int) = ((i : Nat) : Int) := by omega
    rw [e0]
    refine ⟨_, rfl, fun acc => ⟨?_, fun _ => ?_⟩⟩
    · simp only [Out.bind_ok, Out.bind_err, Out.bind_no, dnev_1, dnev_2, dnev_3, dnev_4, List.getElem?_cons_zero, List.getElem?_cons_succ, List.set_cons_zero, List.set_cons_succ, decide_true, decide_false, Bool.not_false, Bool.not_true, Bool.not_not, List.cons_append, List.nil_append, dnev_5, dnev_6, ni, Int.toNat_natCast]
    · simp only [Out.bind_ok, Out.bind_err, Out.bind_no, dnev_1, dnev_2, dnev_3, dnev_4, List.getElem?_cons_zero, List.getElem?_cons_succ, List.set_cons_zero, List.set_cons_succ, decide_true, decide_false, Bool.not_false, Bool.not_true, Bool.not_not, List.cons_append, List.nil_append, dnev_5, dnev_6, id_eq]) (by rw [range_len]; simp; omega)
  rw [q, List.map_id, List.nil_append]
  have : (rangeP 0 rooms).filter (fun x => match x with | .int i => !decide (i.toNat ∈ hs) | _ => false) = natsP (frees rooms hs) := by
    unfold rangeP frees natsP
    rw [List.filter_map]
    have e1 : ((fun x : PV => match x with | .int i => !decide (i.toNat ∈ hs) | _ => false) ∘ fun i : Nat => PV.int (0 + ((i : Nat) : Int))) = fun r => !decide (r ∈ hs) := by
      funext r
      simp [show (0 + ((r : Nat) : Int)).toNat = r by omega]
    rw [e1]
    congr 1
    funext r
    rw [Int.zero_add]
  rw [this]
theorem mem_frees {rooms r : Nat} {hs : List Nat} : r ∈ frees rooms hs ↔ r < rooms ∧ r ∉ hs := by
  unfold frees
  simp
def wayT : DT := tOrD (tV (eOp opGt (eVar 3) (eC (.int 0)))) (tV (eOp opNe (eVar 5) (eLst eNil)))
structure WayJ (rooms n d g s : Nat) (h1 : PH) (m : Nat) (sl : Sl) (h : PH) (left : Nat) (st : List (Bool × Nat)) (hs : List Nat) : Prop where
  dk : Dk d g h
  ov : Ov d g h1 h
  hS : h[s]? = some (.lst (st.map stepP))
  hI : h[s + 1]? = some (.lst (natsP hs.reverse))
  ns : nest st [] = some hs
  ln : st.length + 2 * left + hs.length = n
  lo : ∀ p ∈ st, p.2 < rooms
  hl : ∀ r ∈ hs, r < rooms
  ms : m = 2 * left + hs.length
end Dn
namespace Dn
open PySem PySem.Spec PyProof.Rows L2 PySem.SeqAt Rw

/-! ### doors -/
def rowP (n : Nat) (f : Nat → Str) : List PV := (List.range n).map fun j => .str (f j)
def putF {α : Type} (f : Nat → α) (i : Nat) (x : α) : Nat → α := fun k => if k = i then x else f k
theorem rangeMap_set {α : Type} (n i : Nat) (f : Nat → α) (x : α) : ((List.range n).map f).set i x = (List.range n).map (putF f i x) := by
  apply List.ext_getElem?
  intro k
  rw [List.getElem?_set, List.getElem?_map, List.getElem?_map]
  by_cases c : k < n
  · rw [List.getElem?_range c]
    by_cases e : i = k
    · subst e
      simp [putF, c]
    · simp [putF, e, Ne.symm e]
  · rw [List.getElem?_eq_none (l := List.range n) (by simpa using c)]
    by_cases e : i = k
    · subst e
      simp [c]
    · simp [e]
theorem rowP_set (n i : Nat) (f : Nat → Str) (x : Str) : (rowP n f).set i (.str x) = rowP n (putF f i x) := by
  unfold rowP
  rw [rangeMap_set]
  apply List.map_congr_left
  intro k _
  unfold putF
  split <;> rfl
theorem rowP_len (n : Nat) (f : Nat → Str) : (rowP n f).length = n := by simp [rowP]
theorem rowP_at {n i : Nat} (f : Nat → Str) (h : i < n) : (rowP n f)[i]? = some (.str (f i)) := by simp [rowP, h]
theorem lowrs_row (m n : Nat) (f : Nat → Str) : PV.lowrs m (rowP n f) = true := lowrs_iff.mpr fun x hx => by
  obtain ⟨r, _, rfl⟩ := List.mem_map.mp hx
  rfl
def othersOf (n i : Nat) : List Nat := (List.range n).filter fun j => !decide (j = i)
structure DoorOk (n : Nat) (tab : Nat → Nat → Str) (ords : Nat → List Nat) : Prop where
  dia : ∀ i, i < n → tab i i = "-"
  wrd : ∀ i j, i < n → j < n → i ≠ j → tab i j ∈ (["even", "stand", "bow"] : List Str) ∧ (tab i j = "even" ↔ tab j i = "even")
  ord : ∀ i, i < n → (ords i).Perm (othersOf n i)
def ordsP (m : Nat) (ords : Nat → List Nat) : List PV := (List.range m).map fun i => .tup (natsP (ords i))
def tabP (n : Nat) (tab : Nat → Nat → Str) : List PV := (List.range n).map fun i => .tup (rowP n (tab i))
def doorP (n : Nat) (tab : Nat → Nat → Str) (ords : Nat → List Nat) : PV := .tup [.tup (tabP n tab), .tup (ordsP n ords)]
def wordsP : List PV := [.tup [.str "even", .str "even"], .tup [.str "even", .str "even"], .tup [.str "stand", .str "bow"], .tup [.str "bow", .str "stand"], .tup [.str "stand", .str "stand"], .tup [.str "bow", .str "bow"]]
theorem words_ok {x : PV} (m : x ∈ wordsP) : ∃ a b : Str, x = .tup [.str a, .str b] ∧ a ∈ (["even", "stand", "bow"] : List Str) ∧ b ∈ (["even", "stand", "bow"] : List Str) ∧ (a = "even" ↔ b = "even") := by
  simp only [wordsP, List.mem_cons, List.not_mem_nil, or_false] at m
  rcases m with e | e | e | e | e | e <;> exact ⟨_, _, e, by decide +kernel, by decide +kernel, by decide +kernel⟩
/-- the table while it is filled -/
structure DoorJ (n d g W R O : Nat) (refs : Nat → Nat) (h1 : PH) (tab : Nat → Nat → Str) (ords : Nat → List Nat) (m : Nat) (h : PH) : Prop where
  dk : Dk d g h
  ov : Ov d g h1 h
  hW : h[W]? = some (.lst wordsP)
  hR : h[R]? = some (.lst ((List.range n).map fun i => PV.ref (refs i)))
  rw_ : ∀ i, i < n → h[refs i]? = some (.lst (rowP n (tab i)))
  hO : h[O]? = some (.lst (ordsP m ords))
theorem perm_nats {zs : List PV} {rs : List Nat} (p : zs.Perm (natsP rs)) : ∃ qs, zs = natsP qs ∧ qs.Perm rs := by
  obtain ⟨qs, e, q⟩ : ∃ qs : List Nat, natsP qs = zs ∧ qs.Perm rs := by
    refine ⟨zs.map fun x => match x with | .int i => i.toNat | _ => 0, ?_, ?_⟩
    · unfold natsP
      rw [List.map_map]
      conv => rhs; rw [← List.map_id zs]
      apply List.map_congr_left
      intro x hx
      obtain ⟨r, _, rfl⟩ := List.mem_map.mp (p.mem_iff.mp hx)
      simp
    · have := p.map fun x => match x with | .int i => i.toNat | _ => 0
      unfold natsP at this
      rw [List.map_map] at this
      simpa [Function.comp_def] using this
  exact ⟨qs, e.symm, q⟩
/-- the others, in a new list -/
theorem others_comp {h : PH} {x0 x2 x3 x4 x6 x7 x8 : Option PV} {n i : Nat} (n6 : n ≤ 10) :
    compItems [] (gNm 6) (tV (eOp opNe (eVar 6) (eVar 5))) (eVar 6) h.length [x0, some (.int n), x2, x3, x4, some (.int i), x6, x7, x8] (rangeP 0 n) (h ++ [.lst []]) = .ok () (h ++ [.lst (natsP (othersOf n i))]) := by
  have q := comp_pure (gs := []) (g := gNm 6) (t := tV (eOp opNe (eVar 6) (eVar 5))) (e := eVar 6) (s := [x0, some (.int n), x2, x3, x4, some (.int i), x6, x7, x8]) (h0 := h) (fun x => match x with | .int k => !decide (k = (i : Int)) | _ => false) id (fun _ => rfl) (rangeP 0 n) [] (fun x hx => by
    obtain ⟨k, hk, rfl⟩ := List.mem_map.mp hx
    have e0 : 0 + ((k : Nat) : Int) = ((k : Nat) : Int) := by omega
    rw [e0]
    refine ⟨_, rfl, fun acc => ⟨?_, fun _ => ?_⟩⟩
    · simp -dsimp -implicitDefEqProofs only [Out.bind_ok, Out.bind_err, Out.bind_no, dnev_1, dnev_2, dnev_3, dnev_4, List.getElem?_cons_zero, List.getElem?_cons_succ, List.set_cons_zero, List.set_cons_succ, decide_true, decide_false, Bool.not_false, Bool.not_true, Bool.not_not, List.cons_append, List.nil_append, dnev_5, dnev_6]
    · simp -dsimp -implicitDefEqProofs only [Out.bind_ok, Out.bind_err, Out.bind_no, dnev_1, dnev_2, dnev_3, dnev_4, List.getElem?_cons_zero, List.getElem?_cons_succ, List.set_cons_zero, List.set_cons_succ, decide_true, decide_false, Bool.not_false, Bool.not_true, Bool.not_not, List.cons_append, List.nil_append, dnev_5, dnev_6, id_eq]) (by rw [range_len]; simp; omega)
  rw [q, List.map_id, List.nil_append]
  have : (rangeP 0 n).filter (fun x => match x with | .int k => !decide (k = (i : Int)) | _ => false) = natsP (othersOf n i) := by
    unfold rangeP othersOf natsP
    rw [List.filter_map]
    have e1 : ((fun x : PV => match x with | .int k => !decide (k = (i : Int)) | _ => false) ∘ fun k : Nat => PV.int (0 + ((k : Nat) : Int))) = fun j => !decide (j = i) := by
      funext r
      simp only [Function.comp_apply]
      congr 1
      apply decide_eq_decide.mpr
      omega
    rw [e1]
    congr 1
    funext r
    rw [Int.zero_add]
  rw [this]
end Dn
namespace Dn
open PySem PySem.Spec PyProof.Rows L2 PySem.SeqAt Rw
def mulO (o : Option MO) (m : Nat) (k : Int) (h : PH) : Option (PV × PH) := match o with
  | some (.lst xs) => if decide (-5000 ≤ k ∧ k ≤ 5000) && decide (xs.length ≤ 1000) then some (.ref h.length, h ++ [.lst (List.replicate k.toNat xs).flatten]) else none
  | _ => opMul (.ref m) (.int k) h
theorem opMul_ref (m : Nat) (k : Int) (h : PH) : opMul (.ref m) (.int k) h = mulO h[m]? m k h := by
  unfold mulO
  split
  · rename_i xs e
    unfold opMul
    dsimp only
    rw [e]
  · rfl
theorem mulO_one {x : PV} {m : Nat} {n : Nat} {h : PH} (l : n ≤ 5000) : mulO (some (.lst [x])) m (n : Nat) h = some (.ref h.length, h ++ [.lst (List.replicate n x)]) := by
  unfold mulO
  dsimp only
  rw [if_pos (by simp; omega), Int.toNat_natCast, List.flatten_replicate_singleton]
theorem rep_row (n : Nat) : List.replicate n (PV.str "-") = rowP n (fun _ => "-") := by
  unfold rowP
  apply List.ext_getElem?
  intro k
  by_cases c : k < n
  · simp [c]
  · simp [c]
/-- the numbers of the rows and of the lists beside -/
structure Refs (n d g W R O : Nat) (refs : Nat → Nat) (h1 : PH) : Prop where
  lt : d < W ∧ g < W ∧ W < R ∧ R < O ∧ h1.length ≤ R ∧ W < h1.length
  rn : ∀ a, a < n → R < refs a ∧ refs a < O
  inj : ∀ a b, a < n → b < n → refs a = refs b → a = b
def putT (tab : Nat → Nat → Str) (i j : Nat) (x : Str) : Nat → Nat → Str := putF tab i (putF (tab i) j x)
theorem DoorJ.cell {n d g W R O : Nat} {refs : Nat → Nat} {h1 : PH} {tab : Nat → Nat → Str} {ords : Nat → List Nat} {m : Nat} {h : PH} (J : DoorJ n d g W R O refs h1 tab ords m h) (F : Refs n d g W R O refs h1) {i : Nat} (j : Nat) (x : Str) (li : i < n) : DoorJ n d g W R O refs h1 (putT tab i j x) ords m (h.set (refs i) (.lst (rowP n (putF (tab i) j x)))) := by
  obtain ⟨f1, f2, f3, f4, f5, f6⟩ := F.lt
  obtain ⟨r1, r2⟩ := F.rn i li
  have lr : refs i < h.length := (List.getElem?_eq_some_iff.mp (J.rw_ i li)).1
  refine ⟨J.dk.setL (by omega) (by omega) (lowrs_row _ _ _), J.ov.set (by omega), by rw [List.getElem?_set_ne (by omega)]; exact J.hW, by rw [List.getElem?_set_ne (by omega)]; exact J.hR, fun a ha => ?_, by rw [List.getElem?_set_ne (by omega)]; exact J.hO⟩
  unfold putT
  by_cases c : a = i
  · subst c
    rw [List.getElem?_set_self lr]
    simp [putF]
  · rw [List.getElem?_set_ne (fun e => c (F.inj i a li ha e).symm)]
    rw [show putF tab i (putF (tab i) j x) a = tab a by unfold putF; rw [if_neg c]]
    exact J.rw_ a ha
/-- the table so far: k says which pairs are done -/
structure TabI (n : Nat) (tab : Nat → Nat → Str) (k : Nat → Nat → Prop) : Prop where
  dia : ∀ a, a < n → tab a a = "-"
  don : ∀ a b, a < b → b < n → k a b → tab a b ∈ (["even", "stand", "bow"] : List Str) ∧ tab b a ∈ (["even", "stand", "bow"] : List Str) ∧ (tab a b = "even" ↔ tab b a = "even")
theorem TabI.put {n i j : Nat} {tab : Nat → Nat → Str} {k k2 : Nat → Nat → Prop} (T : TabI n tab k) (ij : i < j) {x y : Str} (hx : x ∈ (["even", "stand", "bow"] : List Str)) (hy : y ∈ (["even", "stand", "bow"] : List Str)) (xy : x = "even" ↔ y = "even") (hk : ∀ a b, a < b → b < n → k2 a b → k a b ∨ (a = i ∧ b = j)) : TabI n (putT (putT tab i j x) j i y) k2 := by
  have e : ∀ a b, putT (putT tab i j x) j i y a b = if a = j ∧ b = i then y else if a = i ∧ b = j then x else tab a b := fun a b => by
    unfold putT putF
    by_cases c1 : a = j
    · subst c1
      by_cases c2 : b = i
      · simp [c2]
      · have : ¬ a = i := by omega
        simp [c2, this]
    · by_cases c2 : a = i
      · subst c2
        by_cases c3 : b = j <;> simp [c1, c3]
      · simp [c1, c2]
  refine ⟨fun a ha => ?_, fun a b ab hb h2 => ?_⟩
  · rw [e, if_neg (by omega), if_neg (by omega)]
    exact T.dia a ha
  · rw [e a b, e b a]
    by_cases c : a = i ∧ b = j
    · obtain ⟨rfl, rfl⟩ := c
      rw [if_neg (by omega), if_pos ⟨rfl, rfl⟩, if_pos ⟨rfl, rfl⟩]
      exact ⟨hx, hy, xy⟩
    · rw [if_neg (by omega), if_neg c, if_neg (by omega), if_neg (by omega)]
      rcases hk a b ab hb h2 with z | z
      · exact T.don a b ab hb z
      · exact absurd z c
theorem atI_range {α : Type} {n i : Nat} (f : Nat → α) (l : i < n) : atI ((List.range n).map f) ((i : Nat) : Int) = some (f i) := by
  unfold atI
  rw [ixN_of (by omega) (by simp; omega)]
  simp [l]
end Dn
namespace Dn
open PySem PySem.Spec PyProof.Rows L2 PySem.SeqAt Rw

/-- a name is given a value, then what follows -/
theorem asg_w {i : Nat} {f : DE} {b : DS} {s : Sl} {h : PH} {N : Sl → PH → Prop} {R : PV → PH → Prop} (P : PV → PH → Prop) (hf : wO (f s h) P) (k : ∀ v h', P v h' → wS (b (s.set i (some v)) h') N R) : wS (sSeq (sAsg (gNm i) f) b s h) N R := by
  rw [sSeq_ap, wS_seq, sAsg_ap, wS_then]
  refine wO_mono hf fun v h' p => ?_
  rw [gNm_ap, asgO_some, wS_nx]
  exact k v h' p
/-! ### houses -/
abbrev Room := Option ((Nat → Nat → Str) × (Nat → List Nat))
def roomP (n : Nat) : Room → PV
  | none => .non
  | some p => doorP n p.1 p.2
def roomsP (n r : Nat) (rm : Nat → Room) : List PV := (List.range r).map fun i => roomP n (rm i)
def waysP (n : Nat) (ws : Nat → List (Bool × Nat)) : List PV := (List.range n).map fun i => wayP (ws i)
def houseP (n r : Nat) (rm : Nat → Room) (ws : Nat → List (Bool × Nat)) : PV := .tup [.tup (roomsP n r rm), .tup (waysP n ws)]
structure HouseOk (n r most : Nat) (rm : Nat → Room) (ws : Nat → List (Bool × Nat)) : Prop where
  rms : ∀ i, i < r → ∀ p, rm i = some p → DoorOk n p.1 p.2
  wys : ∀ i, i < n → WayOk r most (ws i)
theorem lowr_door (m n : Nat) (tab : Nat → Nat → Str) (ords : Nat → List Nat) : (doorP n tab ords).lowr m = true := by
  show PV.lowrs m [.tup (tabP n tab), .tup (ordsP n ords)] = true
  refine lowrs_iff.mpr fun y hy => ?_
  simp only [List.mem_cons, List.not_mem_nil, or_false] at hy
  rcases hy with e | e <;> subst e
  · refine lowrs_iff.mpr fun z hz => ?_
    obtain ⟨_, _, rfl⟩ := List.mem_map.mp hz
    exact lowrs_row _ _ _
  · refine lowrs_iff.mpr fun z hz => ?_
    obtain ⟨_, _, rfl⟩ := List.mem_map.mp hz
    exact lowrs_nats _ _
theorem lowr_room (m n : Nat) (p : Room) : (roomP n p).lowr m = true := by
  cases p with
  | none => rfl
  | some p => exact lowr_door _ _ _ _
theorem lowrs_rooms (m n r : Nat) (rm : Nat → Room) : PV.lowrs m (roomsP n r rm) = true := lowrs_iff.mpr fun y hy => by
  obtain ⟨_, _, rfl⟩ := List.mem_map.mp hy
  exact lowr_room _ _ _
theorem lowrs_ways (m n : Nat) (ws : Nat → List (Bool × Nat)) : PV.lowrs m (waysP n ws) = true := lowrs_iff.mpr fun y hy => by
  obtain ⟨_, _, rfl⟩ := List.mem_map.mp hy
  exact lowrs_steps _ _
theorem lowr_house (m n r : Nat) (rm : Nat → Room) (ws : Nat → List (Bool × Nat)) : (houseP n r rm ws).lowr m = true := by
  show PV.lowrs m [.tup (roomsP n r rm), .tup (waysP n ws)] = true
  refine lowrs_iff.mpr fun y hy => ?_
  simp only [List.mem_cons, List.not_mem_nil, or_false] at hy
  rcases hy with e | e <;> subst e
  · exact lowrs_rooms _ _ _ _
  · exact lowrs_ways _ _ _
theorem lowrs_snoc {m : Nat} {xs : List PV} {x : PV} (a : PV.lowrs m xs = true) (b : x.lowr m = true) : PV.lowrs m (xs ++ [x]) = true := lowrs_iff.mpr fun y hy => by
  rcases List.mem_append.mp hy with k | k
  · exact lowrs_iff.mp a y k
  · rw [List.mem_singleton.mp k]
    exact b
theorem rangeMap_snoc {α : Type} (i : Nat) (f : Nat → α) (x : α) : (List.range i).map f ++ [x] = (List.range (i + 1)).map (putF f i x) := by
  rw [List.range_succ, List.map_append]
  congr 1
  · apply List.map_congr_left
    intro a ha
    have : a < i := by simpa using ha
    unfold putF
    rw [if_neg (by omega)]
  · simp [putF]
theorem rooms_snoc (n i : Nat) (rm : Nat → Room) (p : Room) : roomsP n i rm ++ [roomP n p] = roomsP n (i + 1) (putF rm i p) := by
  unfold roomsP
  rw [rangeMap_snoc]
  apply List.map_congr_left
  intro a _
  unfold putF
  split <;> rfl
theorem ways_snoc (i : Nat) (ws : Nat → List (Bool × Nat)) (p : List (Bool × Nat)) : waysP i ws ++ [wayP p] = waysP (i + 1) (putF ws i p) := by
  unfold waysP
  rw [rangeMap_snoc]
  apply List.map_congr_left
  intro a _
  unfold putF
  split <;> rfl
end Dn
namespace Dn
open PySem PySem.Spec PyProof.Rows L2 PySem.SeqAt Rw

/-! ### what leaves the old objects -/
structure Gr (h h2 : PH) : Prop where
  len : h.length ≤ h2.length
  at_ : ∀ i, i < h.length → h2[i]? = h[i]?
  cl : Cl h2.length h2
theorem Gr.ov {d g : Nat} {h h2 : PH} (G : Gr h h2) : Ov d g h h2 := ⟨G.len, fun i l _ _ => G.at_ i l⟩
theorem Gr.dk {d g : Nat} {h h2 : PH} (G : Gr h h2) (D : Dk d g h) : Dk d g h2 := by
  obtain ⟨ld, lg⟩ := D.lt
  obtain ⟨gs, a, t, w, D⟩ := D
  exact ⟨gs, a, t, w, (G.at_ d ld).trans D.dic, (G.at_ g lg).trans D.gre, D.pos, D.few, G.cl⟩
theorem Cl.push {h : PH} {o : MO} (c : Cl h.length h) (ho : o.lowr (h.length + 1) = true) : Cl (h ++ [o]).length (h ++ [o]) := phLowr_of fun i p e => by
  rw [List.length_append, List.length_singleton]
  by_cases c2 : i < h.length
  · rw [List.getElem?_append_left c2] at e
    exact MO.lowr_mono (Nat.le_succ _) p (phLowr_at c e)
  · rw [List.getElem?_append_right (by omega)] at e
    cases hk : i - h.length with
    | zero =>
      rw [hk] at e
      cases e
      exact ho
    | succ k =>
      rw [hk] at e
      simp at e
theorem Gr.refl {h : PH} (c : Cl h.length h) : Gr h h := ⟨Nat.le_refl _, fun _ _ => rfl, c⟩
theorem Gr.trans {h h2 h3 : PH} (a : Gr h h2) (b : Gr h2 h3) : Gr h h3 := ⟨Nat.le_trans a.len b.len, fun i l => (b.at_ i (Nat.lt_of_lt_of_le l a.len)).trans (a.at_ i l), b.cl⟩
theorem Gr.push {h : PH} {o : MO} (c : Cl h.length h) (ho : o.lowr (h.length + 1) = true) : Gr h (h ++ [o]) := ⟨by simp, fun i l => List.getElem?_append_left l, c.push ho⟩
theorem Gr.pushL {h h2 : PH} {xs : List PV} (G : Gr h h2) (ho : PV.lowrs (h2.length + 1) xs = true) : Gr h (h2 ++ [.lst xs]) := G.trans (.push (o := .lst xs) G.cl ho)
theorem Gr.set {h h2 : PH} {i : Nat} {xs : List PV} (G : Gr h h2) (l : h.length ≤ i) (ho : PV.lowrs h2.length xs = true) : Gr h (h2.set i (.lst xs)) := ⟨by rw [List.length_set]; exact G.len, fun j lj => by rw [List.getElem?_set_ne (by omega)]; exact G.at_ j lj, by rw [List.length_set]; exact G.cl.set (o := .lst xs) ho i⟩
/-- behind a def that gives back a value without new objects -/
theorem gc_gr {h h3 : PH} {v : PV} {Q : PV → PH → Prop} (c : Cl h.length h) (G : Gr h h3) (hv : v.lowr h.length = true) (q : Q v h) : wO (gcN h (.ok v h3)) Q := by
  have e : h3.take h.length = h := by
    apply List.ext_getElem?
    intro i
    by_cases l : i < h.length
    · rw [List.getElem?_take_of_lt l]
      exact G.at_ i l
    · rw [List.getElem?_eq_none (by rw [List.length_take]; omega), List.getElem?_eq_none (by omega)]
  rw [gcN_cut G.len hv (by rw [e]; exact c), wO_ok, e]
  exact q
theorem gc_gk {h h3 : PH} {v : PV} {Q : PV → PH → Prop} (hv : v.lowr h.length = false) (q : Q v h3) : wO (gcN h (.ok v h3)) Q := by
  rw [gcN_keep hv, wO_ok]
  exact q

/-! ### what a house tells -/
def evensOf (n : Nat) (f : Nat → Str) : List Nat := (List.range n).filter fun j => decide (f j = "even")
theorem atI_nat {xs : List PV} {x : PV} {i : Nat} (e : xs[i]? = some x) : atI xs ((i : Nat) : Int) = some x := by
  have l : i < xs.length := (List.getElem?_eq_some_iff.mp e).1
  unfold atI
  rw [ixN_of (by omega) (by omega)]
  simpa using e
theorem house_0 (n r : Nat) (rm : Nat → Room) (ws : Nat → List (Bool × Nat)) (h : PH) : opIx (houseP n r rm ws) (.int 0) h = some (.tup (roomsP n r rm), h) := rfl
theorem house_1 (n r : Nat) (rm : Nat → Room) (ws : Nat → List (Bool × Nat)) (h : PH) : opIx (houseP n r rm ws) (.int 1) h = some (.tup (waysP n ws), h) := rfl
theorem rooms_at {n r i : Nat} (rm : Nat → Room) (l : i < r) : atI (roomsP n r rm) ((i : Nat) : Int) = some (roomP n (rm i)) := atI_range _ l
theorem ways_at {n i : Nat} (ws : Nat → List (Bool × Nat)) (l : i < n) : atI (waysP n ws) ((i : Nat) : Int) = some (wayP (ws i)) := atI_range _ l
theorem door_0 (n : Nat) (tab : Nat → Nat → Str) (ords : Nat → List Nat) (h : PH) : opIx (doorP n tab ords) (.int 0) h = some (.tup (tabP n tab), h) := rfl
theorem door_1 (n : Nat) (tab : Nat → Nat → Str) (ords : Nat → List Nat) (h : PH) : opIx (doorP n tab ords) (.int 1) h = some (.tup (ordsP n ords), h) := rfl
theorem tab_at {n i : Nat} (tab : Nat → Nat → Str) (l : i < n) : atI (tabP n tab) ((i : Nat) : Int) = some (.tup (rowP n (tab i))) := atI_range (fun i => PV.tup (rowP n (tab i))) l
theorem ords_at {n i : Nat} (ords : Nat → List Nat) (l : i < n) : atI (ordsP n ords) ((i : Nat) : Int) = some (.tup (natsP (ords i))) := atI_range (fun i => PV.tup (natsP (ords i))) l
theorem row_at {n i : Nat} (f : Nat → Str) (l : i < n) : atI (rowP n f) ((i : Nat) : Int) = some (.str (f i)) := atI_range (fun i => PV.str (f i)) l
theorem way_at {st : List (Bool × Nat)} {p : Nat} {s : Bool × Nat} (e : st[p]? = some s) : atI (st.map stepP) ((p : Nat) : Int) = some (stepP s) := atI_nat (by rw [List.getElem?_map, e]; rfl)
theorem enum_row (n : Nat) (f : Nat → Str) : enumP 0 (rowP n f) = (List.range n).map fun j => .tup [.int ((j : Nat) : Int), .str (f j)] := by
  apply List.ext_getElem?
  intro i
  rw [enumP_at]
  unfold rowP
  rw [List.getElem?_map, List.getElem?_map]
  by_cases l : i < n
  · rw [List.getElem?_range l]
    simp
  · rw [List.getElem?_eq_none (l := List.range n) (by simpa using l)]
    rfl
theorem filter_nats (n : Nat) (p : Nat → Bool) (b : PV → Bool) (f : PV → PV) (k : Nat → PV) (hb : ∀ j, b (k j) = p j) (hf : ∀ j, f (k j) = .int ((j : Nat) : Int)) : (((List.range n).map k).filter b).map f = natsP ((List.range n).filter p) := by
  rw [List.filter_map, List.map_map]
  unfold natsP
  have e : (b ∘ k) = p := funext hb
  rw [e]
  apply List.map_congr_left
  intro j _
  exact hf j
end Dn
namespace Dn
open PySem PySem.Spec PyProof.Rows L2 PySem.SeqAt Rw

def tripP (room i j : Nat) : PV := .tup [.int room, .int i, .int j]
def tripsRow (n : Nat) (f : Nat → Str) (room i : Nat) : List PV := ((evensOf n f).filter fun j => decide (i < j)).map (tripP room i)
def tripsAt (n : Nat) (t : Nat → Nat → Str) (room m : Nat) : List PV := ((List.range m).map fun i => tripsRow n (t i) room i).flatten
def tripsOf (n : Nat) (p : Room) (room : Nat) : List PV := match p with
  | none => []
  | some p => tripsAt n p.1 room n
def tripsP (n : Nat) (rm : Nat → Room) (m : Nat) : List PV := ((List.range m).map fun room => tripsOf n (rm room) room).flatten
theorem flat_succ {α : Type} (f : Nat → List α) (m : Nat) : ((List.range (m + 1)).map f).flatten = ((List.range m).map f).flatten ++ f m := by
  rw [List.range_succ, List.map_append, List.flatten_append]
  simp
theorem evens_len (n : Nat) (f : Nat → Str) : (evensOf n f).length ≤ n := by
  unfold evensOf
  have := List.length_filter_le (fun j => decide (f j = "even")) (List.range n)
  simpa using this
theorem tripsRow_len (n : Nat) (f : Nat → Str) (room i : Nat) : (tripsRow n f room i).length ≤ n := by
  unfold tripsRow
  rw [List.length_map]
  have := List.length_filter_le (fun j => decide (i < j)) (evensOf n f)
  have := evens_len n f
  omega
theorem tripsAt_len (n : Nat) (t : Nat → Nat → Str) (room : Nat) : ∀ m, (tripsAt n t room m).length ≤ m * n
  | 0 => by simp [tripsAt]
  | m + 1 => by
    unfold tripsAt
    rw [flat_succ, List.length_append, Nat.succ_mul]
    have a := tripsAt_len n t room m
    have b := tripsRow_len n (t m) room m
    unfold tripsAt at a
    omega
theorem tripsOf_len (n : Nat) (p : Room) (room : Nat) : (tripsOf n p room).length ≤ n * n := by
  cases p with
  | none => exact Nat.zero_le _
  | some p => exact tripsAt_len n _ _ n
theorem tripsP_len (n : Nat) (rm : Nat → Room) : ∀ m, (tripsP n rm m).length ≤ m * (n * n)
  | 0 => by simp [tripsP]
  | m + 1 => by
    unfold tripsP
    rw [flat_succ, List.length_append, Nat.succ_mul]
    have a := tripsP_len n rm m
    have b := tripsOf_len n (rm m) m
    unfold tripsP at a
    omega
/-- an item of the triples -/
theorem tripsP_mem {n m : Nat} {rm : Nat → Room} {x : PV} (h : x ∈ tripsP n rm m) : ∃ room i j, x = tripP room i j ∧ room < m ∧ i < j ∧ j < n := by
  unfold tripsP at h
  obtain ⟨l, hl, hx⟩ := List.mem_flatten.mp h
  obtain ⟨room, hr, rfl⟩ := List.mem_map.mp hl
  unfold tripsOf at hx
  cases e : rm room with
  | none => rw [e] at hx; cases hx
  | some p =>
    rw [e] at hx
    obtain ⟨l, hl, hx⟩ := List.mem_flatten.mp (show x ∈ ((List.range n).map fun i => tripsRow n (p.1 i) room i).flatten from hx)
    obtain ⟨i, hi, rfl⟩ := List.mem_map.mp hl
    obtain ⟨j, hj, rfl⟩ := List.mem_map.mp hx
    have h1 := List.mem_filter.mp hj
    have h2 := List.mem_filter.mp h1.1
    exact ⟨room, i, j, rfl, by simpa using hr, of_decide_eq_true h1.2, by simpa using h2.1⟩
theorem lowrs_trips (k n m : Nat) (rm : Nat → Room) : PV.lowrs k (tripsP n rm m) = true := lowrs_iff.mpr fun x hx => by
  obtain ⟨_, _, _, rfl, _⟩ := tripsP_mem hx
  rfl
theorem lowrs_tripsRow (k n : Nat) (f : Nat → Str) (room i : Nat) : PV.lowrs k (tripsRow n f room i) = true := lowrs_iff.mpr fun x hx => by
  obtain ⟨_, _, rfl⟩ := List.mem_map.mp hx
  rfl
theorem enum_rooms (n r : Nat) (rm : Nat → Room) : enumP 0 (roomsP n r rm) = (List.range r).map fun i => .tup [.int ((i : Nat) : Int), roomP n (rm i)] := by
  apply List.ext_getElem?
  intro i
  rw [enumP_at]
  unfold roomsP
  rw [List.getElem?_map, List.getElem?_map]
  by_cases l : i < r
  · rw [List.getElem?_range l]
    simp
  · rw [List.getElem?_eq_none (l := List.range r) (by simpa using l)]
    rfl
theorem isNon_room (n : Nat) (p : Room) : isNon (roomP n p) = p.isNone := by cases p <;> rfl
theorem nats_mem {rs : List Nat} {x : PV} (h : x ∈ natsP rs) : ∃ k, x = .int ((k : Nat) : Int) ∧ k ∈ rs := by
  obtain ⟨k, hk, rfl⟩ := List.mem_map.mp h
  exact ⟨k, rfl, hk⟩
def dnev_7 := @opMul_ref
/-- [(room, i, j) for j in evens if i < j] -/
theorem tripRow_comp {gs : List (Nat × List PV)} {h : PH} {x0 x1 x3 x5 : Option PV} {n room i : Nat} {f : Nat → Str} (ok : ∀ acc, okG gs (h ++ [.lst acc]) = true) (n5 : n ≤ 5) :
    compItems gs (gNm 5) (tV (eOp opLt (eVar 4) (eVar 5))) (eTup (eCons (eVar 2) (eCons (eVar 4) (eCons (eVar 5) eNil)))) h.length [x0, x1, some (.int room), x3, some (.int i), x5] (natsP (evensOf n f)) (h ++ [.lst []]) = .ok () (h ++ [.lst (tripsRow n f room i)]) := by
  have cp := comp_pure (gs := gs) (g := gNm 5) (t := tV (eOp opLt (eVar 4) (eVar 5))) (e := eTup (eCons (eVar 2) (eCons (eVar 4) (eCons (eVar 5) eNil)))) (s := [x0, x1, some (.int room), x3, some (.int i), x5]) (h0 := h) (fun x => match x with | .int j => decide ((i : Int) < j) | _ => false) (fun x => .tup [.int room, .int i, x]) ok (natsP (evensOf n f)) [] (fun x hx => by
    obtain ⟨a, rfl, _⟩ := nats_mem hx
    refine ⟨_, rfl, fun acc => ⟨?_, fun _ => ?_⟩⟩
    · simp -dsimp -implicitDefEqProofs only [Out.bind_ok, Out.bind_err, Out.bind_no, dnev_1, dnev_2, dnev_3, dnev_4, List.getElem?_cons_zero, List.getElem?_cons_succ, List.set_cons_zero, List.set_cons_succ, decide_true, decide_false, Bool.not_false, Bool.not_true, Bool.not_not, List.cons_append, List.nil_append, dnev_5, dnev_6, get_last, set_last, dnev_7]
    · simp -dsimp -implicitDefEqProofs only [Out.bind_ok, Out.bind_err, Out.bind_no, dnev_1, dnev_2, dnev_3, dnev_4, List.getElem?_cons_zero, List.getElem?_cons_succ, List.set_cons_zero, List.set_cons_succ, decide_true, decide_false, Bool.not_false, Bool.not_true, Bool.not_not, List.cons_append, List.nil_append, dnev_5, dnev_6, get_last, set_last, dnev_7]) (by have := evens_len n f; simp [natsP]; omega)
  rw [cp]
  have e : ((natsP (evensOf n f)).filter fun x => match x with | .int j => decide ((i : Int) < j) | _ => false).map (fun x => PV.tup [.int room, .int i, x]) = tripsRow n f room i := by
    unfold natsP tripsRow tripP
    rw [List.filter_map, List.map_map]
    have e1 : ((fun x : PV => match x with | .int j => decide ((i : Int) < j) | _ => false) ∘ fun r : Nat => PV.int ((r : Nat) : Int)) = fun j => decide (i < j) := by
      funext j
      simp only [Function.comp_apply]
      exact decide_eq_decide.mpr (by omega)
    rw [e1]
    rfl
  rw [e]
  rfl
end Dn
namespace Dn
open PySem PySem.Spec PyProof.Rows L2 PySem.SeqAt Rw

/-- [.. for x in range(m) if ..], nothing changes -/
theorem range_comp {gs : List (Nat × List PV)} {j m : Nat} {t : DT} {e : DE} {s : Sl} {h : PH} (b : Nat → Bool) (f : Nat → PV) (ok : ∀ acc, okG gs (h ++ [.lst acc]) = true) (hm : m < 1000000)
    (step : ∀ k, k < m → ∀ acc, t (s.set j (some (.int ((k : Nat) : Int)))) (h ++ [.lst acc]) = .ok (b k) (h ++ [.lst acc]) ∧ (b k = true → e (s.set j (some (.int ((k : Nat) : Int)))) (h ++ [.lst acc]) = .ok (f k) (h ++ [.lst acc]))) :
    compItems gs (gNm j) t e h.length s (rangeP 0 m) (h ++ [.lst []]) = .ok () (h ++ [.lst (((List.range m).filter b).map f)]) := by
  have cp := comp_pure (gs := gs) (g := gNm j) (t := t) (e := e) (s := s) (h0 := h) (fun x => match x with | .int i => b i.toNat | _ => false) (fun x => match x with | .int i => f i.toNat | x => x) ok (rangeP 0 m) [] (fun x hx => by
    obtain ⟨k, hk, rfl⟩ := List.mem_map.mp hx
    have lk : k < m := by simpa using hk
    refine ⟨_, rfl, fun acc => ?_⟩
    have e0 : 0 + ((k : Nat) : Int) = ((k : Nat) : Int) := by omega
    rw [e0]
    obtain ⟨a, c⟩ := step k lk acc
    exact ⟨a, c⟩) (by rw [range_len]; simp; omega)
  rw [cp, List.nil_append]
  congr 3
  unfold rangeP
  rw [List.filter_map, List.map_map]
  have e1 : ((fun x : PV => match x with | .int i => b i.toNat | _ => false) ∘ fun k : Nat => PV.int (0 + ((k : Nat) : Int))) = b := by
    funext k
    simp
  rw [e1]
  congr 1
  apply List.map_congr_left
  intro k _
  simp
theorem filter_true {α : Type} (l : List α) : l.filter (fun _ => true) = l := List.filter_eq_self.mpr fun _ _ => rfl
def spotP (p : Nat) (w : Str) (k : Nat) : PV := .tup [.int ((p : Nat) : Int), .str w, .int ((k : Nat) : Int)]
def bowsAt (t : Nat → Nat → Str) (o : Nat → List Nat) (i k : Nat) : Bool := decide (t i ((o i).getD k 0) = "bow")
/-- the spots of an entry of a door -/
def doorSpots (n : Nat) (t : Nat → Nat → Str) (o : Nat → List Nat) (i p : Nat) : List PV :=
  (List.range (evensOf n (t i)).length).map (spotP p "hand") ++ (List.range (n - 1)).map (spotP p "look") ++ ((List.range (n - 1)).filter (bowsAt t o i)).map (spotP p "yield") ++ ((List.range (n - 1)).filter (bowsAt t o i)).map (spotP p "low")
def entSpots (n : Nat) (rm : Nat → Room) (st : List (Bool × Nat)) (i p : Nat) : List PV := match st[p]? with
  | some (true, room) => match rm room with
    | some q => if n = 1 then [] else doorSpots n q.1 q.2 i p
    | none => []
  | _ => []
theorem others_len {n i : Nat} (l : i < n) : (othersOf n i).length = n - 1 := by
  have e : othersOf n i = (List.range n).erase i := by
    rw [List.Nodup.erase_eq_filter List.nodup_range]
    unfold othersOf
    congr 1
  rw [e, List.length_erase_of_mem (by simpa using l), List.length_range]
theorem ord_at {n i k : Nat} {t : Nat → Nat → Str} {o : Nat → List Nat} (ok : DoorOk n t o) (li : i < n) (lk : k < n - 1) : (o i)[k]? = some ((o i).getD k 0) ∧ (o i).getD k 0 < n := by
  have le : (o i).length = n - 1 := by rw [(ok.ord i li).length_eq, others_len li]
  have e : (o i)[k]? = some ((o i).getD k 0) := by
    rw [List.getD_eq_getElem?_getD, List.getElem?_eq_getElem (by omega)]
    rfl
  refine ⟨e, ?_⟩
  have m := (ok.ord i li).mem_iff.mp (List.mem_of_getElem? e)
  unfold othersOf at m
  have := (List.mem_filter.mp m).1
  simpa using this
theorem nats_at {rs : List Nat} {k v : Nat} (e : rs[k]? = some v) : atI (natsP rs) ((k : Nat) : Int) = some (.int ((v : Nat) : Int)) := atI_nat (by unfold natsP; rw [List.getElem?_map, e]; rfl)
theorem lowrs_spots (m : Nat) (p : Nat) (w : Str) (l : List Nat) : PV.lowrs m (l.map (spotP p w)) = true := lowrs_iff.mpr fun y hy => by
  obtain ⟨_, _, rfl⟩ := List.mem_map.mp hy
  rfl
theorem lowrs_app {m : Nat} {xs ys : List PV} (a : PV.lowrs m xs = true) (b : PV.lowrs m ys = true) : PV.lowrs m (xs ++ ys) = true := lowrs_iff.mpr fun y hy => by
  rcases List.mem_append.mp hy with k | k
  · exact lowrs_iff.mp a y k
  · exact lowrs_iff.mp b y k
theorem lowrs_doorSpots (m n : Nat) (t : Nat → Nat → Str) (o : Nat → List Nat) (i p : Nat) : PV.lowrs m (doorSpots n t o i p) = true := lowrs_app (lowrs_app (lowrs_app (lowrs_spots _ _ _ _) (lowrs_spots _ _ _ _)) (lowrs_spots _ _ _ _)) (lowrs_spots _ _ _ _)
theorem str_out (b : Bool) : decide ((if b then ("in" : Str) else "out") = "out") = !b := by cases b <;> decide +kernel
/-- what is looked at later -/
inductive BxP (p : Prop) : Type where
  | mk
@[irreducible] def Hold (p : Prop) (b : BxP p := .mk) : Prop := p
theorem hold {p : Prop} (q : p) : Hold p := by unfold Hold; exact q
theorem of_hold {p : Prop} (q : Hold p) : p := by unfold Hold at q; exact q
theorem seq_h {a b : DS} {s : Sl} {h : PH} {N : Sl → PH → Prop} {R : PV → PH → Prop} (q : wS (a s h) (fun s h => Hold (wS (b s h) N R)) R) : wS (sSeq a b s h) N R := by
  rw [sSeq_ap, wS_seq]
  exact wS_mono q (fun _ _ x => of_hold x) fun _ _ x => x
def par3O (i j l : Nat) (vs : List PV) (s : Sl) (h : PH) : OutS := match vs with
  | [v, w, u] => .nx (((s.set i (some v)).set j (some w)).set l (some u)) h
  | _ => .no
theorem sPar3_ap (i j l : Nat) (f : DA) (s : Sl) (h : PH) : sPar3 i j l f s h = (f s h).then s fun vs h => par3O i j l vs s h := rfl
theorem par3O_3 (i j l : Nat) (v w u : PV) (s : Sl) (h : PH) : par3O i j l [v, w, u] s h = .nx (((s.set i (some v)).set j (some w)).set l (some u)) h := rfl
/-- the list that a def fills, its first new object -/
structure Fl (h : PH) (F : Nat) (xs : List PV) (H : PH) : Prop where
  at_ : H[F]? = some (.lst xs)
  gr : Gr h H
  le : h.length ≤ F
theorem Fl.lt {h : PH} {F : Nat} {xs : List PV} {H : PH} (K : Fl h F xs H) : F < H.length := (List.getElem?_eq_some_iff.mp K.at_).1
theorem Fl.low {h : PH} {F : Nat} {xs : List PV} {H : PH} (K : Fl h F xs H) : PV.lowrs H.length xs = true := phLowr_at K.gr.cl K.at_
theorem Fl.see {h : PH} {F : Nat} {xs ys : List PV} {H : PH} (K : Fl h F xs H) : (H ++ [MO.lst ys])[F]? = some (.lst xs) := by
  rw [List.getElem?_append_left K.lt]
  exact K.at_
theorem Fl.push {h : PH} {F : Nat} {xs ys : List PV} {H : PH} (K : Fl h F xs H) (ly : PV.lowrs (H.length + 1) ys = true) : Fl h F xs (H ++ [MO.lst ys]) := ⟨K.see, K.gr.pushL ly, K.le⟩
theorem Fl.ext {h : PH} {F : Nat} {xs ys : List PV} {H : PH} (K : Fl h F xs H) (ly : PV.lowrs H.length ys = true) : Fl h F (xs ++ ys) ((H ++ [MO.lst ys]).set F (.lst (xs ++ ys))) := by
  have l1 : (H ++ [MO.lst ys]).length = H.length + 1 := by simp
  have lt := K.lt
  refine ⟨List.getElem?_set_self (by omega), (K.gr.pushL (lowrs_mono (Nat.le_succ _) _ ly)).set K.le ?_, K.le⟩
  rw [l1]
  exact lowrs_app (lowrs_mono (Nat.le_succ _) _ K.low) (lowrs_mono (Nat.le_succ _) _ ly)

theorem for_nil {g : GP} {body : DS} {s : Sl} {h : PH} {N : Sl → PH → Prop} {R : PV → PH → Prop} (q : N s h) : wS (forItems [] g body [] s h) N R := by
  unfold forItems
  rw [if_pos (show okG [] h = true from rfl), wS_nx]
  exact q
theorem for_cons {j : Nat} {body : DS} {x : PV} {r : List PV} {s : Sl} {h : PH} {N : Sl → PH → Prop} {R : PV → PH → Prop} (q : wS (body (s.set j (some x)) h) (fun s h => Hold (wS (forItems [] (gNm j) body r s h) N R)) R) : wS (forItems [] (gNm j) body (x :: r) s h) N R := by
  unfold forItems
  rw [if_pos (show okG [] h = true from rfl), gNm_ap]
  show wS (match body (s.set j (some x)) h with
    | .nx s h => forItems [] (gNm j) body r s h
    | .ct s h => forItems [] (gNm j) body r s h
    | .bk s h => .nx s h
    | o => o) N R
  cases e : body (s.set j (some x)) h with
  | nx s2 h2 => rw [e, wS_nx] at q; exact of_hold q
  | rt v h2 => rw [e, wS_rt] at q; dsimp only; rw [wS_rt]; exact q
  | bk _ _ => rw [e, wS_bk] at q; exact q.elim
  | ct _ _ => rw [e, wS_ct] at q; exact q.elim
  | err _ _ _ => rw [e, wS_err] at q; exact q.elim
  | no => rw [e, wS_no] at q; exact q.elim
def dnev_8 := And.intro @sPar3_ap (@par3O_3)
def dnw_2 := And.intro @wS_hO (And.intro @wP_hTp (And.intro @wP_hsCons (And.intro @wP_hsNil (And.intro @wP_hNm (And.intro @wP_hSub (@wF_set))))))
theorem extend_w {h : PH} {F fv : Nat} {xs ys : List PV} {s : Sl} {H : PH} {lc : DE} {N : Sl → PH → Prop} {R : PV → PH → Prop} (K : Fl h F xs H) (hs : s[fv]? = some (some (.ref F))) (hlc : lc s H = .ok (.ref H.length) (H ++ [MO.lst ys])) (ly : PV.lowrs H.length ys = true) (l : xs.length + ys.length ≤ 16777216) (k : ∀ H', Fl h F (xs ++ ys) H' → N s H') : wS (sDrop (eMt "list" mExtend (eVar fv) (eCons lc eNil)) s H) N R := by
  have e1 := K.at_
  have e2 := K.see (ys := ys)
  simp -dsimp -implicitDefEqProofs only [Out.bind_ok, Out.bind_err, Out.bind_no, dnev_1, dnev_2, dnev_3, dnev_4, List.getElem?_cons_zero, List.getElem?_cons_succ, List.set_cons_zero, List.set_cons_succ, decide_true, decide_false, Bool.not_false, Bool.not_true, Bool.not_not, List.cons_append, List.nil_append, dnev_5, dnev_6, get_last, set_last, dnev_7, dnev_8, dnw_1, true_imp_iff, not_true_eq_false, false_imp_iff, and_true, true_and, dnw_2, hs, hlc, e1, e2]
  exact ⟨l, k _ (K.ext ly)⟩
end Dn
namespace Dn
open PySem PySem.Spec PyProof.Rows L2 PySem.SeqAt Rw

/-! ### standings -/
def SpotOk (n : Nat) (rm : Nat → Room) (st : List (Bool × Nat)) (i : Nat) (x : PV) : Prop := x = spotP 0 "rest" 0 ∨ ∃ p, p < st.length ∧ (x = spotP p "go" 0 ∨ x ∈ entSpots n rm st i p)
/-- a token of these two -/
def TokOk (x y : PV) : Prop := ∃ room i j w : Nat, x = tripP room i j ∧ (w = i ∨ w = j) ∧ y = .tup [.int room, .int i, .int j, .int w]
structure StandOk (n r : Nat) (rm : Nat → Room) (ws : Nat → List (Bool × Nat)) (sp tk : List PV) : Prop where
  ls : sp.length = n
  sps : ∀ (i : Nat) (x : PV), sp[i]? = some x → SpotOk n rm (ws i) i x
  lt : tk.length = (tripsP n rm r).length
  tks : ∀ (i : Nat) (x y : PV), (tripsP n rm r)[i]? = some x → tk[i]? = some y → TokOk x y
theorem doorSpots_mem {n i p : Nat} {t : Nat → Nat → Str} {o : Nat → List Nat} {x : PV} (n5 : n ≤ 5) (h : x ∈ doorSpots n t o i p) : ∃ w k, x = spotP p w k ∧ k ≤ 4 ∧ w ∈ (["hand", "look", "yield", "low"] : List Str) := by
  have el := evens_len n (t i)
  unfold doorSpots at h
  rcases List.mem_append.mp h with h | h
  · rcases List.mem_append.mp h with h | h
    · rcases List.mem_append.mp h with h | h
      · obtain ⟨k, hk, rfl⟩ := List.mem_map.mp h
        have : k < _ := List.mem_range.mp hk
        exact ⟨_, k, rfl, by omega, by decide +kernel⟩
      · obtain ⟨k, hk, rfl⟩ := List.mem_map.mp h
        have : k < _ := List.mem_range.mp hk
        exact ⟨_, k, rfl, by omega, by decide +kernel⟩
    · obtain ⟨k, hk, rfl⟩ := List.mem_map.mp h
      have : k < _ := List.mem_range.mp (List.mem_filter.mp hk).1
      exact ⟨_, k, rfl, by omega, by decide +kernel⟩
  · obtain ⟨k, hk, rfl⟩ := List.mem_map.mp h
    have : k < _ := List.mem_range.mp (List.mem_filter.mp hk).1
    exact ⟨_, k, rfl, by omega, by decide +kernel⟩
theorem entSpots_mem {n i p : Nat} {rm : Nat → Room} {st : List (Bool × Nat)} {x : PV} (n5 : n ≤ 5) (h : x ∈ entSpots n rm st i p) : ∃ w k, x = spotP p w k ∧ k ≤ 4 ∧ w ∈ (["hand", "look", "yield", "low"] : List Str) := by
  unfold entSpots at h
  split at h
  · split at h
    · split at h
      · cases h
      · exact doorSpots_mem n5 h
    · cases h
  · cases h
theorem SpotOk.form {n i : Nat} {rm : Nat → Room} {st : List (Bool × Nat)} {x : PV} (n5 : n ≤ 5) (h : SpotOk n rm st i x) : ∃ p w k, x = spotP p w k ∧ (p = 0 ∨ p < st.length) ∧ k ≤ 4 ∧ w ∈ (["rest", "go", "hand", "look", "yield", "low"] : List Str) := by
  rcases h with e | ⟨p, lp, e | m⟩
  · exact ⟨_, _, _, e, .inl rfl, by omega, by decide +kernel⟩
  · exact ⟨_, _, _, e, .inr lp, by omega, by decide +kernel⟩
  · obtain ⟨w, k, e, lk, mw⟩ := entSpots_mem n5 m
    exact ⟨p, w, k, e, .inr lp, lk, by simp only [List.mem_cons, List.not_mem_nil, or_false] at mw ⊢; rcases mw with z | z | z | z <;> simp [z]⟩
theorem lowr_spot (m p : Nat) (w : Str) (k : Nat) : (spotP p w k).lowr m = true := rfl
theorem ent_len {n i p : Nat} {rm : Nat → Room} {st : List (Bool × Nat)} (n5 : n ≤ 5) : (entSpots n rm st i p).length ≤ 20 := by
  unfold entSpots
  split
  · split
    · split
      · simp
      · rename_i q _ _
        unfold doorSpots
        have el := evens_len n (q.1 i)
        have := List.length_filter_le (bowsAt q.1 q.2 i) (List.range (n - 1))
        simp only [List.length_append, List.length_map, List.length_range] at this ⊢
        omega
    · simp
  · simp
end Dn
namespace Dn
open PySem PySem.Spec PyProof.Rows L2 PySem.SeqAt Rw

/-! ### values -/
theorem opNe_nilT (xs : List PV) (h : PH) : opNe (.tup xs) (.tup []) h = some (.bl (!decide (xs = [])), h) := by
  have q : neB h (.tup xs) (.tup []) = (eqB h (.tup xs) (.tup [])).map fun b => !b := by
    unfold neB
    cases toD h 50 (.tup xs) <;> rfl
  have e : eqB h (.tup xs) (.tup []) = some (decide (xs = [])) := by
    unfold eqB lenB
    rfl
  unfold opNe
  rw [q, e]
  rfl
theorem w_small {i : Int} (h0 : 0 ≤ i) (h : i < 64) : (PyData.int i).weight ≤ 7 := by
  obtain ⟨k, rfl⟩ := Int.eq_ofNat_of_zero_le h0
  simp only [PyData.weight]
  split
  · omega
  · rename_i c
    have : ((k : Nat) : Int).natAbs = k := rfl
    rw [this]
    have k0 : k ≠ 0 := fun e => by subst e; exact c rfl
    have : k.log2 < 6 := (Nat.log2_lt k0).mpr (by omega)
    omega
theorem Da.small {k w n : Nat} {h : PH} {i : Int} (h0 : 0 ≤ i) (l : i < 64) (lw : 7 ≤ w) : Da (k + 1) w n h (.int i) := ⟨.int i, rfl, .int (by omega), Nat.le_trans (w_small h0 l) lw⟩
theorem word_ok {w : Str} (m : w ∈ (["rest", "go", "hand", "look", "yield", "low"] : List Str)) : (w.cps.toList.all fun c => decide (c < 1114112)) = true ∧ w.cps.size ≤ 20 := by
  simp only [List.mem_cons, List.not_mem_nil, or_false] at m
  rcases m with e | e | e | e | e | e <;> subst e <;> exact ⟨by decide +kernel, by decide +kernel⟩
/-- a place, a word, a number -/
theorem Da.spot {n : Nat} {h : PH} {p k : Int} {w : Str} (hp : 0 ≤ p ∧ p < 64) (hk : 0 ≤ k ∧ k < 64) (hw : w ∈ (["rest", "go", "hand", "look", "yield", "low"] : List Str)) : Da 2 37 n h (.tup [.int p, .str w, .int k]) := by
  obtain ⟨a, b⟩ := word_ok hw
  exact Da.tup (Das.cons (w1 := 7) (.small hp.1 hp.2 (by omega)) (Das.cons (w1 := 20) (.str a b) (Das.cons (w1 := 7) (w2 := 0) (.small hk.1 hk.2 (by omega)) .nil (Nat.le_refl _)) (Nat.le_refl _)) (by omega))
theorem Das.all {k w n : Nat} {h : PH} : ∀ {xs : List PV}, (∀ x ∈ xs, Da k w n h x) → Das k (xs.length * (w + 1)) n h xs
  | [], _ => .nil
  | x :: xs, a => Das.cons (a x List.mem_cons_self) (Das.all fun y hy => a y (List.mem_cons_of_mem _ hy)) (by rw [List.length_cons, Nat.succ_mul]; omega)
theorem StandOk.sp_da {n r most : Nat} {rm : Nat → Room} {ws : Nat → List (Bool × Nat)} {sp tk : List PV} (S : StandOk n r rm ws sp tk) (n5 : n ≤ 5) (m24 : most ≤ 24) (ok : HouseOk n r most rm ws) (m : Nat) (h : PH) : Das 2 190 m h sp := by
  refine (Das.all (w := 37) fun x hx => ?_).up (Nat.le_refl _) ?_
  · obtain ⟨a, la, rfl⟩ := List.getElem_of_mem hx
    obtain ⟨p, w, k, e, lp, lk, mw⟩ := (S.sps a _ (List.getElem?_eq_getElem la)).form n5
    rw [e]
    have := (ok.wys a (by have := S.ls; omega)).few
    exact Da.spot (by omega) (by omega) mw
  · rw [S.ls]
    omega
theorem StandOk.tk_da {n r : Nat} {rm : Nat → Room} {ws : Nat → List (Bool × Nat)} {sp tk : List PV} (S : StandOk n r rm ws sp tk) (n5 : n ≤ 5) (r6 : r ≤ 6) (m : Nat) (h : PH) : Das 2 4950 m h tk := by
  refine (Das.all (w := 32) fun x hx => ?_).up (Nat.le_refl _) ?_
  · obtain ⟨a, la, rfl⟩ := List.getElem_of_mem hx
    have lt := S.lt
    have ex := List.getElem?_eq_getElem (l := tripsP n rm r) (i := a) (by omega)
    obtain ⟨room, i, j, w, e1, hw, e⟩ := S.tks a _ _ ex (List.getElem?_eq_getElem la)
    obtain ⟨room2, i2, j2, e2, l1, l2, l3⟩ := tripsP_mem (List.mem_of_getElem? ex)
    rw [e1] at e2
    unfold tripP at e2
    simp only [PV.tup.injEq, List.cons.injEq, PV.int.injEq, and_true] at e2
    rw [e]
    exact Da.tup (Das.cons (w1 := 7) (.small (by omega) (by omega) (by omega)) (Das.cons (w1 := 7) (.small (by omega) (by omega) (by omega)) (Das.cons (w1 := 7) (.small (by omega) (by omega) (by omega)) (Das.cons (w1 := 7) (w2 := 0) (.small (by omega) (by omega) (by omega)) .nil (Nat.le_refl _)) (Nat.le_refl _)) (Nat.le_refl _)) (by omega))
  · have lb := tripsP_len n rm r
    have lb2 : r * (n * n) ≤ 6 * (5 * 5) := Nat.mul_le_mul r6 (Nat.mul_le_mul n5 n5)
    have := S.lt
    omega
theorem Da.pair {k w1 w2 w n : Nat} {h : PH} {xs ys : List PV} (a : Das k w1 n h xs) (b : Das k w2 n h ys) (l : w1 + w2 + 2 ≤ w) : Da (k + 2) w n h (.tup [.tup xs, .tup ys]) := Da.tup (Das.cons (Da.tup a) (Das.cons (w2 := 0) (Da.tup b) .nil (Nat.le_refl _)) (by omega))
end Dn
namespace Dn
open PySem PySem.Spec PyProof.Rows L2 PySem.SeqAt Rw

/-! ### the program's own defs: they change nothing -/
/-- a value that is data, with texts as they are -/
def Vl (h : PH) (x : PV) : Prop := ∃ d, toE h 20 x = some d ∧ strsO d = true
theorem Da.vl {k w n : Nat} {h : PH} {v : PV} (a : Da k w n h v) (l : k ≤ 20) : Vl h v := by
  obtain ⟨d, e, nc, _⟩ := a
  exact ⟨d, toE_up l (toE_ext (fun _ _ q s => (msk_at q s).2) k e), nc.so⟩
theorem Vl.ty {h : PH} {v : PV} (a : Vl h v) : ∃ c, tyP h v = some c := by
  obtain ⟨d, e, _⟩ := a
  exact ty_toD (toE_toD 20 e)
theorem Vl.dat {h : PH} {v : PV} (a : Vl h v) : ∃ d, toD h 50 v = some d := by
  obtain ⟨d, e, _⟩ := a
  exact ⟨d, toE_toD 50 (toE_up (by decide) e)⟩
theorem Vl.at_ {h : PH} {xs : List PV} {x : PV} (a : Vl h (.tup xs)) (m : x ∈ xs) : Vl h x := by
  obtain ⟨d, e, so⟩ := a
  unfold toE at e
  dsimp only at e
  cases q : allD (toE h 19) xs with
  | none => rw [q] at e; cases e
  | some ds =>
    rw [q] at e
    cases e
    obtain ⟨l, k⟩ := allD_some.mp q
    obtain ⟨i, li, rfl⟩ := List.getElem_of_mem m
    refine ⟨ds[i]'(by omega), toE_mono 19 (k i _ _ (List.getElem?_eq_getElem li) (List.getElem?_eq_getElem (by omega))), ?_⟩
    have all_ : ∀ {ds : List PyData}, strsOA ds = true → ∀ d ∈ ds, strsO d = true := by
      intro ds
      induction ds with
      | nil => intro _ d hd; cases hd
      | cons y ys ih =>
        intro s d hd
        simp only [strsOA, Bool.and_eq_true] at s
        rcases List.mem_cons.mp hd with e | e
        · rw [e]; exact s.1
        · exact ih s.2 d e
    exact all_ (by simpa only [strsO] using so) _ (List.getElem_mem _)
theorem Vl.nk {h : PH} {v : PV} (a : Vl h v) : ∀ xs, v ≠ .kt xs := fun xs e => by
  subst e
  obtain ⟨d, e, _⟩ := a
  cases e
theorem Vl.ext {h h2 : PH} {v : PV} (a : Vl h v) (G : Gr h h2) : Vl h2 v := by
  obtain ⟨d, e, so⟩ := a
  refine ⟨d, toE_ext (fun i o q _ => ?_) 20 e, so⟩
  rw [G.at_ i (List.getElem?_eq_some_iff.mp q).1]
  exact q
def intB : PV → Bool
  | .int _ => true
  | _ => false
theorem intB_iff {x : PV} : intB x = true ↔ ∃ i, x = .int i := by
  cases x with
  | int i => exact ⟨fun _ => ⟨_, rfl⟩, fun _ => rfl⟩
  | _ => exact ⟨fun q => (nomatch q), fun ⟨_, q⟩ => (nomatch q)⟩
/-- its kinds -/
theorem ty_int {h : PH} {x : PV} {c : String} (e : tyP h x = some c) : Rw.isC "int" c = (intB x || match x with | .bl _ => true | _ => false) := by
  obtain ⟨q, _⟩ := isC_ty e
  cases x with
  | int i => cases e; exact isC_ii
  | bl i => cases e; exact isC_ib
  | _ =>
    cases z : Rw.isC "int" c with
    | false => rfl
    | true => rcases q z with ⟨i, e⟩ | ⟨b, e⟩ <;> cases e
theorem ty_str {h : PH} {x : PV} {c : String} (e : tyP h x = some c) : Rw.isC "str" c = match x with | .str _ => true | _ => false := by
  obtain ⟨_, _, q, _⟩ := isC_ty e
  cases x with
  | str i => cases e; exact isC_ss
  | _ =>
    cases z : Rw.isC "str" c with
    | false => rfl
    | true => obtain ⟨i, e⟩ := q z; cases e
def tupB : PV → Bool
  | .tup _ => true
  | _ => false
theorem ty_tup {h : PH} {x : PV} {c : String} (nk : ∀ xs, x ≠ .kt xs) (e : tyP h x = some c) : Rw.isC "tuple" c = tupB x := by
  obtain ⟨_, q, _, _⟩ := isC_ty e
  cases x with
  | tup i => cases e; exact isC_tt
  | kt i => exact absurd rfl (nk i)
  | _ =>
    cases z : Rw.isC "tuple" c with
    | false => rfl
    | true => rcases q z with ⟨i, e⟩ | ⟨i, e⟩ <;> cases e
def belowB (x : PV) (n : Int) : Bool := match x with
  | .int i => decide (0 ≤ i) && decide (i < n)
  | _ => false
def tupN (x : PV) (n : Nat) : Bool := match x with
  | .tup xs => decide (xs.length = n)
  | _ => false
def pairB (x : PV) : Bool := match x with
  | .tup [.tup _, .tup _] => true
  | _ => false
theorem pairB_iff {x : PV} : pairB x = true ↔ ∃ a b, x = .tup [.tup a, .tup b] := by
  unfold pairB
  split
  · exact ⟨fun _ => ⟨_, _, rfl⟩, fun _ => rfl⟩
  · rename_i q
    exact ⟨fun z => (nomatch z), fun ⟨a, b, e⟩ => absurd e (q a b)⟩
end Dn
namespace Dn
open PySem PySem.Spec PyProof.Rows L2 PySem.SeqAt Rw

/-- tuple(.. for ..) that changes nothing -/
theorem gen_pure {gs : List (Nat × List PV)} {g : GP} {t : DT} {e : DE} {s : Sl} {h : PH} (b : PV → Bool) (f : PV → PV) (ok : okG gs h = true) (items : List PV)
    (step : ∀ x ∈ items, ∃ as, g x = some as ∧ t (setP as s) h = .ok (b x) h ∧ (b x = true → e (setP as s) h = .ok (f x) h)) (l : items.length < 16777216) :
    genItems gs g t e s items [] h = .ok ((items.filter b).map f) h := by
  obtain ⟨y, h', e1, e2, e3⟩ := wO_ex.mp (gen_w (gs := gs) (g := g) (t := t) (e := e) (s := s) (items := items) (h := h) (Q := fun acc h' => acc = (items.filter b).map f ∧ h' = h) (fun i acc h' => acc = ((items.take i).filter b).map f ∧ h' = h) ⟨rfl, rfl⟩ (fun i acc h' ⟨_, e⟩ => by rw [e]; exact ok) (fun i x hx acc h' ⟨ea, eh⟩ => by
    subst eh
    subst ea
    have m := List.mem_of_getElem? hx
    obtain ⟨as, e1, e2, e3⟩ := step x m
    have tk : items.take (i + 1) = items.take i ++ [x] := by rw [List.take_succ, hx]; rfl
    refine ⟨as, e1, ?_⟩
    rw [e2, wO_ok]
    refine ⟨fun c => ?_, fun c => ⟨?_, rfl⟩⟩
    · rw [e3 c, wO_ok]
      refine ⟨?_, ?_, rfl⟩
      · rw [List.length_map]
        have := List.length_filter_le b (items.take i)
        have := List.length_take (l := items) (i := i)
        omega
      · rw [tk, List.filter_append, List.map_append, List.filter_cons_of_pos c]
        rfl
    · rw [tk, List.filter_append, List.filter_cons_of_neg (by rw [c]; decide), List.filter_nil, List.append_nil]) (fun acc h' ⟨ea, eh⟩ => by
    rw [List.take_length] at ea
    exact ⟨ea, eh⟩))
  rw [e1, e2, e3]
theorem eTupX_ap (it : DI) (g : GP) (t : DT) (e : DE) (vs : List Nat) (s : Sl) (h : PH) : eTupX it g t e vs s h = (it s h).bind fun p h => (genItems p.1 g t e (wipeP s vs) p.2 [] h).bind fun acc h => .ok (.tup acc) h := rfl
def rgO (p : Int × Int) (h : PH) : Out PV := if rgOk p then .ok (.tup (rgP p.1 p.2)) h else .no
theorem eTupRg_ap (f : DRg) (s : Sl) (h : PH) : eTupRg f s h = (f s h).bind fun p h => rgO p h := rfl
def rg1P (x : PV) (h : PH) : Out (Int × Int) := match x with
  | .int n => .ok (0, n) h
  | _ => .no
theorem rg1_ap (a : DE) (s : Sl) (h : PH) : rg1 a s h = (a s h).bind fun x h => rg1P x h := rfl
theorem rg1P_int (n : Int) (h : PH) : rg1P (.int n) h = .ok (0, n) h := rfl
theorem rgO_nat {n : Nat} {h : PH} (l : n ≤ 1000) : rgO (0, ((n : Nat) : Int)) h = .ok (.tup (natsP (List.range n))) h := by
  have e : rgP 0 ((n : Nat) : Int) = natsP (List.range n) := by
    unfold rgP natsP
    simp
  unfold rgO
  rw [if_pos (show rgOk (0, ((n : Nat) : Int)) = true from decide_eq_true ⟨by omega, by omega, by show (0 : Int) ≤ n; omega, by show ((n : Nat) : Int) ≤ 16777216; omega⟩)]
  show Out.ok (PV.tup (rgP 0 ((n : Nat) : Int))) h = _
  rw [e]
section
variable {n r i j : Nat} {rm : Nat → Room} {ws : Nat → List (Bool × Nat)} {t : Nat → Nat → Str} {o : Nat → List Nat} {h : PH}
theorem room_ix (lr : i < r) (e : rm i = some (t, o)) (h : PH) : opIx (.tup (roomsP n r rm)) (.int i) h = some (.tup [.tup (tabP n t), .tup (ordsP n o)], h) := by
  show (atI (roomsP n r rm) i).map _ = _
  rw [rooms_at rm lr, e]
  rfl
theorem tab_ix (lj : j < n) (h : PH) : opIx (.tup (tabP n t)) (.int j) h = some (.tup (rowP n (t j)), h) := by
  show (atI (tabP n t) j).map _ = _
  rw [tab_at t lj]
  rfl
theorem ord_ix (lj : j < n) (h : PH) : opIx (.tup (ordsP n o)) (.int j) h = some (.tup (natsP (o j)), h) := by
  show (atI (ordsP n o) j).map _ = _
  rw [ords_at o lj]
  rfl
theorem way_ix (lj : j < n) (h : PH) : opIx (.tup (waysP n ws)) (.int j) h = some (wayP (ws j), h) := by
  show (atI (waysP n ws) j).map _ = _
  rw [ways_at ws lj]
  rfl
/-- the numbers that a spot may have with a word -/
def numsOf (n : Nat) (rm : Nat → Room) (st : List (Bool × Nat)) (i p : Nat) (w : Str) : List Nat := match st[p]? with
  | some (true, room) => match rm room with
    | some q => if w = "hand" then List.range (evensOf n (q.1 i)).length else if w = "look" then List.range (n - 1) else (List.range (n - 1)).filter (bowsAt q.1 q.2 i)
    | none => []
  | _ => []
end
end Dn
namespace Dn
open PySem PySem.Spec PyProof.Rows L2 PySem.SeqAt Rw

def dnev_9 := And.intro @opNe_nilT (And.intro @eTupX_ap (And.intro @eTupRg_ap (And.intro @rg1_ap (@rg1P_int))))
theorem pairRow_comp {gs : List (Nat × List PV)} {h : PH} {x0 x1 x2 x3 x5 x7 : Option PV} {n room i : Nat} {f : Nat → Str} (ok : ∀ acc, okG gs (h ++ [.lst acc]) = true) (n5 : n ≤ 5) :
    compItems gs (gNm 7) (tV (eOp opLt (eVar 6) (eVar 7))) (eTup (eCons (eVar 4) (eCons (eVar 6) (eCons (eVar 7) eNil)))) h.length [x0, x1, x2, x3, some (.int room), x5, some (.int i), x7] (natsP (evensOf n f)) (h ++ [.lst []]) = .ok () (h ++ [.lst (tripsRow n f room i)]) := by
  have cp := comp_pure (gs := gs) (g := gNm 7) (t := tV (eOp opLt (eVar 6) (eVar 7))) (e := eTup (eCons (eVar 4) (eCons (eVar 6) (eCons (eVar 7) eNil)))) (s := [x0, x1, x2, x3, some (.int room), x5, some (.int i), x7]) (h0 := h) (fun x => match x with | .int j => decide ((i : Int) < j) | _ => false) (fun x => .tup [.int room, .int i, x]) ok (natsP (evensOf n f)) [] (fun x hx => by
    obtain ⟨a, rfl, _⟩ := nats_mem hx
    refine ⟨_, rfl, fun acc => ⟨?_, fun _ => ?_⟩⟩
    · simp -dsimp -implicitDefEqProofs only [Out.bind_ok, Out.bind_err, Out.bind_no, dnev_1, dnev_2, dnev_3, dnev_4, List.getElem?_cons_zero, List.getElem?_cons_succ, List.set_cons_zero, List.set_cons_succ, decide_true, decide_false, Bool.not_false, Bool.not_true, Bool.not_not, List.cons_append, List.nil_append, dnev_5, dnev_6, get_last, set_last, dnev_7, dnev_8, dnev_9]
    · simp -dsimp -implicitDefEqProofs only [Out.bind_ok, Out.bind_err, Out.bind_no, dnev_1, dnev_2, dnev_3, dnev_4, List.getElem?_cons_zero, List.getElem?_cons_succ, List.set_cons_zero, List.set_cons_succ, decide_true, decide_false, Bool.not_false, Bool.not_true, Bool.not_not, List.cons_append, List.nil_append, dnev_5, dnev_6, get_last, set_last, dnev_7, dnev_8, dnev_9]) (by have := evens_len n f; simp [natsP]; omega)
  rw [cp]
  have e : ((natsP (evensOf n f)).filter fun x => match x with | .int j => decide ((i : Int) < j) | _ => false).map (fun x => PV.tup [.int room, .int i, x]) = tripsRow n f room i := by
    unfold natsP tripsRow tripP
    rw [List.filter_map, List.map_map]
    have e1 : ((fun x : PV => match x with | .int j => decide ((i : Int) < j) | _ => false) ∘ fun r : Nat => PV.int ((r : Nat) : Int)) = fun j => decide (i < j) := by
      funext j
      simp only [Function.comp_apply]
      exact decide_eq_decide.mpr (by omega)
    rw [e1]
    rfl
  rw [e]
  rfl
/-! ### == and in -/
theorem eqS_str {h : PH} {x : PV} {w : Str} (a : Vl h x) : ∃ d, toD h 50 x = some d ∧ Rw.eqS d w = decide (x = .str w) := by
  obtain ⟨d, e⟩ := a.dat
  refine ⟨d, e, ?_⟩
  cases x with
  | str z =>
    cases e
    show (w == z) = _
    rw [str_beq]
    exact decide_eq_decide.mpr ⟨fun q => by rw [q], fun q => by cases q; rfl⟩
  | kt xs => exact absurd rfl (a.nk xs)
  | _ =>
    have q : Rw.eqS d w = false := by
      cases d with
      | str z =>
        exfalso
        unfold toD at e
        dsimp only at e
        repeat' (first | (cases e; done) | split at e | (simp only [Option.map_eq_some_iff] at e; obtain ⟨_, _, e⟩ := e))
      | _ => rfl
    rw [q]
    exact (decide_eq_false (fun z => nomatch z)).symm
theorem opEq_strV {h : PH} {x : PV} {w : Str} (a : Vl h x) : opEq x (.str w) h = some (.bl (decide (x = .str w)), h) := by
  obtain ⟨d, e, q⟩ := eqS_str (w := w) a
  have l : lenB h x (.str w) = none := by
    unfold lenB
    cases x <;> rfl
  have s : strB h x (.str w) = some (decide (x = .str w)) := by
    unfold strB
    rw [e]
    dsimp only
    rw [q]
  unfold opEq eqB
  rw [l, s]
  rfl
theorem in_words {h : PH} {x : PV} (a : Vl h x) : ∀ ws : List Str, anyO (eqJ h x) (ws.map PV.str) = some (decide (∃ w ∈ ws, x = .str w))
  | [] => by simp [anyO]
  | w :: ws => by
    obtain ⟨d, e, q⟩ := eqS_str (w := w) a
    have j : eqJ h x (.str w) = some (decide (x = .str w)) := by
      unfold eqJ
      rw [e]
      dsimp only
      rw [q]
    show (match eqJ h x (.str w), anyO (eqJ h x) (ws.map PV.str) with
      | some a, some b => some (a || b)
      | _, _ => none) = _
    rw [j, in_words a ws]
    dsimp only
    congr 1
    rw [← Bool.decide_or]
    exact decide_eq_decide.mpr (by simp)
theorem opIn_words {h : PH} {x : PV} {ws : List Str} (a : Vl h x) : opIn x (.kt (ws.map PV.str)) h = some (.bl (decide (∃ w ∈ ws, x = .str w)), h) := by
  obtain ⟨d, e⟩ := a.dat
  unfold opIn inB
  dsimp only
  rw [show seqOf h (.kt (ws.map PV.str)) = some (ws.map PV.str) from rfl]
  dsimp only
  unfold inSeq
  rw [e]
  dsimp only
  rw [in_words a ws]
  rfl
end Dn
namespace Dn
open PySem PySem.Spec PyProof.Rows L2 PySem.SeqAt Rw

theorem lay_tri {p k : Int} {w : Str} (hw : PyData.strOk w = true) : SeqAt.shaped (PyData.tuple [PyData.int p, PyData.str w, PyData.int k]) = true := by
  have a : (PyData.tuple [PyData.int p, PyData.str w, PyData.int k]).canLay0 = true := by
    simp only [PyData.canLay0, PyData.canLayAll0, hw]
    rfl
  have b : (PyData.tuple [PyData.int p, PyData.str w, PyData.int k]).depth ≤ 64 := by
    simp only [PyData.depth, PyData.depthAll]
    decide
  unfold SeqAt.shaped
  rw [a, decide_eq_true b]
  rfl
theorem eqv_tri {p k a c : Int} {w v : Str} : (PyData.tuple [PyData.int p, PyData.str w, PyData.int k]).eqv (PyData.tuple [PyData.int a, PyData.str v, PyData.int c]) = decide (p = a ∧ w = v ∧ k = c) := by
  simp only [PyData.eqv, PyData.eqvAll]
  rw [Bool.eq_iff_iff]
  simp
theorem eqJ_tri {h : PH} {p k a c : Int} {w v : Str} (hw : PyData.strOk w = true) (hv : PyData.strOk v = true) : eqJ h (.tup [.int p, .str w, .int k]) (.tup [.int a, .str v, .int c]) = some (decide ((PV.tup [.int a, .str v, .int c]) = .tup [.int p, .str w, .int k])) := by
  have d1 : toD h 50 (.tup [.int p, .str w, .int k]) = some (.tuple [.int p, .str w, .int k]) := rfl
  have d2 : toD h 50 (.tup [.int a, .str v, .int c]) = some (.tuple [.int a, .str v, .int c]) := rfl
  have : eqJ h (.tup [.int p, .str w, .int k]) (.tup [.int a, .str v, .int c]) = if (SeqAt.shaped (PyData.tuple [PyData.int p, PyData.str w, PyData.int k]) && SeqAt.shaped (PyData.tuple [PyData.int a, PyData.str v, PyData.int c])) = true then some ((PyData.tuple [PyData.int a, PyData.str v, PyData.int c]).eqv (PyData.tuple [PyData.int p, PyData.str w, PyData.int k])) else none := rfl
  rw [this, lay_tri hw, lay_tri hv, if_pos (show (true && true) = true from rfl), eqv_tri]
  congr 1
  exact decide_eq_decide.mpr ⟨fun ⟨x, y, z⟩ => by rw [x, y, z], fun q => by cases q; exact ⟨rfl, rfl, rfl⟩⟩
theorem in_tris {h : PH} {p k : Int} {w : Str} (hw : PyData.strOk w = true) : ∀ ys : List PV, (∀ y ∈ ys, ∃ a v c, y = .tup [.int a, .str v, .int c] ∧ PyData.strOk v = true) → anyO (eqJ h (.tup [.int p, .str w, .int k])) ys = some (decide ((PV.tup [.int p, .str w, .int k]) ∈ ys))
  | [], _ => by simp [anyO]
  | y :: ys, q => by
    obtain ⟨a, v, c, rfl, hv⟩ := q y List.mem_cons_self
    show (match eqJ h (.tup [.int p, .str w, .int k]) (.tup [.int a, .str v, .int c]), anyO (eqJ h (.tup [.int p, .str w, .int k])) ys with
      | some a, some b => some (a || b)
      | _, _ => none) = _
    rw [eqJ_tri hw hv, in_tris hw ys fun y hy => q y (List.mem_cons_of_mem _ hy)]
    dsimp only
    congr 1
    rw [← Bool.decide_or]
    refine decide_eq_decide.mpr ?_
    rw [List.mem_cons]
    exact ⟨fun z => z.elim (fun z => .inl z.symm) .inr, fun z => z.elim (fun z => .inl z.symm) .inr⟩
theorem opIn_tris {h : PH} {c : PV} {p k : Int} {w : Str} {ys : List PV} (hw : PyData.strOk w = true) (e : seqOf h c = some ys) (q : ∀ y ∈ ys, ∃ a v c, y = .tup [.int a, .str v, .int c] ∧ PyData.strOk v = true) : opIn (.tup [.int p, .str w, .int k]) c h = some (.bl (decide ((PV.tup [.int p, .str w, .int k]) ∈ ys)), h) := by
  have s : inSeq h (.tup [.int p, .str w, .int k]) ys = some (decide ((PV.tup [.int p, .str w, .int k]) ∈ ys)) := in_tris hw ys q
  unfold opIn inB
  cases c with
  | str z => cases e
  | _ =>
    dsimp only
    rw [e]
    dsimp only
    rw [s]
    rfl
theorem opEq_tri {h : PH} (p q r a b c : Int) : opEq (.tup [.int p, .int q, .int r]) (.tup [.int a, .int b, .int c]) h = some (.bl (decide (p = a ∧ q = b ∧ r = c)), h) := by
  unfold opEq
  rw [show eqB h (.tup [.int p, .int q, .int r]) (.tup [.int a, .int b, .int c]) = some (PyData.eqv (.tuple [.int p, .int q, .int r]) (.tuple [.int a, .int b, .int c])) from rfl]
  have : PyData.eqv (.tuple [.int p, .int q, .int r]) (.tuple [.int a, .int b, .int c]) = decide (p = a ∧ q = b ∧ r = c) := by
    simp only [PyData.eqv, PyData.eqvAll]
    rw [Bool.eq_iff_iff]
    simp
  rw [this]
  rfl

/-! ### a spot -/
def spotB (n : Nat) (rm : Nat → Room) (st : List (Bool × Nat)) (i : Nat) (x : PV) : Bool := match x with
  | .tup [.int p, .str w, .int k] => decide ((0 ≤ p ∧ p < st.length) ∧ if w = "rest" then p = 0 ∧ k = 0 else if w = "go" then k = 0 else (∃ v ∈ (["hand", "look", "yield", "low"] : List Str), w = v) ∧ k ∈ (numsOf n rm st i p.toNat w).map fun j : Nat => (j : Int))
  | _ => false
theorem three {x : PV} (z : tupN x 3 = true) : ∃ p w k, x = .tup [p, w, k] := by
  cases x with
  | tup xs =>
    have l : xs.length = 3 := of_decide_eq_true z
    match xs, l with
    | [p, q, r], _ => exact ⟨_, _, _, rfl⟩
  | _ => cases z
theorem four {x : PV} (z : tupN x 4 = true) : ∃ p w k q, x = .tup [p, w, k, q] := by
  cases x with
  | tup xs =>
    have l : xs.length = 4 := of_decide_eq_true z
    match xs, l with
    | [p, q, r, s], _ => exact ⟨_, _, _, _, rfl⟩
  | _ => cases z
theorem spotB_3 {n : Nat} {rm : Nat → Room} {st : List (Bool × Nat)} {i : Nat} {x : PV} (z : tupN x 3 = false) : spotB n rm st i x = false := by
  unfold spotB
  split
  · cases z
  · rfl
theorem spotB_no {n : Nat} {rm : Nat → Room} {st : List (Bool × Nat)} {i : Nat} {p w k : PV} (z : intB p = false ∨ intB k = false ∨ ∀ v, w ≠ .str v) : spotB n rm st i (.tup [p, w, k]) = false := by
  unfold spotB
  split
  · rename_i e
    cases e
    rcases z with z | z | z
    · cases z
    · cases z
    · exact absurd rfl (z _)
  · rfl
end Dn
namespace Dn
open PySem PySem.Spec PyProof.Rows L2 PySem.SeqAt Rw

theorem fAll_ref (n : Nat) (h : PH) : fAll [.ref n] h = (lsO h[n]?).bind fun ys => (blsOf ys).map fun b => (.bl (b.all id), h) := rfl
theorem bind_some' {α β : Type} (f : α → Option β) (a : α) : (some a).bind f = f a := rfl
theorem blsOf_4 (a b c d : Bool) : blsOf [.bl a, .bl b, .bl c, .bl d] = some [a, b, c, d] := rfl
def tokP (pair x : PV) : Bool := match pair, x with
  | .tup [.int r, .int i, .int j], .tup [.int a, .int b, .int c, .int d] => decide ((a = r ∧ b = i ∧ c = j) ∧ (d = i ∨ d = j))
  | _, _ => false
theorem tokP_4 {pair x : PV} (z : tupN x 4 = false) : tokP pair x = false := by
  unfold tokP
  split
  · cases z
  · rfl
theorem tokP_no {pair p w k q : PV} (z : (intB p && (intB w && (intB k && intB q))) = false) : tokP pair (.tup [p, w, k, q]) = false := by
  unfold tokP
  split
  · rename_i e
    cases e
    cases z
  · rfl
theorem enum_at {xs : List PV} {i : Nat} {x : PV} (hx : (enumP 0 xs)[i]? = some x) : ∃ l : i < xs.length, x = .tup [.int (i : Nat), xs[i]] := by
  rw [enumP_at] at hx
  cases q : xs[i]? with
  | none => rw [q] at hx; cases hx
  | some y =>
    rw [q] at hx
    obtain ⟨l, e⟩ := List.getElem?_eq_some_iff.mp q
    refine ⟨l, ?_⟩
    rw [← Option.some.inj hx, e, Nat.zero_add]
def badAt (f : Nat → Bool) (n : Nat) : Option Nat := (List.range n).find? fun k => !f k
theorem badAt_some {f : Nat → Bool} {n i : Nat} (l : i < n) (a : f i = false) (b : ∀ k, k < i → f k = true) : badAt f n = some i := List.find?_range_eq_some.mpr ⟨by simp [a], by simpa using l, fun j hj => by simp [b j hj]⟩
theorem badAt_none {f : Nat → Bool} {n : Nat} (b : ∀ k, k < n → f k = true) : badAt f n = none := List.find?_range_eq_none.mpr fun j hj => by simp [b j hj]
def tokErrP (trips tk : List PV) : PV := if tk.length ≠ trips.length then .str "tokens" else match badAt (fun k => tokP (trips.getD k .non) (tk.getD k .non)) trips.length with
  | some k => .tup [.str "token", .int (k : Nat)]
  | none => .non
def standErrP (n : Nat) (rm : Nat → Room) (ws : Nat → List (Bool × Nat)) (trips : List PV) (x : PV) : PV := match x with
  | .tup [.tup sp, .tup tk] => if sp.length ≠ n then .str "spots" else match badAt (fun k => spotB n rm (ws k) k (sp.getD k .non)) sp.length with
    | some k => .tup [.str "spot", .int (k : Nat)]
    | none => tokErrP trips tk
  | _ => .str "form"
theorem standErrP_no {n : Nat} {rm : Nat → Room} {ws : Nat → List (Bool × Nat)} {trips : List PV} {x : PV} (z : pairB x = false) : standErrP n rm ws trips x = .str "form" := by
  unfold standErrP
  split
  · cases z
  · rfl
end Dn
namespace Dn
open PySem PySem.Spec PyProof.Rows L2 PySem.SeqAt Rw

theorem numsOf_le {n : Nat} {rm : Nat → Room} {st : List (Bool × Nat)} {i p k : Nat} {w : Str} (n5 : n ≤ 5) (h : k ∈ numsOf n rm st i p w) : k ≤ 4 := by
  unfold numsOf at h
  split at h
  · split at h
    · rename_i q _
      split at h
      · have := evens_len n (q.1 i)
        have := List.mem_range.mp h
        omega
      · split at h
        · have := List.mem_range.mp h
          omega
        · have := List.mem_range.mp (List.mem_filter.mp h).1
          omega
    · cases h
  · cases h
theorem ent_iff {n r most i p : Nat} {rm : Nat → Room} {ws : Nat → List (Bool × Nat)} {w : Str} {k : Int} (ok : HouseOk n r most rm ws) (li : i < n) (lp : p < (ws i).length) :
    PV.tup [.int p, .str w, .int k] ∈ entSpots n rm (ws i) i p ↔ (∃ v ∈ (["hand", "look", "yield", "low"] : List Str), w = v) ∧ k ∈ (numsOf n rm (ws i) i p w).map fun j : Nat => (j : Int) := by
  obtain ⟨b, room, hs⟩ : ∃ b room, (ws i)[p] = (b, room) := ⟨_, _, rfl⟩
  have es : (ws i)[p]? = some (b, room) := by rw [List.getElem?_eq_getElem lp, hs]
  have lr : room < r := (ok.wys i li).low (b, room) (List.mem_of_getElem? es)
  unfold entSpots numsOf
  rw [es]
  cases b with
  | false => simp
  | true =>
    dsimp only
    cases er : rm room with
    | none => simp
    | some q =>
      obtain ⟨t, o⟩ := q
      have dk := ok.rms room lr _ er
      dsimp only
      have mm : ∀ (v : Str) (l : List Nat), PV.tup [.int p, .str w, .int k] ∈ l.map (spotP p v) ↔ w = v ∧ k ∈ l.map fun j : Nat => (j : Int) := fun v l => by
        simp only [List.mem_map]
        constructor
        · rintro ⟨a, ha, e⟩
          unfold spotP at e
          simp only [PV.tup.injEq, List.cons.injEq, PV.int.injEq, PV.str.injEq, and_true] at e
          exact ⟨e.2.1.symm, a, ha, e.2.2⟩
        · rintro ⟨rfl, a, ha, rfl⟩
          exact ⟨a, ha, rfl⟩
      have n_hl : ("hand" : Str) ≠ "look" := by decide +kernel
      have n_hy : ("hand" : Str) ≠ "yield" := by decide +kernel
      have n_hw : ("hand" : Str) ≠ "low" := by decide +kernel
      have n_ly : ("look" : Str) ≠ "yield" := by decide +kernel
      have n_lw : ("look" : Str) ≠ "low" := by decide +kernel
      by_cases n1 : n = 1
      · subst n1
        have i0 : i = 0 := by omega
        subst i0
        have ev : evensOf 1 (t 0) = [] := by
          unfold evensOf
          have : t 0 0 = "-" := dk.dia 0 (by omega)
          have d : ("-" : Str) ≠ "even" := by decide +kernel
          simp [this, d]
        rw [if_pos rfl, ev]
        simp
      · rw [if_neg n1]
        unfold doorSpots
        rw [List.mem_append, List.mem_append, List.mem_append, mm, mm, mm, mm]
        by_cases w1 : w = "hand"
        · subst w1
          rw [if_pos rfl]
          simp [n_hl, n_hy, n_hw]
        · rw [if_neg w1]
          by_cases w2 : w = "look"
          · subst w2
            rw [if_pos rfl]
            simp [w1, n_ly, n_lw]
          · rw [if_neg w2]
            constructor
            · rintro (((⟨e, _⟩ | ⟨e, _⟩) | ⟨e, m⟩) | ⟨e, m⟩)
              · exact absurd e w1
              · exact absurd e w2
              · exact ⟨⟨_, by simp, e⟩, m⟩
              · exact ⟨⟨_, by simp, e⟩, m⟩
            · rintro ⟨⟨v, hv, e⟩, m⟩
              simp only [List.mem_cons, List.not_mem_nil, or_false] at hv
              rcases hv with rfl | rfl | rfl | rfl
              · exact absurd e w1
              · exact absurd e w2
              · exact .inl (.inr ⟨e, m⟩)
              · exact .inr ⟨e, m⟩
theorem spot_iff {n r most i p : Nat} {rm : Nat → Room} {ws : Nat → List (Bool × Nat)} {w : Str} {k : Int} (ok : HouseOk n r most rm ws) (li : i < n) (lp : p < (ws i).length) :
    decide (PV.tup [.int p, .str w, .int k] ∈ [PV.tup [.int 0, .str "rest", .int 0], .tup [.int p, .str "go", .int 0]] ++ entSpots n rm (ws i) i p) = spotB n rm (ws i) i (.tup [.int p, .str w, .int k]) := by
  have sb : spotB n rm (ws i) i (.tup [.int p, .str w, .int k]) = decide (((0 : Int) ≤ p ∧ (p : Int) < (ws i).length) ∧ if w = "rest" then (p : Int) = 0 ∧ k = 0 else if w = "go" then k = 0 else (∃ v ∈ (["hand", "look", "yield", "low"] : List Str), w = v) ∧ k ∈ (numsOf n rm (ws i) i p w).map fun j : Nat => (j : Int)) := rfl
  rw [sb]
  refine decide_eq_decide.mpr ?_
  rw [List.mem_append, ent_iff ok li lp]
  simp only [List.mem_cons, List.not_mem_nil, or_false, PV.tup.injEq, List.cons.injEq, PV.int.injEq, PV.str.injEq, and_true]
  have pb : (0 : Int) ≤ p ∧ (p : Int) < (ws i).length := by omega
  have nr : ∀ v : Str, (v = "hand" ∨ v = "look" ∨ v = "yield" ∨ v = "low") → v ≠ "rest" ∧ v ≠ "go" := fun v hv => by
    rcases hv with rfl | rfl | rfl | rfl <;> exact ⟨by decide +kernel, by decide +kernel⟩
  have rg : ("rest" : Str) ≠ "go" := by decide +kernel
  by_cases w1 : w = "rest"
  · rw [if_pos w1]
    constructor
    · rintro ((⟨a, b, c⟩ | ⟨a, b, c⟩) | ⟨⟨v, hv, e⟩, _⟩)
      · exact ⟨pb, a, c⟩
      · exact absurd (w1.symm.trans b) rg
      · exact absurd w1 (nr w (by rw [e]; simpa using hv)).1
    · rintro ⟨_, a, c⟩
      exact .inl (.inl ⟨a, w1, c⟩)
  · rw [if_neg w1]
    by_cases w2 : w = "go"
    · rw [if_pos w2]
      constructor
      · rintro ((⟨a, b, c⟩ | ⟨_, b, c⟩) | ⟨⟨v, hv, e⟩, _⟩)
        · exact absurd b w1
        · exact ⟨pb, c⟩
        · exact absurd w2 (nr w (by rw [e]; simpa using hv)).2
      · rintro ⟨_, c⟩
        exact .inl (.inr ⟨trivial, w2, c⟩)
    · rw [if_neg w2]
      constructor
      · rintro ((⟨a, b, c⟩ | ⟨_, b, c⟩) | q)
        · exact absurd b w1
        · exact absurd b w2
        · exact ⟨pb, q⟩
      · rintro ⟨_, q⟩
        exact .inr q
end Dn
namespace Dn
open PySem PySem.Spec PyProof.Rows L2 PySem.SeqAt Rw

theorem nth3 {h : PH} (p w k : PV) : atI [p, w, k] 0 = some p ∧ atI [p, w, k] 1 = some w ∧ atI [p, w, k] 2 = some k := ⟨rfl, rfl, rfl⟩
end Dn
namespace Dn
open PySem PySem.Spec PyProof.Rows L2 PySem.SeqAt Rw

theorem isC_ti : Rw.isC "tuple" "int" = false := by decide
theorem isC_ts : Rw.isC "tuple" "str" = false := by decide
theorem isC_tn : Rw.isC "tuple" "NoneType" = false := by decide
theorem isC_bs : Rw.isC "bool" "str" = false := by decide
theorem isC_is : Rw.isC "int" "str" = false := by decide
theorem isC_in : Rw.isC "int" "NoneType" = false := by decide
theorem isC_it : Rw.isC "int" "tuple" = false := by decide
theorem isC_tb : Rw.isC "tuple" "bool" = false := by decide
theorem isC_si : Rw.isC "str" "int" = false := by decide
theorem isC_sb : Rw.isC "str" "bool" = false := by decide
theorem isC_sn : Rw.isC "str" "NoneType" = false := by decide
theorem isC_st : Rw.isC "str" "tuple" = false := by decide
theorem isC_bn : Rw.isC "bool" "NoneType" = false := by decide
theorem isC_bt : Rw.isC "bool" "tuple" = false := by decide
theorem isNon_str (z : Str) : isNon (.str z) = false := rfl
theorem mk_same (n : Nat) : m__law_same (n + 1) = mk 2 4 (g__law_same (m__law_same n)) := rfl
/-- same tells exactly whether it is this value -/
def Exact (n : Nat) (h : PH) (v : PV) : Prop := ∀ u, Vl h u → m__law_same n [u, v] h = .ok (.bl (decide (u = v))) h
theorem isNon_iff (u : PV) : isNon u = decide (u = .non) := by
  cases u with
  | non => exact (decide_eq_true rfl).symm
  | _ => exact (decide_eq_false (fun e => nomatch e)).symm
def dnev_10 := And.intro @fAll_ref (And.intro @bind_some' (And.intro @blsOf_4 (And.intro @isC_ti (And.intro @isC_ts (And.intro @isC_tn (And.intro @isC_bs (And.intro @isC_is (And.intro @isC_in (And.intro @isC_it (And.intro @isC_tb (And.intro @isC_si (And.intro @isC_sb (And.intro @isC_sn (And.intro @isC_st (And.intro @isC_bn (And.intro @isC_bt (@isNon_str)))))))))))))))))
theorem exact_non {n : Nat} {h : PH} : Exact (n + 1) h .non := fun u a => by
  refine eq_of_wO (wO_mk (show [u, PV.non].length = 2 from rfl) ?_)
  simp -dsimp -implicitDefEqProofs only [Out.bind_ok, Out.bind_err, Out.bind_no, dnev_1, dnev_2, dnev_3, dnev_4, List.getElem?_cons_zero, List.getElem?_cons_succ, List.set_cons_zero, List.set_cons_succ, decide_true, decide_false, Bool.not_false, Bool.not_true, Bool.not_not, List.cons_append, List.nil_append, dnev_5, dnev_6, get_last, set_last, dnev_7, dnev_8, dnev_9, dnev_10, dnif_1, dnw_1, true_imp_iff, not_true_eq_false, false_imp_iff, and_true, true_and, dnw_2, g__law_same]
  refine gc_same ⟨?_, rfl⟩
  rw [isNon_iff]
theorem exact_int {n : Nat} {h : PH} (i : Int) : Exact (n + 1) h (.int i) := fun u a => by
  refine eq_of_wO (wO_mk (show [u, PV.int i].length = 2 from rfl) ?_)
  obtain ⟨c, hc⟩ := a.ty
  have ti := ty_int hc
  cases u with
  | int j =>
    simp -dsimp -implicitDefEqProofs only [Out.bind_ok, Out.bind_err, Out.bind_no, dnev_1, dnev_2, dnev_3, dnev_4, List.getElem?_cons_zero, List.getElem?_cons_succ, List.set_cons_zero, List.set_cons_succ, decide_true, decide_false, Bool.not_false, Bool.not_true, Bool.not_not, List.cons_append, List.nil_append, dnev_5, dnev_6, get_last, set_last, dnev_7, dnev_8, dnev_9, dnev_10, dnif_1, dnw_1, true_imp_iff, not_true_eq_false, false_imp_iff, and_true, true_and, dnw_2, g__law_same, Bool.not_false]
    refine gc_same ⟨?_, rfl⟩
    congr 1
    exact decide_eq_decide.mpr ⟨fun e => by rw [e], fun e => by cases e; rfl⟩
  | bl b =>
    simp -dsimp -implicitDefEqProofs only [Out.bind_ok, Out.bind_err, Out.bind_no, dnev_1, dnev_2, dnev_3, dnev_4, List.getElem?_cons_zero, List.getElem?_cons_succ, List.set_cons_zero, List.set_cons_succ, decide_true, decide_false, Bool.not_false, Bool.not_true, Bool.not_not, List.cons_append, List.nil_append, dnev_5, dnev_6, get_last, set_last, dnev_7, dnev_8, dnev_9, dnev_10, dnif_1, dnw_1, true_imp_iff, not_true_eq_false, false_imp_iff, and_true, true_and, dnw_2, g__law_same, Bool.not_true]
    exact gc_same ⟨by rw [decide_eq_false (fun e => nomatch e)], rfl⟩
  | _ =>
    have e : Rw.isC "int" c = false := ti
    simp -dsimp -implicitDefEqProofs only [Out.bind_ok, Out.bind_err, Out.bind_no, dnev_1, dnev_2, dnev_3, dnev_4, List.getElem?_cons_zero, List.getElem?_cons_succ, List.set_cons_zero, List.set_cons_succ, decide_true, decide_false, Bool.not_false, Bool.not_true, Bool.not_not, List.cons_append, List.nil_append, dnev_5, dnev_6, get_last, set_last, dnev_7, dnev_8, dnev_9, dnev_10, dnif_1, dnw_1, true_imp_iff, not_true_eq_false, false_imp_iff, and_true, true_and, dnw_2, g__law_same, hc, e]
    exact gc_same ⟨by rw [decide_eq_false (fun e => nomatch e)], rfl⟩
theorem exact_str {n : Nat} {h : PH} (i : Str) : Exact (n + 1) h (.str i) := fun u a => by
  refine eq_of_wO (wO_mk (show [u, PV.str i].length = 2 from rfl) ?_)
  obtain ⟨c, hc⟩ := a.ty
  have ti := ty_str hc
  cases u with
  | str j =>
    simp -dsimp -implicitDefEqProofs only [Out.bind_ok, Out.bind_err, Out.bind_no, dnev_1, dnev_2, dnev_3, dnev_4, List.getElem?_cons_zero, List.getElem?_cons_succ, List.set_cons_zero, List.set_cons_succ, decide_true, decide_false, Bool.not_false, Bool.not_true, Bool.not_not, List.cons_append, List.nil_append, dnev_5, dnev_6, get_last, set_last, dnev_7, dnev_8, dnev_9, dnev_10, dnif_1, dnw_1, true_imp_iff, not_true_eq_false, false_imp_iff, and_true, true_and, dnw_2, g__law_same]
    refine gc_same ⟨?_, rfl⟩
    congr 1
    exact decide_eq_decide.mpr ⟨fun e => by rw [e], fun e => by cases e; rfl⟩
  | _ =>
    have e : Rw.isC "str" c = false := ti
    simp -dsimp -implicitDefEqProofs only [Out.bind_ok, Out.bind_err, Out.bind_no, dnev_1, dnev_2, dnev_3, dnev_4, List.getElem?_cons_zero, List.getElem?_cons_succ, List.set_cons_zero, List.set_cons_succ, decide_true, decide_false, Bool.not_false, Bool.not_true, Bool.not_not, List.cons_append, List.nil_append, dnev_5, dnev_6, get_last, set_last, dnev_7, dnev_8, dnev_9, dnev_10, dnif_1, dnw_1, true_imp_iff, not_true_eq_false, false_imp_iff, and_true, true_and, dnw_2, g__law_same, hc, e]
    exact gc_same ⟨by rw [decide_eq_false (fun e => nomatch e)], rfl⟩
theorem exact_tup {n : Nat} {h : PH} {ys : List PV} (ey : ∀ v ∈ ys, Exact n h v) : Exact (n + 1) h (.tup ys) := fun u a => by
  refine eq_of_wO (wO_mk (show [u, PV.tup ys].length = 2 from rfl) ?_)
  obtain ⟨c, hc⟩ := a.ty
  have ti := ty_tup a.nk hc
  cases u with
  | tup xs =>
    by_cases le : xs.length = ys.length
    · have lc : decide (((xs.length : Nat) : Int) = ((ys.length : Nat) : Int)) = true := decide_eq_true (by omega)
      simp -dsimp -implicitDefEqProofs only [Out.bind_ok, Out.bind_err, Out.bind_no, dnev_1, dnev_2, dnev_3, dnev_4, List.getElem?_cons_zero, List.getElem?_cons_succ, List.set_cons_zero, List.set_cons_succ, decide_true, decide_false, Bool.not_false, Bool.not_true, Bool.not_not, List.cons_append, List.nil_append, dnev_5, dnev_6, get_last, set_last, dnev_7, dnev_8, dnev_9, dnev_10, dnif_1, dnw_1, true_imp_iff, not_true_eq_false, false_imp_iff, and_true, true_and, dnw_2, g__law_same, Bool.not_true, Bool.not_false, lc]
      refine for_ww (fun i sl h' => ∃ x2 x3, sl = [some (.tup xs), some (.tup ys), x2, x3] ∧ h' = h ∧ ∀ k, k < i → xs[k]? = ys[k]?)
        ⟨none, none, rfl, rfl, fun k q => absurd q (Nat.not_lt_zero _)⟩ (fun _ _ _ _ => rfl) (fun i x hx sl h' ⟨x2, x3, esl, eh, al⟩ => ?_) fun sl h' ⟨x2, x3, esl, eh, al⟩ => ?_
      · subst esl
        subst eh
        obtain ⟨li, rfl⟩ := enum_at hx
        have lx : i < xs.length := by omega
        have at_ : atI xs ((i : Nat) : Int) = some xs[i] := atI_nat (List.getElem?_eq_getElem lx)
        have es := ey ys[i] (List.getElem_mem li) xs[i] (a.at_ (List.getElem_mem lx))
        refine ⟨_, rfl, ?_⟩
        by_cases q : xs[i] = ys[i]
        · rw [decide_eq_true q] at es
          simp -dsimp -implicitDefEqProofs only [Out.bind_ok, Out.bind_err, Out.bind_no, dnev_1, dnev_2, dnev_3, dnev_4, List.getElem?_cons_zero, List.getElem?_cons_succ, List.set_cons_zero, List.set_cons_succ, decide_true, decide_false, Bool.not_false, Bool.not_true, Bool.not_not, List.cons_append, List.nil_append, dnev_5, dnev_6, get_last, set_last, dnev_7, dnev_8, dnev_9, dnev_10, dnif_1, dnw_1, true_imp_iff, not_true_eq_false, false_imp_iff, and_true, true_and, dnw_2, at_, es, Bool.not_true]
          refine ⟨_, _, rfl, fun k hk => ?_⟩
          by_cases z : k = i
          · subst z; rw [List.getElem?_eq_getElem lx, List.getElem?_eq_getElem li, q]
          · exact al k (by omega)
        · rw [decide_eq_false q] at es
          simp -dsimp -implicitDefEqProofs only [Out.bind_ok, Out.bind_err, Out.bind_no, dnev_1, dnev_2, dnev_3, dnev_4, List.getElem?_cons_zero, List.getElem?_cons_succ, List.set_cons_zero, List.set_cons_succ, decide_true, decide_false, Bool.not_false, Bool.not_true, Bool.not_not, List.cons_append, List.nil_append, dnev_5, dnev_6, get_last, set_last, dnev_7, dnev_8, dnev_9, dnev_10, dnif_1, dnw_1, true_imp_iff, not_true_eq_false, false_imp_iff, and_true, true_and, dnw_2, at_, es, Bool.not_false]
          refine gc_same ⟨?_, rfl⟩
          rw [decide_eq_false]
          intro e
          cases e
          exact q rfl
      · subst esl
        subst eh
        rw [enumP_len] at al
        simp -dsimp -implicitDefEqProofs only [Out.bind_ok, Out.bind_err, Out.bind_no, dnev_1, dnev_2, dnev_3, dnev_4, List.getElem?_cons_zero, List.getElem?_cons_succ, List.set_cons_zero, List.set_cons_succ, decide_true, decide_false, Bool.not_false, Bool.not_true, Bool.not_not, List.cons_append, List.nil_append, dnev_5, dnev_6, get_last, set_last, dnev_7, dnev_8, dnev_9, dnev_10, dnif_1, dnw_1, true_imp_iff, not_true_eq_false, false_imp_iff, and_true, true_and, dnw_2]
        refine gc_same ⟨?_, rfl⟩
        rw [decide_eq_true]
        congr 1
        apply List.ext_getElem?
        intro k
        by_cases z : k < ys.length
        · exact al k z
        · rw [List.getElem?_eq_none (by omega), List.getElem?_eq_none (by omega)]
    · have lc : decide (((xs.length : Nat) : Int) = ((ys.length : Nat) : Int)) = false := decide_eq_false (by omega)
      simp -dsimp -implicitDefEqProofs only [Out.bind_ok, Out.bind_err, Out.bind_no, dnev_1, dnev_2, dnev_3, dnev_4, List.getElem?_cons_zero, List.getElem?_cons_succ, List.set_cons_zero, List.set_cons_succ, decide_true, decide_false, Bool.not_false, Bool.not_true, Bool.not_not, List.cons_append, List.nil_append, dnev_5, dnev_6, get_last, set_last, dnev_7, dnev_8, dnev_9, dnev_10, dnif_1, dnw_1, true_imp_iff, not_true_eq_false, false_imp_iff, and_true, true_and, dnw_2, g__law_same, Bool.not_true, Bool.not_false, lc]
      refine gc_same ⟨?_, rfl⟩
      rw [decide_eq_false]
      intro e
      cases e
      exact le rfl
  | kt xs => exact absurd rfl (a.nk xs)
  | _ =>
    have e : Rw.isC "tuple" c = false := ti
    simp -dsimp -implicitDefEqProofs only [Out.bind_ok, Out.bind_err, Out.bind_no, dnev_1, dnev_2, dnev_3, dnev_4, List.getElem?_cons_zero, List.getElem?_cons_succ, List.set_cons_zero, List.set_cons_succ, decide_true, decide_false, Bool.not_false, Bool.not_true, Bool.not_not, List.cons_append, List.nil_append, dnev_5, dnev_6, get_last, set_last, dnev_7, dnev_8, dnev_9, dnev_10, dnif_1, dnw_1, true_imp_iff, not_true_eq_false, false_imp_iff, and_true, true_and, dnw_2, g__law_same, hc, e, Bool.not_false]
    exact gc_same ⟨by rw [decide_eq_false (fun e => nomatch e)], rfl⟩
theorem tokP_iff {room i j : Nat} {x : PV} : tokP (tripP room i j) x = decide (x = .tup [.int room, .int i, .int j, .int i] ∨ x = .tup [.int room, .int i, .int j, .int j]) := by
  rw [Bool.eq_iff_iff, decide_eq_true_iff]
  constructor
  · intro q
    unfold tokP tripP at q
    split at q
    · rename_i e
      cases e
      obtain ⟨⟨rfl, rfl, rfl⟩, rfl | rfl⟩ := of_decide_eq_true q
      · exact .inl rfl
      · exact .inr rfl
    · cases q
  · rintro (rfl | rfl)
    · exact decide_eq_true ⟨⟨rfl, rfl, rfl⟩, .inl rfl⟩
    · exact decide_eq_true ⟨⟨rfl, rfl, rfl⟩, .inr rfl⟩
end Dn
namespace Dn
open PySem PySem.Spec PyProof.Rows L2 PySem.SeqAt Rw

end Dn
namespace Dn
open PySem PySem.Spec PyProof.Rows L2 PySem.SeqAt Rw

/-! ### a house as data, repr -/
theorem Da.word {k m : Nat} {h : PH} {w : Str} (mw : w ∈ (["even", "stand", "bow", "-", "in", "out"] : List Str)) : Da (k + 1) 5 m h (.str w) := by
  have : (w.cps.toList.all fun c => decide (c < 1114112)) = true ∧ w.cps.size ≤ 5 := by
    simp only [List.mem_cons, List.not_mem_nil, or_false] at mw
    rcases mw with e | e | e | e | e | e <;> subst e <;> exact ⟨by decide +kernel, by decide +kernel⟩
  exact .str this.1 this.2
theorem Das.range {k w n m : Nat} {h : PH} {f : Nat → PV} (a : ∀ i, i < n → Da k w m h (f i)) : Das k (n * (w + 1)) m h ((List.range n).map f) := by
  have := Das.all (xs := (List.range n).map f) (k := k) (w := w) (n := m) (h := h) fun x hx => by
    obtain ⟨i, hi, rfl⟩ := List.mem_map.mp hx
    exact a i (by simpa using hi)
  rwa [List.length_map, List.length_range] at this
theorem DoorOk.word {n : Nat} {t : Nat → Nat → Str} {o : Nat → List Nat} (ok : DoorOk n t o) {i j : Nat} (li : i < n) (lj : j < n) : t i j ∈ (["even", "stand", "bow", "-", "in", "out"] : List Str) := by
  by_cases e : i = j
  · subst e
    rw [ok.dia i li]
    simp
  · have := (ok.wrd i j li lj e).1
    simp only [List.mem_cons, List.not_mem_nil, or_false] at this ⊢
    rcases this with e | e | e <;> simp [e]
theorem DoorOk.da {n m : Nat} {h : PH} {t : Nat → Nat → Str} {o : Nat → List Nat} (n5 : n ≤ 5) (ok : DoorOk n t o) : Da 5 500 m h (doorP n t o) := by
  have row : ∀ i, i < n → Da 3 30 m h (.tup (rowP n (t i))) := fun i li => Da.tup ((Das.range (k := 2) (w := 5) fun j lj => Da.word (ok.word li lj)).up (Nat.le_refl _) (by omega))
  have tab : Das 3 155 m h (tabP n t) := (Das.range row).up (Nat.le_refl _) (by omega)
  have ord : ∀ i, i < n → Da 3 40 m h (.tup (natsP (o i))) := fun i li => by
    have p := ok.ord i li
    refine Da.tup ((Das.all (w := 7) fun x hx => ?_).up (Nat.le_refl _) ?_)
    · obtain ⟨k, rfl, hk⟩ := nats_mem hx
      have := p.mem_iff.mp hk
      unfold othersOf at this
      have lk : k < n := by simpa using (List.mem_filter.mp this).1
      exact Da.small (k := 1) (by omega) (by omega) (Nat.le_refl _)
    · unfold natsP
      rw [List.length_map, p.length_eq, others_len li]
      omega
  have ords : Das 3 205 m h (ordsP n o) := (Das.range ord).up (Nat.le_refl _) (by omega)
  exact (Da.pair (k := 3) (w := 500) tab ords (by omega))
theorem HouseOk.da {n r most m : Nat} {h : PH} {rm : Nat → Room} {ws : Nat → List (Bool × Nat)} (n5 : n ≤ 5) (r6 : r ≤ 6) (m24 : most ≤ 24) (ok : HouseOk n r most rm ws) : Da 16 6000 m h (houseP n r rm ws) := by
  have rooms : Das 5 3006 m h (roomsP n r rm) := (Das.range (k := 5) (w := 500) fun i li => by
    cases e : rm i with
    | none => exact Da.non (k := 4)
    | some q =>
      obtain ⟨t, o⟩ := q
      exact (ok.rms i li _ e).da n5).up (Nat.le_refl _) (by omega)
  have ways : Das 5 2000 m h (waysP n ws) := (Das.range (k := 5) (w := 384) fun i li => by
    have W := ok.wys i li
    refine (Da.tup (k := 3) ((Das.all (w := 15) fun x hx => ?_).up (Nat.le_refl _) ?_)).up (by omega) (Nat.le_refl _)
    · obtain ⟨s, hs, rfl⟩ := List.mem_map.mp hx
      have l := W.low s hs
      refine Da.tup (k := 2) (Das.cons (w1 := 5) (Da.word ?_) (Das.cons (w1 := 7) (w2 := 0) (.small (by omega) (by omega) (Nat.le_refl _)) .nil (Nat.le_refl _)) (by omega))
      cases s.1 <;> simp
    · rw [List.length_map]
      have := W.few
      omega).up (Nat.le_refl _) (by omega)
  exact (Da.pair (k := 5) (w := 6000) rooms ways (by omega)).up (by omega) (Nat.le_refl _)
theorem repr2 {n : Nat} {h : PH} {x y : PV} {dx dy : PyData} (ex : toE (msk n h) 16 x = some dx) (nx : Nc 16 dx) (wx : dx.weight ≤ 200000) (ey : toE (msk n h) 16 y = some dy) (ny : Nc 16 dy) (wy : dy.weight ≤ 200000) {m : Nat} {h3 : PH} (hm : h3[m]? = some (.lst [x, y])) (l : n ≤ m) (K : Kp n h n h3) : fRepr [.ref m] h3 = some (.str (PyData.shown (.list [dx, dy])), h3) := by
  have e3 : toE (msk n h3) 17 (.ref m) = some (.list [dx, dy]) := by
    unfold toE
    dsimp only
    rw [msk_of l hm]
    dsimp only
    unfold allD
    rw [toE_ext K.msk 16 ex]
    unfold allD
    rw [toE_ext K.msk 16 ey]
    rfl
  have d3 : toD h3 50 (.ref m) = some (.list [dx, dy]) := toE_toD 50 (toE_up (by decide) (toE_ext (fun _ _ q s => (msk_at q s).2) 17 e3))
  have nc : Nc 17 (.list [dx, dy]) := .lst (.cons nx (.cons ny .nil))
  have ft := nc.fits (by simp only [PyData.weight, PyData.weightAll]; omega)
  unfold fRepr
  dsimp only
  rw [d3]
  dsimp only
  rw [if_pos]
  rw [nc.sw, decide_eq_true (show (PyData.list [dx, dy]).depth ≤ 100 from Nat.le_trans nc.dp (by decide))]
  unfold sizeOk
  rw [sizeLine_eq] at ft
  rw [decide_eq_true ft]
  rfl
end Dn
namespace Dn
open PySem PySem.Spec PyProof.Rows L2 PySem.SeqAt Rw

/-! ### sizes of houses, the widest one once -/
theorem notIn_deck {h : PH} {d : Nat} {g a t : PV} {w : Bool} (e : h[d]? = some (.dK (deckP g a t w))) : opNotIn (.str "widest") (.ref d) h = some (.bl (!w), h) := by
  have s : seqOf h (.ref d) = none := by
    unfold seqOf
    dsimp only
    rw [e]
  have k : dkOf h (.ref d) = some (deckP g a t w) := by
    unfold dkOf
    dsimp only
    rw [e]
  have b : inB h (.str "widest") (.ref d) = some (getG (deckP g a t w) (.inr "widest")).isSome := by
    unfold inB
    dsimp only
    rw [s]
    dsimp only
    rw [k]
    rfl
  unfold opNotIn
  rw [b]
  cases w <;> rfl
theorem put_widest (g a t : PV) (w : Bool) : putG (deckP g a t w) (.inr "widest" : L2.Key) (.bl true) = deckP g a t true := by cases w <;> rfl
theorem fSet_widest {h : PH} {d : Nat} {g a t : PV} {w : Bool} (e : h[d]? = some (.dK (deckP g a t w))) : fSet (.ref d) (.str "widest") (.bl true) h = some (h.set d (.dK (deckP g a t true))) := by
  unfold fSet
  dsimp only
  rw [e]
  have : (deckP g a t w).length < 16777216 := by cases w <;> simp [deckP]
  show (if decide ((deckP g a t w).length < 16777216) = true then some (h.set d (.dK (putG (deckP g a t w) (.inr "widest") (.bl true)))) else none) = _
  rw [if_pos (decide_eq_true this), put_widest]
/-! ### what is held at a place -/
def heldOf (st : List (Bool × Nat)) (p : Nat) : List Nat := ((nest (st.take p) []).getD []).reverse
theorem nest_out {r q : Nat} {st : List (Bool × Nat)} {hs : List Nat} : nest ((false, r) :: st) (q :: hs) = if r = q then nest st hs else none := rfl
theorem nest_in {r : Nat} {st : List (Bool × Nat)} {hs : List Nat} : nest ((true, r) :: st) hs = if r ∈ hs then none else nest st (r :: hs) := rfl
theorem nest_pre {st : List (Bool × Nat)} (h : nest st [] = some []) (p : Nat) : ∃ hs, nest (st.take p) [] = some hs := by
  have e := nest_app (st.take p) (st.drop p) []
  rw [List.take_append_drop, h] at e
  cases q : nest (st.take p) [] with
  | none => rw [q] at e; cases e
  | some hs => exact ⟨hs, rfl⟩
theorem heldOf_len (st : List (Bool × Nat)) (p : Nat) (h : nest st [] = some []) : (heldOf st p).length ≤ p := by
  have key : ∀ (a : List (Bool × Nat)) (hs ks : List Nat), nest a hs = some ks → ks.length ≤ hs.length + a.length := by
    intro a
    induction a with
    | nil => intro hs ks e; cases e; simp
    | cons x a ih =>
      intro hs ks e
      obtain ⟨b, r⟩ := x
      cases b with
      | true =>
        unfold nest at e
        split at e
        · cases e
        · have := ih _ _ e
          simp at this ⊢
          omega
      | false =>
        cases hs with
        | nil => cases e
        | cons q hs =>
          rw [nest_out] at e
          split at e
          · have := ih _ _ e
            simp at this ⊢
            omega
          · cases e
  obtain ⟨hs, e⟩ := nest_pre h p
  unfold heldOf
  rw [e]
  have := key _ _ _ e
  simp at this ⊢
  omega
end Dn
namespace Dn
open PySem PySem.Spec PyProof.Rows L2 PySem.SeqAt Rw

/-- tuple(.. for x in range(m) if ..), nothing changes -/
theorem range_gen {gs : List (Nat × List PV)} {j m : Nat} {t : DT} {e : DE} {s : Sl} {h : PH} (b : Nat → Bool) (f : Nat → PV) (ok : okG gs h = true) (hm : m < 1000000)
    (step : ∀ k, k < m → t (s.set j (some (.int ((k : Nat) : Int)))) h = .ok (b k) h ∧ (b k = true → e (s.set j (some (.int ((k : Nat) : Int)))) h = .ok (f k) h)) :
    genItems gs (gNm j) t e s (rangeP 0 m) [] h = .ok (((List.range m).filter b).map f) h := by
  have cp := gen_pure (gs := gs) (g := gNm j) (t := t) (e := e) (s := s) (h := h) (fun x => match x with | .int i => b i.toNat | _ => false) (fun x => match x with | .int i => f i.toNat | x => x) ok (rangeP 0 m) (fun x hx => by
    obtain ⟨k, hk, rfl⟩ := List.mem_map.mp hx
    have lk : k < m := by simpa using hk
    refine ⟨_, rfl, ?_⟩
    have e0 : 0 + ((k : Nat) : Int) = ((k : Nat) : Int) := by omega
    rw [e0]
    exact step k lk) (by rw [range_len]; omega)
  rw [cp]
  congr 1
  unfold rangeP
  rw [List.filter_map, List.map_map]
  have e1 : ((fun x : PV => match x with | .int i => b i.toNat | _ => false) ∘ fun k : Nat => PV.int (0 + ((k : Nat) : Int))) = b := by
    funext k
    simp
  rw [e1]
  apply List.map_congr_left
  intro k _
  simp
theorem anyO_str {h : PH} (w : Str) : ∀ vs : List Str, anyO (eqJ h (.str w)) (vs.map PV.str) = some (decide (w ∈ vs))
  | [] => by simp [anyO]
  | v :: vs => by
    have j : eqJ h (.str w) (.str v) = some (decide (w = v)) := by
      show some (v == w) = _
      rw [str_beq]
    show (match eqJ h (.str w) (.str v), anyO (eqJ h (.str w)) (vs.map PV.str) with
      | some a, some b => some (a || b)
      | _, _ => none) = _
    rw [j, anyO_str w vs]
    dsimp only
    congr 1
    rw [← Bool.decide_or]
    exact decide_eq_decide.mpr (by simp)
theorem opIn_strT {h : PH} (w : Str) (vs : List Str) : opIn (.str w) (.tup (vs.map PV.str)) h = some (.bl (decide (w ∈ vs)), h) := by
  have s : inB h (.str w) (.tup (vs.map PV.str)) = some (decide (w ∈ vs)) := anyO_str w vs
  unfold opIn
  rw [s]
  rfl
theorem opIn_str2 (w a b : Str) (h : PH) : opIn (.str w) (.tup [.str a, .str b]) h = some (.bl (decide (w ∈ [a, b])), h) := opIn_strT w [a, b]
theorem opIn_str3 (w a b c : Str) (h : PH) : opIn (.str w) (.tup [.str a, .str b, .str c]) h = some (.bl (decide (w ∈ [a, b, c])), h) := opIn_strT w [a, b, c]
theorem opEq_non_int (i : Int) (h : PH) : opEq .non (.int i) h = some (.bl false, h) := rfl
theorem fMin_nat (i j : Nat) (h : PH) : fMin [.int i, .int j] h = some (.int ((min i j : Nat) : Int), h) := by
  show some (PV.int (if (j : Int) < i then (j : Int) else i), h) = _
  congr 2
  congr 1
  split <;> omega
theorem fMax_nat (i j : Nat) (h : PH) : fMax [.int i, .int j] h = some (.int ((max i j : Nat) : Int), h) := by
  show some (PV.int (if (j : Int) > i then (j : Int) else i), h) = _
  congr 2
  congr 1
  split <;> omega
def spP (n : Nat) (pl : Nat → Nat) (wd : Nat → Str) (nu : Nat → Nat) : List PV := (List.range n).map fun i => spotP (pl i) (wd i) (nu i)
def quadP (q : Nat × Nat × Nat × Nat) : PV := .tup [.int (q.1 : Nat), .int (q.2.1 : Nat), .int (q.2.2.1 : Nat), .int (q.2.2.2 : Nat)]
def standP (n : Nat) (pl : Nat → Nat) (wd : Nat → Str) (nu : Nat → Nat) (ts : List (Nat × Nat × Nat × Nat)) : PV := .tup [.tup (spP n pl wd nu), .tup (ts.map quadP)]
def holdersOf (n : Nat) (ws : Nat → List (Bool × Nat)) (pl : Nat → Nat) (room : Nat) : List Nat := (List.range n).filter fun i => decide (room ∈ heldOf (ws i) (pl i))
def insideP (n r : Nat) (ws : Nat → List (Bool × Nat)) (pl : Nat → Nat) : PV := .tup ((List.range r).map fun room => .tup (natsP (holdersOf n ws pl room)))
section
variable {n r most : Nat} {rm : Nat → Room} {ws : Nat → List (Bool × Nat)} {pl : Nat → Nat} {wd : Nat → Str} {nu : Nat → Nat} {ts : List (Nat × Nat × Nat × Nat)} {h : PH}
theorem stand_0 (h : PH) : opIx (standP n pl wd nu ts) (.int 0) h = some (.tup (spP n pl wd nu), h) := rfl
theorem stand_1 (h : PH) : opIx (standP n pl wd nu ts) (.int 1) h = some (.tup (ts.map quadP), h) := rfl
theorem spot_ix {i : Nat} (li : i < n) (h : PH) : opIx (.tup (spP n pl wd nu)) (.int i) h = some (.tup [.int (pl i), .str (wd i), .int (nu i)], h) := by
  show (atI (spP n pl wd nu) i).map _ = _
  rw [show atI (spP n pl wd nu) ((i : Nat) : Int) = some (spotP (pl i) (wd i) (nu i)) from atI_range (fun i => spotP (pl i) (wd i) (nu i)) li]
  rfl
end
end Dn
namespace Dn
open PySem PySem.Spec PyProof.Rows L2 PySem.SeqAt Rw

theorem args0_5 (N : Nat) (x y z u v : PV) : args0 (N + 5) [x, y, z, u, v] = some x :: some y :: some z :: some u :: some v :: List.replicate N none := rfl
def wishOf (st : List (Bool × Nat)) (p : Nat) : Option Nat := match st[p]? with
  | some (true, room) => some room
  | _ => none
open Classical in
noncomputable def flagOf (st : List (Bool × Nat)) (p : Nat) (w : Str) (room : Nat) : Str := if room ∈ heldOf st p then "up" else if wishOf st p = some room ∧ w ∈ (["look", "yield"] : List Str) then "up" else if wishOf st p = some room ∧ w = "hand" then "half" else "down"
def tokOf (ts : List (Nat × Nat × Nat × Nat)) (room a b : Nat) : PV := match ts.find? fun q => decide (q.1 = room ∧ q.2.1 = a ∧ q.2.2.1 = b) with
  | some q => .int (q.2.2.2 : Nat)
  | none => .non
theorem find_at {α : Type} {p : α → Bool} {l : List α} {i : Nat} (li : i < l.length) (a : (l.take i).find? p = none) (b : p l[i] = true) : l.find? p = some l[i] := by
  have e : l = l.take i ++ l[i] :: l.drop (i + 1) := by rw [← List.drop_eq_getElem_cons li, List.take_append_drop]
  have : (l.take i ++ l[i] :: l.drop (i + 1)).find? p = some l[i] := by
    rw [List.find?_append, a, List.find?_cons_of_pos b]
    rfl
  rwa [← e] at this
theorem find_next {α : Type} {p : α → Bool} {l : List α} {i : Nat} (li : i < l.length) (a : (l.take i).find? p = none) (b : p l[i] = false) : (l.take (i + 1)).find? p = none := by
  rw [List.take_succ, List.getElem?_eq_getElem li, List.find?_append, a]
  simp [b]
section
variable {n r most : Nat} {rm : Nat → Room} {ws : Nat → List (Bool × Nat)} {pl : Nat → Nat} {wd : Nat → Str} {nu : Nat → Nat} {ts : List (Nat × Nat × Nat × Nat)} {h : PH}
end
end Dn
namespace Dn
open PySem PySem.Spec PyProof.Rows L2 PySem.SeqAt Rw

def triP (q : Nat × Nat × Nat) : PV := tripP q.1 q.2.1 q.2.2
theorem trips_nat (n m : Nat) (rm : Nat → Room) : ∃ l : List (Nat × Nat × Nat), tripsP n rm m = l.map triP ∧ ∀ q ∈ l, q.1 < m ∧ q.2.1 < q.2.2 ∧ q.2.2 < n := by
  have key : ∀ xs : List PV, (∀ x ∈ xs, ∃ room i j, x = tripP room i j ∧ room < m ∧ i < j ∧ j < n) → ∃ l : List (Nat × Nat × Nat), xs = l.map triP ∧ ∀ q ∈ l, q.1 < m ∧ q.2.1 < q.2.2 ∧ q.2.2 < n := by
    intro xs
    induction xs with
    | nil => intro _; exact ⟨[], rfl, fun q hq => by cases hq⟩
    | cons x xs ih =>
      intro h
      obtain ⟨room, i, j, rfl, a, b, c⟩ := h x List.mem_cons_self
      obtain ⟨l, rfl, hl⟩ := ih fun y hy => h y (List.mem_cons_of_mem _ hy)
      refine ⟨(room, i, j) :: l, rfl, fun q hq => ?_⟩
      rcases List.mem_cons.mp hq with rfl | z
      · exact ⟨a, b, c⟩
      · exact hl q z
  exact key _ fun x hx => tripsP_mem hx
def startTs (l : List (Nat × Nat × Nat)) : List (Nat × Nat × Nat × Nat) := l.map fun q => (q.1, q.2.1, q.2.2, q.2.1)
theorem start_toks (l : List (Nat × Nat × Nat)) (b : PV → Bool) (f : PV → PV) (hb : ∀ q, b (triP q) = true) (hf : ∀ q : Nat × Nat × Nat, f (triP q) = quadP (q.1, q.2.1, q.2.2, q.2.1)) : ((l.map triP).filter b).map f = (startTs l).map quadP := by
  rw [List.filter_eq_self.mpr (fun x hx => by obtain ⟨q, _, rfl⟩ := List.mem_map.mp hx; exact hb q)]
  unfold startTs
  rw [List.map_map, List.map_map]
  exact List.map_congr_left fun q _ => hf q
theorem spots_rest (n : Nat) : spP n (fun _ => 0) (fun _ => "rest") (fun _ => 0) = List.replicate n (spotP 0 "rest" 0) := by
  unfold spP
  rw [List.map_const', List.length_range]
theorem opMul_one {n : Nat} {x : PV} {h : PH} (n5 : 1 ≤ n ∧ n ≤ 5) : opMul (.tup [x]) (.int n) h = some (.tup (List.replicate n x), h) := by
  have : n = 1 ∨ n = 2 ∨ n = 3 ∨ n = 4 ∨ n = 5 := by omega
  rcases this with rfl | rfl | rfl | rfl | rfl <;> rfl
section
variable {n r most : Nat} {rm : Nat → Room} {ws : Nat → List (Bool × Nat)} {h : PH}
end
end Dn
namespace Dn
open PySem PySem.Spec PyProof.Rows L2 PySem.SeqAt Rw

section
variable {n r most : Nat} {rm : Nat → Room} {ws : Nat → List (Bool × Nat)} {pl : Nat → Nat} {wd : Nat → Str} {nu : Nat → Nat} {ts : List (Nat × Nat × Nat × Nat)} {h : PH}
end
end Dn
namespace Dn
open PySem PySem.Spec PyProof.Rows L2 PySem.SeqAt Rw

def zipV (v w : PV) (h : PH) : Out Its' := match v, w with
  | .tup xs, .tup ys => .ok ([], zipP xs ys) h
  | _, _ => match lstOf h v, lstOf h w with
    | some a, some b => .ok (a.1 ++ b.1, zipP a.2 b.2) h
    | _, _ => .no
theorem iZipP_ap (f g : DE) (s : Sl) (h : PH) : iZipP f g s h = (f s h).bind fun v h => (g s h).bind fun w h => zipV v w h := rfl
theorem zipV_tup (xs ys : List PV) (h : PH) : zipV (.tup xs) (.tup ys) h = .ok ([], zipP xs ys) h := rfl
theorem zip_maps {α : Type} (g k : α → PV) : ∀ l : List α, zipP (l.map g) (l.map k) = l.map fun x => .tup [g x, k x]
  | [] => rfl
  | x :: l => by
    have := zip_maps g k l
    unfold zipP at this ⊢
    simp only [List.map_cons, List.zipWith_cons_cons, this]
theorem range_map_succ {α : Type} (f : Nat → α) (m : Nat) : (List.range (m + 1)).map f = (List.range m).map f ++ [f m] := by
  rw [List.range_succ, List.map_append]
  rfl
section
variable {n r most : Nat} {rm : Nat → Room} {ws : Nat → List (Bool × Nat)} {pl : Nat → Nat} {wd : Nat → Str} {nu : Nat → Nat} {ts : List (Nat × Nat × Nat × Nat)} {h : PH}
def heldL (n : Nat) (ws : Nat → List (Bool × Nat)) (pl : Nat → Nat) : List PV := (List.range n).map fun i => .tup (natsP (heldOf (ws i) (pl i)))
theorem in_nats {h : PH} (room : Nat) (l : List Nat) : opIn (.int (room : Nat)) (.tup (natsP l)) h = some (.bl (decide (room ∈ l)), h) := by
  have := opIn_int (h := h) (c := .tup (natsP l)) (i := (room : Nat)) (js := l.map fun j : Nat => (j : Int)) (by show some (natsP _) = _; unfold natsP; rw [List.map_map]; rfl)
  rw [this]
  congr 3
  refine decide_eq_decide.mpr ?_
  rw [List.mem_map]
  exact ⟨fun ⟨a, ha, e⟩ => by have : a = room := by omega
                              rw [← this]; exact ha, fun q => ⟨_, q, rfl⟩⟩
theorem lowrs_heldL (k m : Nat) : PV.lowrs k ((List.range m).map fun i => PV.tup (natsP (heldOf (ws i) (pl i)))) = true := lowrs_iff.mpr fun y hy => by
  obtain ⟨i, _, rfl⟩ := List.mem_map.mp hy
  exact lowrs_nats _ _
end
end Dn
namespace Dn
open PySem PySem.Spec PyProof.Rows L2 PySem.SeqAt Rw

/-- a dict's display at new objects -/
theorem dispO_new {h : PH} {kvs : List (L2.Key × PV)} (l : kvs.length ≤ 15) : dispO h.length kvs (h ++ [.dK []]) = .ok (.ref h.length) (h ++ [.dK (mergeG [] kvs)]) := by
  have e : isNewK (h ++ [.dK []]) h.length = true := by
    unfold isNewK
    rw [get_last]
  unfold dispO
  rw [if_pos ⟨e, l⟩, set_last]
def SpOk (n : Nat) (rm : Nat → Room) (st : List (Bool × Nat)) (i p : Nat) (w : Str) (k : Nat) : Prop := p < st.length ∧ ((w = "rest" ∧ p = 0 ∧ k = 0) ∨ (w = "go" ∧ k = 0) ∨ ∃ room t o, st[p]? = some (true, room) ∧ rm room = some (t, o) ∧ 2 ≤ n ∧ ((w = "hand" ∧ k < (evensOf n (t i)).length) ∨ (w = "look" ∧ k < n - 1) ∨ ((w = "yield" ∨ w = "low") ∧ k < n - 1 ∧ bowsAt t o i k = true)))
theorem SpOk.wish {n : Nat} {rm : Nat → Room} {st : List (Bool × Nat)} {i p : Nat} {w : Str} {k : Nat} (S : SpOk n rm st i p w k) (hw : w ∈ (["hand", "look", "yield"] : List Str)) : wishOf st p ≠ none := by
  have n1 : ¬ (("rest" : Str) ∈ (["hand", "look", "yield"] : List Str)) := by decide +kernel
  have n2 : ¬ (("go" : Str) ∈ (["hand", "look", "yield"] : List Str)) := by decide +kernel
  rcases S.2 with ⟨e, _⟩ | ⟨e, _⟩ | ⟨room, t, o, es, _⟩
  · exact absurd (e ▸ hw) n1
  · exact absurd (e ▸ hw) n2
  · unfold wishOf
    rw [es]
    simp
open Classical in
noncomputable def nextP (n : Nat) (rm : Nat → Room) (ws : Nat → List (Bool × Nat)) (pl : Nat → Nat) (wd : Nat → Str) (nu : Nat → Nat) (ts : List (Nat × Nat × Nat × Nat)) (i : Nat) : PV :=
  if wd i = "rest" then .str "begin" else if wd i = "hand" then .str "hand" else if wd i = "yield" then .str "lower" else
  match (ws i)[pl i]? with
  | none => .non
  | some (b, room) =>
    if wd i = "go" then (if b = false then .str "leave" else if (rm room).isNone = true ∨ n = 1 then (if holdersOf n ws pl room = [] then .str "enter" else .non) else .str "raise")
    else match rm room with
      | none => .non
      | some q => if wd i = "low" then (if flagOf (ws ((q.2 i).getD (nu i) 0)) (pl ((q.2 i).getD (nu i) 0)) (wd ((q.2 i).getD (nu i) 0)) room = "down" then .str "see" else .non)
        else if flagOf (ws ((q.2 i).getD (nu i) 0)) (pl ((q.2 i).getD (nu i) 0)) (wd ((q.2 i).getD (nu i) 0)) room = "down" ∨ (q.1 i ((q.2 i).getD (nu i) 0) = "even" ∧ flagOf (ws ((q.2 i).getD (nu i) 0)) (pl ((q.2 i).getD (nu i) 0)) (wd ((q.2 i).getD (nu i) 0)) room = "up" ∧ tokOf ts room (min i ((q.2 i).getD (nu i) 0)) (max i ((q.2 i).getD (nu i) 0)) = .int i) then (if nu i = n - 2 then .str "enter" else .str "look")
        else if q.1 i ((q.2 i).getD (nu i) 0) = "bow" then .str "yield" else .non
section
variable {n r most : Nat} {rm : Nat → Room} {ws : Nat → List (Bool × Nat)} {pl : Nat → Nat} {wd : Nat → Str} {nu : Nat → Nat} {ts : List (Nat × Nat × Nat × Nat)} {h : PH}
theorem opEq_tok {room a b i : Nat} {h : PH} : opEq (tokOf ts room a b) (.int i) h = some (.bl (decide (tokOf ts room a b = .int i)), h) := by
  unfold tokOf
  split
  · show some (PV.bl (decide (_ = ((i : Nat) : Int))), h) = _
    congr 3
    exact decide_eq_decide.mpr ⟨fun e => by rw [e], fun e => by cases e; rfl⟩
  · rw [decide_eq_false (fun e => nomatch e)]
    rfl
end
end Dn
namespace Dn
open PySem PySem.Spec PyProof.Rows L2 PySem.SeqAt Rw

section
variable {n r most : Nat} {rm : Nat → Room} {ws : Nat → List (Bool × Nat)} {pl : Nat → Nat} {wd : Nat → Str} {nu : Nat → Nat} {ts : List (Nat × Nat × Nat × Nat)} {h : PH}
/-- what next tells, and what is so then -/
theorem next_inv {i : Nat} (n1 : 1 ≤ n) (S : SpOk n rm (ws i) i (pl i) (wd i) (nu i)) :
    nextP n rm ws pl wd nu ts i = .non ∨ nextP n rm ws pl wd nu ts i = .str "begin" ∨ nextP n rm ws pl wd nu ts i = .str "enter" ∨ nextP n rm ws pl wd nu ts i = .str "leave" ∨
    ∃ room t o, (ws i)[pl i]? = some (true, room) ∧ rm room = some (t, o) ∧ 2 ≤ n ∧ (nextP n rm ws pl wd nu ts i = .str "raise" ∨ (nextP n rm ws pl wd nu ts i = .str "hand") ∨ (nextP n rm ws pl wd nu ts i = .str "look" ∧ nu i + 1 < n - 1) ∨ (nextP n rm ws pl wd nu ts i = .str "yield" ∧ nu i < n - 1 ∧ bowsAt t o i (nu i) = true) ∨ (nextP n rm ws pl wd nu ts i = .str "lower" ∧ nu i < n - 1 ∧ bowsAt t o i (nu i) = true) ∨ nextP n rm ws pl wd nu ts i = .str "see") := by
  have lp := S.1
  obtain ⟨b, room, hs⟩ : ∃ b room, (ws i)[pl i] = (b, room) := ⟨_, _, rfl⟩
  have es : (ws i)[pl i]? = some (b, room) := by rw [List.getElem?_eq_getElem lp, hs]
  rcases S.2 with ⟨e, _, _⟩ | ⟨e, _⟩ | ⟨room', t, o, es', er, n2, q⟩
  · refine .inr (.inl ?_)
    unfold nextP
    rw [if_pos e]
  · have a1 : ¬ (wd i = "rest") := by rw [e]; decide +kernel
    have a2 : ¬ (wd i = "hand") := by rw [e]; decide +kernel
    have a3 : ¬ (wd i = "yield") := by rw [e]; decide +kernel
    have nx : nextP n rm ws pl wd nu ts i = if b = false then .str "leave" else if (rm room).isNone = true ∨ n = 1 then (if holdersOf n ws pl room = [] then .str "enter" else .non) else .str "raise" := by
      unfold nextP
      rw [if_neg a1, if_neg a2, if_neg a3, es]
      dsimp only
      rw [if_pos e]
    rw [nx]
    cases b with
    | false => rw [if_pos rfl]; exact .inr (.inr (.inr (.inl rfl)))
    | true =>
      rw [if_neg (by simp)]
      by_cases z : (rm room).isNone = true ∨ n = 1
      · rw [if_pos z]
        by_cases y : holdersOf n ws pl room = []
        · rw [if_pos y]; exact .inr (.inr (.inl rfl))
        · rw [if_neg y]; exact .inl rfl
      · rw [if_neg z]
        cases er : rm room with
        | none => exact absurd (.inl (by rw [er]; rfl)) z
        | some q =>
          have : ¬ n = 1 := fun y => z (.inr y)
          exact .inr (.inr (.inr (.inr ⟨room, q.1, q.2, es, er, by omega, .inl rfl⟩)))
  · rw [es] at es'
    cases es'
    refine (fun (z : nextP n rm ws pl wd nu ts i = .non ∨ nextP n rm ws pl wd nu ts i = .str "enter" ∨ (nextP n rm ws pl wd nu ts i = .str "raise" ∨ (nextP n rm ws pl wd nu ts i = .str "hand") ∨ (nextP n rm ws pl wd nu ts i = .str "look" ∧ nu i + 1 < n - 1) ∨ (nextP n rm ws pl wd nu ts i = .str "yield" ∧ nu i < n - 1 ∧ bowsAt t o i (nu i) = true) ∨ (nextP n rm ws pl wd nu ts i = .str "lower" ∧ nu i < n - 1 ∧ bowsAt t o i (nu i) = true) ∨ nextP n rm ws pl wd nu ts i = .str "see")) => z.elim .inl fun z => z.elim (fun z => .inr (.inr (.inl z))) fun z => .inr (.inr (.inr (.inr ⟨room, t, o, es, er, n2, z⟩)))) ?_
    rcases q with ⟨e, _⟩ | ⟨e, lk⟩ | ⟨e | e, lk, bw⟩
    · refine .inr (.inr (.inr (.inl ?_)))
      unfold nextP
      rw [if_neg (by rw [e]; decide +kernel), if_pos e]
    · have a1 : ¬ (wd i = "rest") := by rw [e]; decide +kernel
      have a2 : ¬ (wd i = "hand") := by rw [e]; decide +kernel
      have a3 : ¬ (wd i = "yield") := by rw [e]; decide +kernel
      have a4 : ¬ (wd i = "go") := by rw [e]; decide +kernel
      have a5 : ¬ (wd i = "low") := by rw [e]; decide +kernel
      generalize hv : nextP n rm ws pl wd nu ts i = v
      unfold nextP at hv
      rw [if_neg a1, if_neg a2, if_neg a3, es] at hv
      dsimp only at hv
      rw [if_neg a4, er] at hv
      dsimp only at hv
      rw [if_neg a5] at hv
      split at hv
      · split at hv
        · exact .inr (.inl hv.symm)
        · rename_i y
          exact .inr (.inr (.inr (.inr (.inl ⟨hv.symm, by omega⟩))))
      · split at hv
        · rename_i y
          exact .inr (.inr (.inr (.inr (.inr (.inl ⟨hv.symm, lk, decide_eq_true y⟩)))))
        · exact .inl hv.symm
    · refine .inr (.inr (.inr (.inr (.inr (.inr (.inl ⟨?_, lk, bw⟩))))))
      unfold nextP
      rw [if_neg (by rw [e]; decide +kernel), if_neg (by rw [e]; decide +kernel), if_pos e]
    · have a1 : ¬ (wd i = "rest") := by rw [e]; decide +kernel
      have a2 : ¬ (wd i = "hand") := by rw [e]; decide +kernel
      have a3 : ¬ (wd i = "yield") := by rw [e]; decide +kernel
      have a4 : ¬ (wd i = "go") := by rw [e]; decide +kernel
      generalize hv : nextP n rm ws pl wd nu ts i = v
      unfold nextP at hv
      rw [if_neg a1, if_neg a2, if_neg a3, es] at hv
      dsimp only at hv
      rw [if_neg a4, er] at hv
      dsimp only at hv
      rw [if_pos e] at hv
      split at hv
      · exact .inr (.inr (.inr (.inr (.inr (.inr (.inr hv.symm))))))
      · exact .inl hv.symm
end
end Dn
namespace Dn
open PySem PySem.Spec PyProof.Rows L2 PySem.SeqAt Rw

section
variable {n r most : Nat} {rm : Nat → Room} {ws : Nat → List (Bool × Nat)} {pl : Nat → Nat} {wd : Nat → Str} {nu : Nat → Nat} {ts : List (Nat × Nat × Nat × Nat)} {h : PH}
end
end Dn
namespace Dn
open PySem PySem.Spec PyProof.Rows L2 PySem.SeqAt Rw

section
variable {n r most : Nat} {rm : Nat → Room} {ws : Nat → List (Bool × Nat)} {pl : Nat → Nat} {wd : Nat → Str} {nu : Nat → Nat} {ts : List (Nat × Nat × Nat × Nat)} {h : PH}
theorem spP_set (i p k : Nat) (w : Str) : (spP n pl wd nu).set i (spotP p w k) = spP n (putF pl i p) (putF wd i w) (putF nu i k) := by
  unfold spP
  rw [rangeMap_set]
  apply List.map_congr_left
  intro j _
  unfold putF
  split <;> rfl
theorem spP_len : (spP n pl wd nu).length = n := by simp [spP]
theorem lowrs_spP (m : Nat) : PV.lowrs m (spP n pl wd nu) = true := lowrs_iff.mpr fun y hy => by
  obtain ⟨_, _, rfl⟩ := List.mem_map.mp hy
  rfl
theorem lowrs_quads (m : Nat) (ts : List (Nat × Nat × Nat × Nat)) : PV.lowrs m (ts.map quadP) = true := lowrs_iff.mpr fun y hy => by
  obtain ⟨_, _, rfl⟩ := List.mem_map.mp hy
  rfl
theorem lowr_stand (m : Nat) : (standP n pl wd nu ts).lowr m = true := by
  show PV.lowr m (.tup [.tup _, .tup _]) = true
  simp only [PV.lowr, PV.lowrs, lowrs_spP, lowrs_quads, Bool.and_self]
/-- the tokens' numbers are small -/
def TsB (ts : List (Nat × Nat × Nat × Nat)) : Prop := ∀ q ∈ ts, q.1 < 64 ∧ q.2.1 < 64 ∧ q.2.2.1 < 64 ∧ q.2.2.2 < 64
end
end Dn
namespace Dn
open PySem PySem.Spec PyProof.Rows L2 PySem.SeqAt Rw

/-- [k for k in range(m) if ..], where the test wants closed objects -/
theorem range_comp_c {j m : Nat} {t : DT} {e : DE} {s : Sl} {h : PH} (c : Cl h.length h) (b : Nat → Bool) (hm : m < 1000000)
    (step : ∀ k, k < m → ∀ H, Gr h H → t (s.set j (some (.int ((k : Nat) : Int)))) H = .ok (b k) H ∧ (b k = true → e (s.set j (some (.int ((k : Nat) : Int)))) H = .ok (.int ((k : Nat) : Int)) H)) :
    compItems [] (gNm j) t e h.length s (rangeP 0 m) (h ++ [.lst []]) = .ok () (h ++ [.lst (natsP ((List.range m).filter b))]) := by
  have cp := comp_w (gs := []) (g := gNm j) (t := t) (e := e) (n := h.length) (s := s) (items := rangeP 0 m) (Q := fun _ h' => h' = h ++ [.lst (natsP ((List.range m).filter b))]) (fun i acc h' => i ≤ m ∧ h' = h ++ [.lst acc] ∧ acc = natsP ((List.range i).filter b)) (fun i acc h' ⟨_, e, _⟩ => by rw [e]; exact ⟨get_last _ _, rfl⟩) (fun i x hx acc h' ⟨_, e1, e2⟩ => by
    obtain ⟨rfl, li⟩ := range_at hx
    have G : Gr h h' := by
      rw [e1]
      exact .push (o := .lst acc) c (by rw [e2]; exact lowrs_nats _ _)
    obtain ⟨s1, s2⟩ := step i li h' G
    have al : acc.length ≤ i := by
      rw [e2]
      unfold natsP
      rw [List.length_map]
      have := List.length_filter_le b (List.range i)
      simpa using this
    have e0 : 0 + ((i : Nat) : Int) = ((i : Nat) : Int) := by omega
    rw [e0]
    refine ⟨_, rfl, ?_⟩
    show wO (t (s.set j (some (.int ((i : Nat) : Int)))) h') _
    rw [s1, wO_ok]
    refine ⟨fun z => ?_, fun z => ⟨by omega, e1, ?_⟩⟩
    · show wO (e (s.set j (some (.int ((i : Nat) : Int)))) h') _
      rw [s2 z, wO_ok]
      refine ⟨by rw [e1]; exact get_last _ _, by omega, by omega, by rw [e1, set_last], ?_⟩
      rw [e2, List.range_succ, List.filter_append]
      unfold natsP
      rw [List.map_append]
      simp [z]
    · rw [e2, List.range_succ, List.filter_append]
      simp [z]) 0 [] (h ++ [.lst []]) (Nat.zero_le _) ⟨Nat.zero_le _, rfl, rfl⟩ (fun acc h' ⟨_, e1, e2⟩ => by rw [range_len] at e2; rw [e1, e2])
  rw [List.drop_zero] at cp
  obtain ⟨_, _, cp, ce⟩ := wO_ex.mp cp
  rw [cp, ce]
section
variable {n r most : Nat} {rm : Nat → Room} {ws : Nat → List (Bool × Nat)} {pl : Nat → Nat} {wd : Nat → Str} {nu : Nat → Nat} {ts : List (Nat × Nat × Nat × Nat)} {h : PH}
noncomputable def moversOf (n : Nat) (rm : Nat → Room) (ws : Nat → List (Bool × Nat)) (pl : Nat → Nat) (wd : Nat → Str) (nu : Nat → Nat) (ts : List (Nat × Nat × Nat × Nat)) : List Nat := (List.range n).filter fun i => !isNon (nextP n rm ws pl wd nu ts i)
theorem movers_mem {x : PV} (hx : x ∈ natsP (moversOf n rm ws pl wd nu ts)) : ∃ i, x = .int ((i : Nat) : Int) ∧ i < n ∧ nextP n rm ws pl wd nu ts i ≠ .non := by
  obtain ⟨i, rfl, hi⟩ := nats_mem hx
  obtain ⟨a, b⟩ := List.mem_filter.mp hi
  refine ⟨i, rfl, by simpa using a, fun e => ?_⟩
  rw [e] at b
  cases b
end
end Dn
namespace Dn
open PySem PySem.Spec PyProof.Rows L2 PySem.SeqAt Rw

theorem Dk.cl {d g : Nat} {h : PH} (D : Dk d g h) : Cl h.length h := by
  obtain ⟨gs, a, t, w, D⟩ := D
  exact D.cl
section
variable {n r most : Nat} {rm : Nat → Room} {ws : Nat → List (Bool × Nat)} {h : PH}
end
end Dn
namespace Dn
open PySem PySem.Spec PyProof.Rows L2 PySem.SeqAt Rw

theorem SpotOk.form2 {n i : Nat} {rm : Nat → Room} {st : List (Bool × Nat)} {x : PV} (n1 : 1 ≤ n) (l0 : 0 < st.length) (h : SpotOk n rm st i x) : ∃ p w k, x = spotP p w k ∧ SpOk n rm st i p w k := by
  rcases h with rfl | ⟨p, lp, rfl | m⟩
  · exact ⟨0, "rest", 0, rfl, l0, .inl ⟨rfl, rfl, rfl⟩⟩
  · exact ⟨p, "go", 0, rfl, lp, .inr (.inl ⟨rfl, rfl⟩)⟩
  · unfold entSpots at m
    split at m
    · rename_i room es
      split at m
      · rename_i q er
        split at m
        · cases m
        · rename_i n2
          have door : ∀ {w : Str} {k : Nat}, x = spotP p w k → ((w = "hand" ∧ k < (evensOf n (q.1 i)).length) ∨ (w = "look" ∧ k < n - 1) ∨ ((w = "yield" ∨ w = "low") ∧ k < n - 1 ∧ bowsAt q.1 q.2 i k = true)) → ∃ p w k, x = spotP p w k ∧ SpOk n rm st i p w k := fun {w k} e z => ⟨p, w, k, e, lp, .inr (.inr ⟨room, q.1, q.2, es, er, by omega, z⟩)⟩
          unfold doorSpots at m
          rcases List.mem_append.mp m with m | m
          · rcases List.mem_append.mp m with m | m
            · rcases List.mem_append.mp m with m | m
              · obtain ⟨k, hk, e⟩ := List.mem_map.mp m
                exact door e.symm (.inl ⟨rfl, by simpa using hk⟩)
              · obtain ⟨k, hk, e⟩ := List.mem_map.mp m
                exact door e.symm (.inr (.inl ⟨rfl, by simpa using hk⟩))
            · obtain ⟨k, hk, e⟩ := List.mem_map.mp m
              obtain ⟨a, b⟩ := List.mem_filter.mp hk
              exact door e.symm (.inr (.inr ⟨.inl rfl, by simpa using a, b⟩))
          · obtain ⟨k, hk, e⟩ := List.mem_map.mp m
            obtain ⟨a, b⟩ := List.mem_filter.mp hk
            exact door e.symm (.inr (.inr ⟨.inr rfl, by simpa using a, b⟩))
      · cases m
    · cases m
/-- a standing by its functions -/
theorem StandOk.fun_ {n r most : Nat} {rm : Nat → Room} {ws : Nat → List (Bool × Nat)} {sp tk : List PV} (n5 : 1 ≤ n ∧ n ≤ 5) (r6 : r ≤ 6) (ok : HouseOk n r most rm ws) (S : StandOk n r rm ws sp tk) : ∃ pl wd nu ts, PV.tup [.tup sp, .tup tk] = standP n pl wd nu ts ∧ (∀ i, i < n → SpOk n rm (ws i) i (pl i) (wd i) (nu i)) ∧ ts.length ≤ 1000 ∧ TsB ts := by
  have key : ∀ i, ∃ x : Nat × Str × Nat, i < n → sp[i]? = some (spotP x.1 x.2.1 x.2.2) ∧ SpOk n rm (ws i) i x.1 x.2.1 x.2.2 := fun i => by
    by_cases li : i < n
    · have ls := S.ls
      have e := List.getElem?_eq_getElem (l := sp) (i := i) (by omega)
      obtain ⟨p, w, k, ex, so⟩ := (S.sps i _ e).form2 n5.1 (by have := (ok.wys i li).two; omega)
      exact ⟨(p, w, k), fun _ => ⟨by rw [e, ex], so⟩⟩
    · exact ⟨(0, "", 0), fun z => absurd z li⟩
  let F := fun i => Classical.choose (key i)
  have hF : ∀ i, i < n → sp[i]? = some (spotP (F i).1 (F i).2.1 (F i).2.2) ∧ SpOk n rm (ws i) i (F i).1 (F i).2.1 (F i).2.2 := fun i => Classical.choose_spec (key i)
  have tq : ∀ xs : List PV, (∀ y ∈ xs, ∃ q, y = quadP q) → ∃ ts : List (Nat × Nat × Nat × Nat), xs = ts.map quadP := by
    intro xs
    induction xs with
    | nil => intro _; exact ⟨[], rfl⟩
    | cons x xs ih =>
      intro h
      obtain ⟨q, rfl⟩ := h x List.mem_cons_self
      obtain ⟨l, rfl⟩ := ih fun y hy => h y (List.mem_cons_of_mem _ hy)
      exact ⟨q :: l, rfl⟩
  obtain ⟨ts, ets⟩ := tq tk fun y hy => by
    obtain ⟨a, la, rfl⟩ := List.getElem_of_mem hy
    have := S.lt
    obtain ⟨room, i, j, w, _, _, e⟩ := S.tks a _ _ (List.getElem?_eq_getElem (l := tripsP n rm r) (i := a) (by omega)) (List.getElem?_eq_getElem la)
    exact ⟨(room, i, j, w), e⟩
  refine ⟨fun i => (F i).1, fun i => (F i).2.1, fun i => (F i).2.2, ts, ?_, fun i li => (hF i li).2, ?_, fun q hq => ?_⟩
  · unfold standP
    rw [← ets]
    congr 4
    apply List.ext_getElem?
    intro i
    unfold spP
    rw [List.getElem?_map]
    by_cases li : i < n
    · rw [List.getElem?_range li, (hF i li).1]
      rfl
    · have := S.ls
      rw [List.getElem?_eq_none (by omega), List.getElem?_eq_none (by simpa using li)]
      rfl
  · have l1 : ts.length = tk.length := by rw [ets, List.length_map]
    have lb := tripsP_len n rm r
    have lb2 : r * (n * n) ≤ 6 * (5 * 5) := Nat.mul_le_mul r6 (Nat.mul_le_mul n5.2 n5.2)
    have := S.lt
    omega
  · have hy : quadP q ∈ tk := by rw [ets]; exact List.mem_map.mpr ⟨q, hq, rfl⟩
    obtain ⟨a, la, e⟩ := List.getElem_of_mem hy
    have := S.lt
    have ex := List.getElem?_eq_getElem (l := tripsP n rm r) (i := a) (by omega)
    obtain ⟨room, i, j, w, e1, hw, e2⟩ := S.tks a _ _ ex (List.getElem?_eq_getElem la)
    obtain ⟨room2, i2, j2, e3, l1, l2, l3⟩ := tripsP_mem (List.mem_of_getElem? ex)
    rw [e1] at e3
    unfold tripP at e3
    simp only [PV.tup.injEq, List.cons.injEq, PV.int.injEq, and_true] at e3
    rw [e] at e2
    unfold quadP at e2
    simp only [PV.tup.injEq, List.cons.injEq, PV.int.injEq, and_true] at e2
    exact ⟨by omega, by omega, by omega, by omega⟩
end Dn
namespace Dn
open PySem PySem.Spec PyProof.Rows L2 PySem.SeqAt Rw

theorem SpOk.small {n i p k : Nat} {rm : Nat → Room} {st : List (Bool × Nat)} {w : Str} (n5 : n ≤ 5) (S : SpOk n rm st i p w k) : k < 64 ∧ w ∈ (["rest", "go", "hand", "look", "yield", "low"] : List Str) := by
  rcases S.2 with ⟨rfl, _, rfl⟩ | ⟨rfl, rfl⟩ | ⟨room, t, o, _, _, n2, ⟨rfl, lk⟩ | ⟨rfl, lk⟩ | ⟨rfl | rfl, lk, _⟩⟩
  · exact ⟨by omega, by simp⟩
  · exact ⟨by omega, by simp⟩
  · have := evens_len n (t i)
    exact ⟨by omega, by simp⟩
  · exact ⟨by omega, by simp⟩
  · exact ⟨by omega, by simp⟩
  · exact ⟨by omega, by simp⟩
/-- a standing as data -/
theorem stand_da {n r most m : Nat} {rm : Nat → Room} {ws : Nat → List (Bool × Nat)} {pl : Nat → Nat} {wd : Nat → Str} {nu : Nat → Nat} {ts : List (Nat × Nat × Nat × Nat)} (h : PH) (n5 : n ≤ 5) (m24 : most ≤ 24) (ok : HouseOk n r most rm ws) (S : ∀ i, i < n → SpOk n rm (ws i) i (pl i) (wd i) (nu i)) (lt : ts.length ≤ 1000) (B : TsB ts) : Da 16 40000 m h (standP n pl wd nu ts) := by
  have sp : Das 2 190 m h (spP n pl wd nu) := (Das.range (k := 2) (w := 37) fun i li => by
    have few := (ok.wys i li).few
    have l1 := (S i li).1
    obtain ⟨l2, mw⟩ := (S i li).small n5
    exact Da.spot (by omega) (by omega) mw).up (Nat.le_refl _) (by omega)
  have tk : Das 2 33000 m h (ts.map quadP) := (Das.all (w := 32) fun x hx => by
    obtain ⟨q, hq, rfl⟩ := List.mem_map.mp hx
    obtain ⟨a, b, c, d⟩ := B q hq
    exact Da.tup (Das.cons (w1 := 7) (.small (by omega) (by omega) (by omega)) (Das.cons (w1 := 7) (.small (by omega) (by omega) (by omega)) (Das.cons (w1 := 7) (.small (by omega) (by omega) (by omega)) (Das.cons (w1 := 7) (w2 := 0) (.small (by omega) (by omega) (by omega)) .nil (Nat.le_refl _)) (Nat.le_refl _)) (Nat.le_refl _)) (by omega))).up (Nat.le_refl _) (by rw [List.length_map]; omega)
  exact (Da.pair (k := 2) (w := 40000) sp tk (by omega)).up (by omega) (Nat.le_refl _)
/-- same, of these answers -/
theorem exact_inside {n r : Nat} {ws : Nat → List (Bool × Nat)} {pl : Nat → Nat} (h : PH) : Exact 8 h (insideP n r ws pl) ∧ Vl h (insideP n r ws pl) := by
  constructor
  · refine exact_tup (n := 7) fun v hv => ?_
    obtain ⟨room, _, rfl⟩ := List.mem_map.mp hv
    refine exact_tup (n := 6) fun v hv => ?_
    obtain ⟨k, rfl, _⟩ := nats_mem hv
    exact exact_int _
  · have da : ∀ (l : List Nat), ∃ ds, allD (toE h 18) (natsP l) = some ds ∧ strsOA ds = true := by
      intro l
      induction l with
      | nil => exact ⟨[], rfl, rfl⟩
      | cons k l ih =>
        obtain ⟨ds, e, s⟩ := ih
        refine ⟨.int (k : Nat) :: ds, ?_, by simp only [strsOA, strsO, s]; rfl⟩
        show (match toE h 18 (.int (k : Nat)), allD (toE h 18) (natsP l) with
          | some d, some ds => some (d :: ds)
          | _, _ => none) = _
        rw [e]
        rfl
    have db : ∀ (l : List Nat), ∃ ds, allD (toE h 19) (l.map fun room => .tup (natsP (holdersOf n ws pl room))) = some ds ∧ strsOA ds = true := by
      intro l
      induction l with
      | nil => exact ⟨[], rfl, rfl⟩
      | cons k l ih =>
        obtain ⟨ds, e, s⟩ := ih
        obtain ⟨d2, e2, s2⟩ := da (holdersOf n ws pl k)
        refine ⟨.tuple d2 :: ds, ?_, by simp only [strsOA, strsO, s, s2]; rfl⟩
        show (match (allD (toE h 18) (natsP (holdersOf n ws pl k))).map PyData.tuple, allD (toE h 19) (l.map fun room => .tup (natsP (holdersOf n ws pl room))) with
          | some d, some ds => some (d :: ds)
          | _, _ => none) = _
        rw [e, e2]
        rfl
    obtain ⟨ds, e, s⟩ := db (List.range r)
    refine ⟨.tuple ds, ?_, by simpa only [strsO] using s⟩
    show (allD (toE h 19) ((List.range r).map fun room => .tup (natsP (holdersOf n ws pl room)))).map PyData.tuple = _
    rw [e]
    rfl
theorem exact_tok (h : PH) (ts : List (Nat × Nat × Nat × Nat)) (room a b : Nat) : Exact 8 h (tokOf ts room a b) ∧ Vl h (tokOf ts room a b) := by
  unfold tokOf
  split
  · exact ⟨exact_int _, ⟨.int _, rfl, rfl⟩⟩
  · exact ⟨exact_non, ⟨.none, rfl, rfl⟩⟩
theorem exact_flag (h : PH) (st : List (Bool × Nat)) (p : Nat) (w : Str) (room : Nat) : Exact 8 h (.str (flagOf st p w room)) ∧ Vl h (.str (flagOf st p w room)) := by
  refine ⟨exact_str _, ⟨.str _, rfl, ?_⟩⟩
  simp only [strsO]
  unfold flagOf
  split
  · decide +kernel
  · split
    · decide +kernel
    · split <;> decide +kernel
end Dn
namespace Dn
open PySem PySem.Spec PyProof.Rows L2 PySem.SeqAt Rw

def lgO (p : Int × Int) (h : PH) : Out PV := if rgOk p then .ok (.ref h.length) (h ++ [.lst (rgP p.1 p.2)]) else .no
theorem eLstRg_ap (f : DRg) (s : Sl) (h : PH) : eLstRg f s h = (f s h).bind fun p h => lgO p h := rfl
theorem lgO_nat {n : Nat} {h : PH} (l : n ≤ 1000) : lgO (0, ((n : Nat) : Int)) h = .ok (.ref h.length) (h ++ [.lst (natsP (List.range n))]) := by
  have e : rgP 0 ((n : Nat) : Int) = natsP (List.range n) := by
    unfold rgP natsP
    simp
  unfold lgO
  rw [if_pos (show rgOk (0, ((n : Nat) : Int)) = true from decide_eq_true ⟨by omega, by omega, by show (0 : Int) ≤ n; omega, by show ((n : Nat) : Int) ≤ 16777216; omega⟩)]
  show Out.ok (PV.ref h.length) (h ++ [MO.lst (rgP 0 ((n : Nat) : Int))]) = _
  rw [e]
end Dn
namespace Dn
open PySem PySem.Spec PyProof.Rows L2 PySem.SeqAt Rw

/-- plain data of depth n at most: None, bools, numbers, texts, tuples of such -/
inductive Pn : Nat → PV → Prop
  | non {n : Nat} : Pn n .non
  | bl {n : Nat} (b : Bool) : Pn n (.bl b)
  | int {n : Nat} (i : Int) : Pn n (.int i)
  | str {n : Nat} {x : Str} (h : PyData.strOk x = true) : Pn n (.str x)
  | tup {n : Nat} {xs : List PV} (h : ∀ x ∈ xs, Pn n x) : Pn (n + 1) (.tup xs)
theorem Pn.toE {h : PH} : ∀ {n : Nat} {v : PV}, Pn n v → ∀ k, n < k → ∃ d, toE h k v = some d ∧ strsO d = true := by
  intro n v p
  induction p with
  | non => intro k l; cases k with
    | zero => omega
    | succ k => exact ⟨.none, rfl, rfl⟩
  | bl b => intro k l; cases k with
    | zero => omega
    | succ k => exact ⟨.bool b, rfl, rfl⟩
  | int i => intro k l; cases k with
    | zero => omega
    | succ k => exact ⟨.int i, rfl, rfl⟩
  | @str n x q => intro k l; cases k with
    | zero => omega
    | succ k => exact ⟨.str x, rfl, by simpa only [strsO] using q⟩
  | @tup n xs q ih =>
    intro k l
    cases k with
    | zero => omega
    | succ k =>
      have key : ∀ ys : List PV, (∀ y ∈ ys, y ∈ xs) → ∃ ds, allD (Dn.toE h k) ys = some ds ∧ strsOA ds = true := by
        intro ys
        induction ys with
        | nil => intro _; exact ⟨[], rfl, rfl⟩
        | cons y ys ih2 =>
          intro sub
          obtain ⟨d, e1, s1⟩ := ih y (sub y List.mem_cons_self) k (by omega)
          obtain ⟨ds, e2, s2⟩ := ih2 fun z hz => sub z (List.mem_cons_of_mem _ hz)
          refine ⟨d :: ds, ?_, by simp only [strsOA, s1, s2]; rfl⟩
          show (match Dn.toE h k y, allD (Dn.toE h k) ys with
            | some d, some ds => some (d :: ds)
            | _, _ => none) = _
          rw [e1, e2]
      obtain ⟨ds, e, s⟩ := key xs fun _ h => h
      refine ⟨.tuple ds, ?_, by simpa only [strsO] using s⟩
      show (allD (Dn.toE h k) xs).map PyData.tuple = _
      rw [e]
      rfl
theorem Pn.vl {h : PH} {n : Nat} {v : PV} (p : Pn n v) (l : n < 16) : Vl h v := p.toE _ (by omega)
theorem Pn.up {n m : Nat} {v : PV} (p : Pn n v) (l : n ≤ m) : Pn m v := by
  induction p generalizing m with
  | non => exact .non
  | bl b => exact .bl b
  | int i => exact .int i
  | str q => exact .str q
  | tup q ih =>
    cases m with
    | zero => omega
    | succ m => exact .tup fun x hx => ih x hx (by omega)
theorem Pn.nats {n : Nat} (l : List Nat) : Pn (n + 1) (.tup (natsP l)) := .tup fun x hx => by
  obtain ⟨k, rfl, _⟩ := nats_mem hx
  exact .int _
theorem Pn.pair {n : Nat} {x y : PV} (a : Pn n x) (b : Pn n y) : Pn (n + 1) (.tup [x, y]) := .tup fun z hz => by
  simp only [List.mem_cons, List.not_mem_nil, or_false] at hz
  rcases hz with rfl | rfl
  · exact a
  · exact b
theorem Pn.three {n : Nat} {x y w : PV} (a : Pn n x) (b : Pn n y) (c : Pn n w) : Pn (n + 1) (.tup [x, y, w]) := .tup fun z hz => by
  simp only [List.mem_cons, List.not_mem_nil, or_false] at hz
  rcases hz with rfl | rfl | rfl
  · exact a
  · exact b
  · exact c
theorem Pn.four {n : Nat} {x y w u : PV} (a : Pn n x) (b : Pn n y) (c : Pn n w) (d : Pn n u) : Pn (n + 1) (.tup [x, y, w, u]) := .tup fun z hz => by
  simp only [List.mem_cons, List.not_mem_nil, or_false] at hz
  rcases hz with rfl | rfl | rfl | rfl
  · exact a
  · exact b
  · exact c
  · exact d
theorem Pn.lowr {n m : Nat} {v : PV} (p : Pn n v) : v.lowr m = true := by
  induction p with
  | tup q ih => exact lowrs_iff.mpr fun x hx => ih x hx
  | _ => rfl
section
variable {n r most : Nat} {rm : Nat → Room} {ws : Nat → List (Bool × Nat)} {pl : Nat → Nat} {wd : Nat → Str} {nu : Nat → Nat} {ts : List (Nat × Nat × Nat × Nat)}
theorem spw_ok {w : Str} (h : w ∈ (["rest", "go", "hand", "look", "yield", "low"] : List Str)) : PyData.strOk w = true := by
  simp only [List.mem_cons, List.not_mem_nil, or_false] at h
  rcases h with rfl | rfl | rfl | rfl | rfl | rfl <;> decide +kernel
theorem Pn.stand (n5 : n ≤ 5) (S : ∀ i, i < n → SpOk n rm (ws i) i (pl i) (wd i) (nu i)) : Pn 3 (standP n pl wd nu ts) :=
  .pair (.tup fun x hx => by
    obtain ⟨i, hi, rfl⟩ := List.mem_map.mp hx
    exact .three (.int _) (.str (spw_ok ((S i (by simpa using hi)).small n5).2)) (.int _)) (.tup fun x hx => by
    obtain ⟨q, _, rfl⟩ := List.mem_map.mp hx
    exact .four (.int _) (.int _) (.int _) (.int _))
end
end Dn
namespace Dn
open PySem PySem.Spec PyProof.Rows L2 PySem.SeqAt Rw
theorem isNon_bl (b : Bool) : isNon (.bl b) = false := rfl
theorem opIs_bl (a b : Bool) (h : PH) : opIs (.bl a) (.bl b) h = some (.bl (decide (a = b)), h) := rfl
def dnev_11 := And.intro @opIn_str2 (And.intro @opIn_str3 (And.intro @opEq_non_int (And.intro @args0_5 (And.intro @iZipP_ap (And.intro @zipV_tup (And.intro @eLstRg_ap (And.intro @isNon_bl (@opIs_bl))))))))
/-- same, of a plain value and itself -/
theorem self_bl {n : Nat} {h : PH} (b : Bool) : m__law_same (n + 1) [.bl b, .bl b] h = .ok (.bl true) h := by
  refine eq_of_wO (wO_mk (show [PV.bl b, PV.bl b].length = 2 from rfl) ?_)
  cases b with
  | true =>
    simp -dsimp -implicitDefEqProofs only [Out.bind_ok, Out.bind_err, Out.bind_no, dnev_1, dnev_2, dnev_3, dnev_4, List.getElem?_cons_zero, List.getElem?_cons_succ, List.set_cons_zero, List.set_cons_succ, decide_true, decide_false, Bool.not_false, Bool.not_true, Bool.not_not, List.cons_append, List.nil_append, dnev_5, dnev_6, get_last, set_last, dnev_7, dnev_8, dnev_9, dnev_10, dnev_11, dnif_1, dnw_1, true_imp_iff, not_true_eq_false, false_imp_iff, and_true, true_and, dnw_2, g__law_same]
    exact gc_same ⟨rfl, rfl⟩
  | false =>
    simp -dsimp -implicitDefEqProofs only [Out.bind_ok, Out.bind_err, Out.bind_no, dnev_1, dnev_2, dnev_3, dnev_4, List.getElem?_cons_zero, List.getElem?_cons_succ, List.set_cons_zero, List.set_cons_succ, decide_true, decide_false, Bool.not_false, Bool.not_true, Bool.not_not, List.cons_append, List.nil_append, dnev_5, dnev_6, get_last, set_last, dnev_7, dnev_8, dnev_9, dnev_10, dnev_11, dnif_1, dnw_1, true_imp_iff, not_true_eq_false, false_imp_iff, and_true, true_and, dnw_2, g__law_same]
    exact gc_same ⟨rfl, rfl⟩
theorem self_tup {n : Nat} {h : PH} {ys : List PV} (ey : ∀ v ∈ ys, m__law_same n [v, v] h = .ok (.bl true) h) : m__law_same (n + 1) [.tup ys, .tup ys] h = .ok (.bl true) h := by
  refine eq_of_wO (wO_mk (show [PV.tup ys, PV.tup ys].length = 2 from rfl) ?_)
  have lc : decide (((ys.length : Nat) : Int) = ((ys.length : Nat) : Int)) = true := decide_eq_true rfl
  simp -dsimp -implicitDefEqProofs only [Out.bind_ok, Out.bind_err, Out.bind_no, dnev_1, dnev_2, dnev_3, dnev_4, List.getElem?_cons_zero, List.getElem?_cons_succ, List.set_cons_zero, List.set_cons_succ, decide_true, decide_false, Bool.not_false, Bool.not_true, Bool.not_not, List.cons_append, List.nil_append, dnev_5, dnev_6, get_last, set_last, dnev_7, dnev_8, dnev_9, dnev_10, dnev_11, dnif_1, dnw_1, true_imp_iff, not_true_eq_false, false_imp_iff, and_true, true_and, dnw_2, g__law_same, Bool.not_true, Bool.not_false, lc]
  refine for_ww (fun i sl h' => ∃ x2 x3, sl = [some (.tup ys), some (.tup ys), x2, x3] ∧ h' = h)
    ⟨none, none, rfl, rfl⟩ (fun _ _ _ _ => rfl) (fun i x hx sl h' ⟨x2, x3, esl, eh⟩ => ?_) fun sl h' ⟨x2, x3, esl, eh⟩ => ?_
  · subst esl
    subst eh
    obtain ⟨li, rfl⟩ := enum_at hx
    have at_ : atI ys ((i : Nat) : Int) = some ys[i] := atI_nat (List.getElem?_eq_getElem li)
    have es := ey ys[i] (List.getElem_mem li)
    refine ⟨_, rfl, ?_⟩
    simp -dsimp -implicitDefEqProofs only [Out.bind_ok, Out.bind_err, Out.bind_no, dnev_1, dnev_2, dnev_3, dnev_4, List.getElem?_cons_zero, List.getElem?_cons_succ, List.set_cons_zero, List.set_cons_succ, decide_true, decide_false, Bool.not_false, Bool.not_true, Bool.not_not, List.cons_append, List.nil_append, dnev_5, dnev_6, get_last, set_last, dnev_7, dnev_8, dnev_9, dnev_10, dnev_11, dnif_1, dnw_1, true_imp_iff, not_true_eq_false, false_imp_iff, and_true, true_and, dnw_2, at_, es, Bool.not_true]
    exact ⟨_, _, rfl⟩
  · subst esl
    subst eh
    simp -dsimp -implicitDefEqProofs only [Out.bind_ok, Out.bind_err, Out.bind_no, dnev_1, dnev_2, dnev_3, dnev_4, List.getElem?_cons_zero, List.getElem?_cons_succ, List.set_cons_zero, List.set_cons_succ, decide_true, decide_false, Bool.not_false, Bool.not_true, Bool.not_not, List.cons_append, List.nil_append, dnev_5, dnev_6, get_last, set_last, dnev_7, dnev_8, dnev_9, dnev_10, dnev_11, dnif_1, dnw_1, true_imp_iff, not_true_eq_false, false_imp_iff, and_true, true_and, dnw_2]
    exact gc_same ⟨rfl, rfl⟩
theorem Pn.self {h : PH} : ∀ {n : Nat} {v : PV}, Pn n v → ∀ m, n < m → m__law_same m [v, v] h = .ok (.bl true) h := by
  intro n v p
  have ex : ∀ {m : Nat} {v : PV}, Exact m h v → Vl h v → m__law_same m [v, v] h = .ok (.bl true) h := fun {m v} e l => by
    have := e v l
    rwa [decide_eq_true rfl] at this
  induction p with
  | non => intro m l; cases m with
    | zero => omega
    | succ m => exact ex exact_non (Pn.vl (n := 0) .non (by omega))
  | bl b => intro m l; cases m with
    | zero => omega
    | succ m => exact self_bl b
  | int i => intro m l; cases m with
    | zero => omega
    | succ m => exact ex (exact_int i) (Pn.vl (n := 0) (.int i) (by omega))
  | str q => intro m l; cases m with
    | zero => omega
    | succ m => exact ex (exact_str _) (Pn.vl (n := 0) (.str q) (by omega))
  | tup q ih => intro m l; cases m with
    | zero => omega
    | succ m => exact self_tup fun v hv => ih v hv m (by omega)
theorem Pn.same {h : PH} {n : Nat} {v : PV} (p : Pn n v) (l : n < 8) : m__law_same 8 [v, v] h = .ok (.bl true) h := p.self 8 l
end Dn
namespace Dn
open PySem PySem.Spec PyProof.Rows L2 PySem.SeqAt Rw

/-- how many even ones hand i has at the room that its step enters -/
def evLen (n : Nat) (rm : Nat → Room) (st : List (Bool × Nat)) (i p : Nat) : Nat := match st[p]? with
  | some (true, room) => (match rm room with
    | some (t, _) => (evensOf n (t i)).length
    | none => 0)
  | _ => 0
theorem evLen_at {n i p room : Nat} {rm : Nat → Room} {st : List (Bool × Nat)} {t : Nat → Nat → Str} {o : Nat → List Nat} (es : st[p]? = some (true, room)) (er : rm room = some (t, o)) : evLen n rm st i p = (evensOf n (t i)).length := by
  unfold evLen
  rw [es]
  dsimp only
  rw [er]
abbrev T3 (p : Nat) (w : Str) (k : Nat) : Nat × Str × Nat := (p, w, k)
/-- the spot behind a step that x tells -/
def behOf (n : Nat) (rm : Nat → Room) (st : List (Bool × Nat)) (i p k : Nat) (x : PV) : Nat × Str × Nat := match x with
  | .str s => if s = "begin" then T3 0 "go" 0 else if s = "enter" ∨ s = "leave" then (if p + 1 < st.length then T3 (p + 1) "go" 0 else T3 0 "rest" 0)
    else if s = "raise" ∨ s = "hand" then (if (if s = "hand" then k + 1 else 0) < evLen n rm st i p then T3 p "hand" (if s = "hand" then k + 1 else 0) else T3 p "look" 0)
    else if s = "look" then T3 p "look" (k + 1) else if s = "yield" then T3 p "yield" k else if s = "lower" then T3 p "low" k else T3 p "go" 0
  | _ => T3 0 "" 0
section
variable {n i p k : Nat} {rm : Nat → Room} {st : List (Bool × Nat)}
theorem beh_begin : behOf n rm st i p k (.str "begin") = T3 0 "go" 0 := by
  unfold behOf
  dsimp only
  rw [if_pos rfl]
theorem beh_on {s : Str} (h : s = "enter" ∨ s = "leave") : behOf n rm st i p k (.str s) = if p + 1 < st.length then T3 (p + 1) "go" 0 else T3 0 "rest" 0 := by
  have a : ¬ s = "begin" := by rcases h with rfl | rfl <;> decide +kernel
  exact (if_neg a).trans (if_pos h)
theorem beh_raise {s : Str} (h : s = "raise" ∨ s = "hand") : behOf n rm st i p k (.str s) = if (if s = "hand" then k + 1 else 0) < evLen n rm st i p then T3 p "hand" (if s = "hand" then k + 1 else 0) else T3 p "look" 0 := by
  have a : ¬ s = "begin" := by rcases h with rfl | rfl <;> decide +kernel
  have b : ¬ (s = "enter" ∨ s = "leave") := by rcases h with rfl | rfl <;> decide +kernel
  exact ((if_neg a).trans (if_neg b)).trans (if_pos h)
theorem beh_look : behOf n rm st i p k (.str "look") = T3 p "look" (k + 1) := by
  have a0 : ¬ ("look" : Str) = "begin" := by decide +kernel
  have a1 : ¬ (("look" : Str) = "enter" ∨ ("look" : Str) = "leave") := by decide +kernel
  have a2 : ¬ (("look" : Str) = "raise" ∨ ("look" : Str) = "hand") := by decide +kernel
  unfold behOf
  dsimp only
  rw [if_neg a0, if_neg a1, if_neg a2, if_pos rfl]
theorem beh_yield : behOf n rm st i p k (.str "yield") = T3 p "yield" k := by
  have a0 : ¬ ("yield" : Str) = "begin" := by decide +kernel
  have a1 : ¬ (("yield" : Str) = "enter" ∨ ("yield" : Str) = "leave") := by decide +kernel
  have a2 : ¬ (("yield" : Str) = "raise" ∨ ("yield" : Str) = "hand") := by decide +kernel
  have a3 : ¬ ("yield" : Str) = "look" := by decide +kernel
  unfold behOf
  dsimp only
  rw [if_neg a0, if_neg a1, if_neg a2, if_neg a3, if_pos rfl]
theorem beh_lower : behOf n rm st i p k (.str "lower") = T3 p "low" k := by
  have a0 : ¬ ("lower" : Str) = "begin" := by decide +kernel
  have a1 : ¬ (("lower" : Str) = "enter" ∨ ("lower" : Str) = "leave") := by decide +kernel
  have a2 : ¬ (("lower" : Str) = "raise" ∨ ("lower" : Str) = "hand") := by decide +kernel
  have a3 : ¬ ("lower" : Str) = "look" := by decide +kernel
  have a4 : ¬ ("lower" : Str) = "yield" := by decide +kernel
  unfold behOf
  dsimp only
  rw [if_neg a0, if_neg a1, if_neg a2, if_neg a3, if_neg a4, if_pos rfl]
theorem beh_see : behOf n rm st i p k (.str "see") = T3 p "go" 0 := by
  have a0 : ¬ ("see" : Str) = "begin" := by decide +kernel
  have a1 : ¬ (("see" : Str) = "enter" ∨ ("see" : Str) = "leave") := by decide +kernel
  have a2 : ¬ (("see" : Str) = "raise" ∨ ("see" : Str) = "hand") := by decide +kernel
  have a3 : ¬ ("see" : Str) = "look" := by decide +kernel
  have a4 : ¬ ("see" : Str) = "yield" := by decide +kernel
  have a5 : ¬ ("see" : Str) = "lower" := by decide +kernel
  unfold behOf
  dsimp only
  rw [if_neg a0, if_neg a1, if_neg a2, if_neg a3, if_neg a4, if_neg a5]
end
section
variable {n r most : Nat} {rm : Nat → Room} {ws : Nat → List (Bool × Nat)} {pl : Nat → Nat} {wd : Nat → Str} {nu : Nat → Nat} {ts : List (Nat × Nat × Nat × Nat)} {h : PH}
end
end Dn
namespace Dn
open PySem PySem.Spec PyProof.Rows L2 PySem.SeqAt Rw

def tokF (room mn mx v : Nat) (q : Nat × Nat × Nat × Nat) : Nat × Nat × Nat × Nat := if q.1 = room ∧ q.2.1 = mn ∧ q.2.2.1 = mx then (room, mn, mx, v) else q
/-- the tokens behind hand i's step -/
def stepTs (n : Nat) (rm : Nat → Room) (st : List (Bool × Nat)) (i p : Nat) (w : Str) (k : Nat) (ts : List (Nat × Nat × Nat × Nat)) : List (Nat × Nat × Nat × Nat) := if w = "hand" then (match st[p]? with
  | some (true, room) => (match rm room with
    | some (t, _) => ts.map (tokF room (min i ((evensOf n (t i)).getD k 0)) (max i ((evensOf n (t i)).getD k 0)) ((evensOf n (t i)).getD k 0))
    | none => ts)
  | _ => ts) else ts
theorem stepTs_no {n i p k : Nat} {rm : Nat → Room} {st : List (Bool × Nat)} {w : Str} {ts : List (Nat × Nat × Nat × Nat)} (h : ¬ w = "hand") : stepTs n rm st i p w k ts = ts := if_neg h
theorem stepTs_at {n i p k room v : Nat} {rm : Nat → Room} {st : List (Bool × Nat)} {w : Str} {ts : List (Nat × Nat × Nat × Nat)} {t : Nat → Nat → Str} {o : Nat → List Nat} (h : w = "hand") (es : st[p]? = some (true, room)) (er : rm room = some (t, o)) (hv : (evensOf n (t i))[k]? = some v) : stepTs n rm st i p w k ts = ts.map (tokF room (min i v) (max i v) v) := by
  unfold stepTs
  rw [if_pos h, es]
  dsimp only
  rw [er]
  dsimp only
  rw [List.getD_eq_getElem?_getD, hv]
  rfl
section
variable {n r most : Nat} {rm : Nat → Room} {ws : Nat → List (Bool × Nat)} {pl : Nat → Nat} {wd : Nat → Str} {nu : Nat → Nat} {ts : List (Nat × Nat × Nat × Nat)} {h : PH}
/-- the standing behind hand i's step -/
noncomputable def stP (n : Nat) (rm : Nat → Room) (ws : Nat → List (Bool × Nat)) (pl : Nat → Nat) (wd : Nat → Str) (nu : Nat → Nat) (ts : List (Nat × Nat × Nat × Nat)) (i : Nat) : PV :=
  standP n (putF pl i (behOf n rm (ws i) i (pl i) (nu i) (nextP n rm ws pl wd nu ts i)).1) (putF wd i (behOf n rm (ws i) i (pl i) (nu i) (nextP n rm ws pl wd nu ts i)).2.1) (putF nu i (behOf n rm (ws i) i (pl i) (nu i) (nextP n rm ws pl wd nu ts i)).2.2) (stepTs n rm (ws i) i (pl i) (wd i) (nu i) ts)
end
end Dn
namespace Dn
open PySem PySem.Spec PyProof.Rows L2 PySem.SeqAt Rw

/-! ### the program's next step -/
section
variable {n r most : Nat} {rm : Nat → Room} {ws : Nat → List (Bool × Nat)} {pl : Nat → Nat} {wd : Nat → Str} {nu : Nat → Nat} {ts : List (Nat × Nat × Nat × Nat)} {h : PH}
theorem rooms_ix {room : Nat} (lr : room < r) (h : PH) : opIx (.tup (roomsP n r rm)) (.int room) h = some (roomP n (rm room), h) := by
  show (atI (roomsP n r rm) room).map _ = _
  rw [rooms_at rm lr]
  rfl
/-- the tokens stand for even pairs -/
def TsK (n : Nat) (rm : Nat → Room) (ts : List (Nat × Nat × Nat × Nat)) : Prop := ∀ q ∈ ts, q.2.1 < q.2.2.1 ∧ q.2.2.1 < n ∧ ∃ t o, rm q.1 = some (t, o) ∧ t q.2.1 q.2.2.1 = "even"
theorem TsK.even {room i z : Nat} {t : Nat → Nat → Str} {o : Nat → List Nat} (K : TsK n rm ts) (dk : DoorOk n t o) (er : rm room = some (t, o)) (li : i < n) (lz : z < n) (ne : i ≠ z) (e : tokOf ts room (min i z) (max i z) = .int (i : Nat)) : t i z = "even" := by
  unfold tokOf at e
  split at e
  · rename_i q hq
    have m := List.mem_of_find?_eq_some hq
    have p : q.1 = room ∧ q.2.1 = min i z ∧ q.2.2.1 = max i z := by simpa using List.find?_some hq
    obtain ⟨a, b, t', o', er', ev⟩ := K q m
    rw [p.1, er] at er'
    cases er'
    rw [p.2.1, p.2.2] at ev
    by_cases l : i < z
    · rw [Nat.min_eq_left (by omega), Nat.max_eq_right (by omega)] at ev
      exact ev
    · rw [Nat.min_eq_right (by omega), Nat.max_eq_left (by omega)] at ev
      exact (dk.wrd i z li lz ne).2.mpr ev
  · cases e
end
end Dn
namespace Dn
open PySem PySem.Spec PyProof.Rows L2 PySem.SeqAt Rw

/-! ### the program's standing behind a step -/
section
variable {n r most : Nat} {rm : Nat → Room} {ws : Nat → List (Bool × Nat)} {pl : Nat → Nat} {wd : Nat → Str} {nu : Nat → Nat} {ts : List (Nat × Nat × Nat × Nat)} {h : PH}
theorem str_ne {a b : Str} (h : a ≠ b) : PV.str a ≠ PV.str b := fun e => h (PV.str.inj e)
theorem begin_0 {i : Nat} (S : SpOk n rm (ws i) i (pl i) (wd i) (nu i)) (e : nextP n rm ws pl wd nu ts i = .str "begin") : pl i = 0 := by
  rcases S.2 with ⟨_, z, _⟩ | ⟨w, _⟩ | ⟨room, t, o, es, er, n2, q⟩
  · exact z
  all_goals exfalso
  · have n1 : ¬ (wd i = "rest") := by rw [w]; decide +kernel
    unfold nextP at e
    rw [if_neg n1] at e
    repeat' split at e
    all_goals first | exact absurd e (str_ne (by decide +kernel)) | cases e
  · have n1 : ¬ (wd i = "rest") := by
      rcases q with ⟨w, _⟩ | ⟨w, _⟩ | ⟨w | w, _⟩ <;> (rw [w]; decide +kernel)
    unfold nextP at e
    rw [if_neg n1] at e
    repeat' split at e
    all_goals first | exact absurd e (str_ne (by decide +kernel)) | cases e
end
end Dn
namespace Dn
open PySem PySem.Spec PyProof.Rows L2 PySem.SeqAt Rw

section
variable {n r most : Nat} {rm : Nat → Room} {ws : Nat → List (Bool × Nat)} {pl : Nat → Nat} {wd : Nat → Str} {nu : Nat → Nat} {ts : List (Nat × Nat × Nat × Nat)} {h : PH}
theorem hand_iff {i : Nat} (S : SpOk n rm (ws i) i (pl i) (wd i) (nu i)) : nextP n rm ws pl wd nu ts i = .str "hand" ↔ wd i = "hand" := by
  have n0 : ¬ (("hand" : Str) = "rest") := by decide +kernel
  constructor
  · intro e
    by_cases w : wd i = "hand"
    · exact w
    exfalso
    unfold nextP at e
    rw [if_neg w] at e
    repeat' split at e
    all_goals first | exact absurd e (str_ne (by decide +kernel)) | cases e
  · intro w
    unfold nextP
    rw [w, if_neg n0, if_pos rfl]
theorem hand_at {i : Nat} (S : SpOk n rm (ws i) i (pl i) (wd i) (nu i)) (ew : wd i = "hand") : ∃ room t o, (ws i)[pl i]? = some (true, room) ∧ rm room = some (t, o) ∧ 2 ≤ n ∧ nu i < (evensOf n (t i)).length := by
  rcases S.2 with ⟨e, _⟩ | ⟨e, _⟩ | ⟨room, t, o, es, er, n2, ⟨_, lk⟩ | ⟨e, _⟩ | ⟨e | e, _⟩⟩
  · exact absurd (ew.symm.trans e) (by decide +kernel)
  · exact absurd (ew.symm.trans e) (by decide +kernel)
  · exact ⟨room, t, o, es, er, n2, lk⟩
  · exact absurd (ew.symm.trans e) (by decide +kernel)
  · exact absurd (ew.symm.trans e) (by decide +kernel)
  · exact absurd (ew.symm.trans e) (by decide +kernel)
theorem tok_map {room mn mx v : Nat} : ((ts.map quadP).filter fun _ => true).map (fun x => match x with | .tup [.int a, .int b, .int c, .int d] => quadP (tokF room mn mx v (a.toNat, b.toNat, c.toNat, d.toNat)) | x => x) = (ts.map (tokF room mn mx v)).map quadP := by
  rw [filter_true, List.map_map, List.map_map]
  rfl
theorem cut_set {xs : List PV} {x : PV} {i : Nat} (l : i < xs.length) : xs.take i ++ [x] ++ xs.drop (i + 1) = xs.set i x := by
  rw [List.set_eq_take_append_cons_drop, if_pos l]
  simp
end
end Dn
namespace Dn
open PySem PySem.Spec PyProof.Rows L2 PySem.SeqAt Rw

section
variable {n r most : Nat} {rm : Nat → Room} {ws : Nat → List (Bool × Nat)} {pl : Nat → Nat} {wd : Nat → Str} {nu : Nat → Nat} {ts : List (Nat × Nat × Nat × Nat)} {h : PH}
/-- the room and the hand that a barred one waits for -/
def waitRoom (ws : Nat → List (Bool × Nat)) (pl : Nat → Nat) (i : Nat) : Nat := match (ws i)[pl i]? with
  | some (_, room) => room
  | none => 0
open Classical in
noncomputable def waitFor (n : Nat) (rm : Nat → Room) (ws : Nat → List (Bool × Nat)) (pl : Nat → Nat) (wd : Nat → Str) (nu : Nat → Nat) (i : Nat) : Nat := if wd i = "go" then (holdersOf n ws pl (waitRoom ws pl i)).headD 0 else match rm (waitRoom ws pl i) with
  | some q => (q.2 i).getD (nu i) 0
  | none => 0
noncomputable def waitP (n : Nat) (rm : Nat → Room) (ws : Nat → List (Bool × Nat)) (pl : Nat → Nat) (wd : Nat → Str) (nu : Nat → Nat) (i : Nat) : PV := .tup [.int i, .int (waitRoom ws pl i), .int (waitFor n rm ws pl wd nu i)]
noncomputable def barredL (n : Nat) (rm : Nat → Room) (ws : Nat → List (Bool × Nat)) (pl : Nat → Nat) (wd : Nat → Str) (nu : Nat → Nat) (ts : List (Nat × Nat × Nat × Nat)) (m : Nat) : List PV := ((List.range m).filter fun i => isNon (nextP n rm ws pl wd nu ts i)).map (waitP n rm ws pl wd nu)
theorem barredL_succ (m : Nat) : barredL n rm ws pl wd nu ts (m + 1) = if isNon (nextP n rm ws pl wd nu ts m) = true then barredL n rm ws pl wd nu ts m ++ [waitP n rm ws pl wd nu m] else barredL n rm ws pl wd nu ts m := by
  unfold barredL
  rw [List.range_succ, List.filter_append]
  split
  · rename_i q
    simp [q]
  · rename_i q
    simp [q]
theorem barredL_len (m : Nat) : (barredL n rm ws pl wd nu ts m).length ≤ m := by
  unfold barredL
  rw [List.length_map]
  have := List.length_filter_le (fun i => isNon (nextP n rm ws pl wd nu ts i)) (List.range m)
  simpa using this
theorem lowrs_barred (k m : Nat) : PV.lowrs k (barredL n rm ws pl wd nu ts m) = true := lowrs_iff.mpr fun y hy => by
  obtain ⟨i, _, rfl⟩ := List.mem_map.mp hy
  rfl
/-- what is so where a hand is barred -/
theorem non_inv {i : Nat} (ok : HouseOk n r most rm ws) (S : SpOk n rm (ws i) i (pl i) (wd i) (nu i)) (li : i < n) (e : nextP n rm ws pl wd nu ts i = .non) :
    ∃ room, (ws i)[pl i]? = some (true, room) ∧ waitRoom ws pl i = room ∧ room < r ∧ ((wd i = "go" ∧ ∃ x xs, holdersOf n ws pl room = x :: xs ∧ waitFor n rm ws pl wd nu i = x) ∨ (¬ wd i = "go" ∧ ∃ t o, rm room = some (t, o) ∧ (o i)[nu i]? = some (waitFor n rm ws pl wd nu i) ∧ waitFor n rm ws pl wd nu i < n)) := by
  have lp := S.1
  obtain ⟨b, room, hs⟩ : ∃ b room, (ws i)[pl i] = (b, room) := ⟨_, _, rfl⟩
  have es : (ws i)[pl i]? = some (b, room) := by rw [List.getElem?_eq_getElem lp, hs]
  have lr : room < r := (ok.wys i li).low (b, room) (List.mem_of_getElem? es)
  have wr : waitRoom ws pl i = room := by unfold waitRoom; rw [es]
  rcases S.2 with ⟨w, _⟩ | ⟨w, _⟩ | ⟨room', t, o, es', er, n2, q⟩
  · unfold nextP at e
    rw [if_pos w] at e
    cases e
  · have n1 : ¬ (wd i = "rest") := by rw [w]; decide +kernel
    have n2 : ¬ (wd i = "hand") := by rw [w]; decide +kernel
    have n3 : ¬ (wd i = "yield") := by rw [w]; decide +kernel
    unfold nextP at e
    rw [if_neg n1, if_neg n2, if_neg n3, es] at e
    dsimp only at e
    rw [if_pos w] at e
    split at e
    · cases e
    · rename_i hb
      split at e
      · split at e
        · cases e
        · rename_i hh
          have hb' : b = true := by simpa using hb
          subst hb'
          obtain ⟨x, xs, ex⟩ := List.exists_cons_of_ne_nil hh
          exact ⟨room, es, wr, lr, .inl ⟨w, x, xs, ex, by unfold waitFor; rw [if_pos w, wr, ex]; rfl⟩⟩
      · cases e
  · rw [es] at es'
    cases es'
    have ng : ¬ (wd i = "go") := by rcases q with ⟨w, _⟩ | ⟨w, _⟩ | ⟨w | w, _⟩ <;> (rw [w]; decide +kernel)
    have dk := ok.rms room lr _ er
    have wf : waitFor n rm ws pl wd nu i = (o i).getD (nu i) 0 := by
      unfold waitFor
      rw [if_neg ng, wr, er]
    refine ⟨room, es, wr, lr, .inr ⟨ng, t, o, er, ?_⟩⟩
    have lk : nu i < n - 1 := by
      rcases q with ⟨w, _⟩ | ⟨w, lk⟩ | ⟨w | w, lk, _⟩
      · unfold nextP at e
        rw [if_neg (by rw [w]; decide +kernel), if_pos w] at e
        cases e
      · exact lk
      · exact lk
      · exact lk
    rw [wf]
    exact ord_at dk li lk
end
end Dn
namespace Dn
open PySem PySem.Spec PyProof.Rows L2 PySem.SeqAt Rw

section
variable {n r most : Nat} {rm : Nat → Room} {ws : Nat → List (Bool × Nat)} {pl : Nat → Nat} {wd : Nat → Str} {nu : Nat → Nat} {ts : List (Nat × Nat × Nat × Nat)} {h : PH}
end
end Dn
namespace Dn
open PySem PySem.Spec PyProof.Rows L2 PySem.SeqAt Rw

section
variable {n r most : Nat} {rm : Nat → Room} {ws : Nat → List (Bool × Nat)} {pl : Nat → Nat} {wd : Nat → Str} {nu : Nat → Nat} {ts : List (Nat × Nat × Nat × Nat)} {h : PH}
/-! ### what a step keeps -/
/-- a standing that steps may begin with: its spots and its tokens -/
structure StOk (n : Nat) (rm : Nat → Room) (ws : Nat → List (Bool × Nat)) (pl : Nat → Nat) (wd : Nat → Str) (nu : Nat → Nat) (ts : List (Nat × Nat × Nat × Nat)) : Prop where
  S : ∀ i, i < n → SpOk n rm (ws i) i (pl i) (wd i) (nu i)
  lt : ts.length ≤ 1000
  B : TsB ts
  K : TsK n rm ts
theorem tsK_step {i p k : Nat} {st : List (Bool × Nat)} {w : Str} (K : TsK n rm ts) : TsK n rm (stepTs n rm st i p w k ts) := by
  have key : ∀ room mn mx v, TsK n rm (ts.map (tokF room mn mx v)) := fun room mn mx v q hq => by
    obtain ⟨p, hp, rfl⟩ := List.mem_map.mp hq
    have z := K p hp
    unfold tokF
    split
    · rename_i e
      rw [e.1, e.2.1, e.2.2] at z
      exact z
    · exact z
  unfold stepTs
  split
  · split
    · split
      · exact key _ _ _ _
      · exact K
    · exact K
  · exact K
theorem trips_even {room i j m : Nat} (h : tripP room i j ∈ tripsP n rm m) : i < j ∧ j < n ∧ ∃ t o, rm room = some (t, o) ∧ t i j = "even" := by
  unfold tripsP at h
  obtain ⟨l, hl, h⟩ := List.mem_flatten.mp h
  obtain ⟨room', _, rfl⟩ := List.mem_map.mp hl
  unfold tripsOf at h
  split at h
  · cases h
  · rename_i p er
    unfold tripsAt at h
    obtain ⟨l, hl, h⟩ := List.mem_flatten.mp h
    obtain ⟨a, _, rfl⟩ := List.mem_map.mp hl
    unfold tripsRow at h
    obtain ⟨b, hb, e⟩ := List.mem_map.mp h
    obtain ⟨hb, lab⟩ := List.mem_filter.mp hb
    unfold evensOf at hb
    obtain ⟨lb, ev⟩ := List.mem_filter.mp hb
    unfold tripP at e
    simp only [PV.tup.injEq, List.cons.injEq, PV.int.injEq, and_true] at e
    obtain ⟨e1, e2, e3⟩ := e
    obtain rfl : room' = room := by omega
    obtain rfl : a = i := by omega
    obtain rfl : b = j := by omega
    exact ⟨by simpa using lab, by simpa using lb, p.1, p.2, er, by simpa using ev⟩
theorem StOk.start {l : List (Nat × Nat × Nat)} (n5 : 1 ≤ n ∧ n ≤ 5) (r6 : r ≤ 6) (ok : HouseOk n r most rm ws) (hl : tripsP n rm r = l.map triP) : StOk n rm ws (fun _ => 0) (fun _ => "rest") (fun _ => 0) (startTs l) := by
  have key : ∀ q ∈ startTs l, q.1 < 6 ∧ q.2.1 < q.2.2.1 ∧ q.2.2.1 < n ∧ q.2.2.2 < 64 ∧ ∃ t o, rm q.1 = some (t, o) ∧ t q.2.1 q.2.2.1 = "even" := fun q hq => by
    unfold startTs at hq
    obtain ⟨p, hp, rfl⟩ := List.mem_map.mp hq
    have m : tripP p.1 p.2.1 p.2.2 ∈ tripsP n rm r := by rw [hl]; exact List.mem_map.mpr ⟨p, hp, rfl⟩
    obtain ⟨a, b, t, o, er, ev⟩ := trips_even m
    obtain ⟨room, i, j, e, l1, l2, l3⟩ := tripsP_mem m
    unfold tripP at e
    simp only [PV.tup.injEq, List.cons.injEq, PV.int.injEq, and_true] at e
    exact ⟨by dsimp only; omega, a, b, by dsimp only; omega, t, o, er, ev⟩
  refine ⟨fun i li => ⟨show 0 < (ws i).length by have := (ok.wys i li).two; omega, .inl ⟨rfl, rfl, rfl⟩⟩, ?_, fun q hq => ?_, fun q hq => ?_⟩
  · have q := tripsP_len n rm r
    have q2 : r * (n * n) ≤ 6 * (5 * 5) := Nat.mul_le_mul r6 (Nat.mul_le_mul n5.2 n5.2)
    rw [hl, List.length_map] at q
    unfold startTs
    rw [List.length_map]
    omega
  · obtain ⟨a, b, c, d, _⟩ := key q hq
    exact ⟨by omega, by omega, by omega, by omega⟩
  · obtain ⟨_, b, c, _, e⟩ := key q hq
    exact ⟨b, c, e⟩
theorem StandOk.st {sp tk : List PV} (n5 : 1 ≤ n ∧ n ≤ 5) (r6 : r ≤ 6) (ok : HouseOk n r most rm ws) (S : StandOk n r rm ws sp tk) : ∃ pl wd nu ts, PV.tup [.tup sp, .tup tk] = standP n pl wd nu ts ∧ StOk n rm ws pl wd nu ts := by
  obtain ⟨pl, wd, nu, ts, e, S1, l1, B1⟩ := S.fun_ n5 r6 ok
  refine ⟨pl, wd, nu, ts, e, ⟨S1, l1, B1, fun q hq => ?_⟩⟩
  have et : tk = ts.map quadP := by
    unfold standP at e
    simp only [PV.tup.injEq, List.cons.injEq, and_true] at e
    exact e.2
  have hy : quadP q ∈ tk := by rw [et]; exact List.mem_map.mpr ⟨q, hq, rfl⟩
  obtain ⟨a, la, e⟩ := List.getElem_of_mem hy
  have := S.lt
  have ex := List.getElem?_eq_getElem (l := tripsP n rm r) (i := a) (by omega)
  obtain ⟨room, i, j, w, e1, hw, e2⟩ := S.tks a _ _ ex (List.getElem?_eq_getElem la)
  have m := List.mem_of_getElem? ex
  rw [e1] at m
  obtain ⟨x1, x2, t, o, er, ev⟩ := trips_even m
  rw [e] at e2
  unfold quadP at e2
  simp only [PV.tup.injEq, List.cons.injEq, PV.int.injEq, and_true] at e2
  obtain ⟨z1, z2, z3, z4⟩ := e2
  obtain rfl : q.1 = room := by omega
  obtain rfl : q.2.1 = i := by omega
  obtain rfl : q.2.2.1 = j := by omega
  exact ⟨x1, x2, t, o, er, ev⟩
end
end Dn
namespace Dn
open PySem PySem.Spec PyProof.Rows L2 PySem.SeqAt Rw

/-! ### outcomes with exceptions -/
/-- of a statement: how it goes on, what it returns, what it raises -/
@[irreducible] def wE (o : OutS) (N : Sl → PH → Prop) (R : PV → PH → Prop) (E : PErr → Sl → PH → Prop) : Prop := match o with
  | .nx s h => N s h
  | .rt v h => R v h
  | .err z s h => E z s h
  | _ => False
theorem wE_of {o : OutS} {N : Sl → PH → Prop} {R : PV → PH → Prop} {E : PErr → Sl → PH → Prop} (q : wS o N R) : wE o N R E := by
  unfold wE
  cases o with
  | nx s h => rw [wS_nx] at q; exact q
  | rt s h => rw [wS_rt] at q; exact q
  | bk s h => rw [wS_bk] at q; exact q.elim
  | ct s h => rw [wS_ct] at q; exact q.elim
  | err z s h => rw [wS_err] at q; exact q.elim
  | no => rw [wS_no] at q; exact q.elim
theorem wE_er {o : OutS} {z : PErr} {s : Sl} {h : PH} {N : Sl → PH → Prop} {R : PV → PH → Prop} {E : PErr → Sl → PH → Prop} (e : o = .err z s h) (q : E z s h) : wE o N R E := by rw [e]; unfold wE; exact q
/-- try: .. except X as n: .. -/
theorem try_w {i : Nat} {tab : List (Str × Bool)} {f : DS} {g : PErr → DS} {s : Sl} {h : PH} {N : Sl → PH → Prop} {R : PV → PH → Prop}
    (q : wE (f s h) N R fun z s' h' => tab.lookup z.cls = some true ∧ (∃ o, s'[i]? = some o) ∧ wS (g z (s'.set i none) h') (fun s2 h2 => N (s2.set i none) h2) R) : wS (sTry i tab f g s h) N R := by
  unfold sTry
  unfold wE at q
  cases ef : f s h with
  | nx s' h' => rw [ef] at q; dsimp only; rw [wS_nx]; exact q
  | rt v h' => rw [ef] at q; dsimp only; rw [wS_rt]; exact q
  | bk _ _ => rw [ef] at q; exact q.elim
  | ct _ _ => rw [ef] at q; exact q.elim
  | no => rw [ef] at q; exact q.elim
  | err z s' h' =>
    rw [ef] at q
    obtain ⟨e1, ⟨o, e2⟩, q⟩ := q
    dsimp only
    rw [e1, e2]
    dsimp only
    unfold wS at q ⊢
    cases eg : g z (s'.set i none) h' with
    | nx _ _ => rw [eg] at q; exact q
    | rt _ _ => rw [eg] at q; exact q
    | bk _ _ => rw [eg] at q; exact q.elim
    | ct _ _ => rw [eg] at q; exact q.elim
    | err _ _ _ => rw [eg] at q; exact q.elim
    | no => rw [eg] at q; exact q.elim
section
variable {n r most : Nat} {rm : Nat → Room} {ws : Nat → List (Bool × Nat)} {pl : Nat → Nat} {wd : Nat → Str} {nu : Nat → Nat} {ts : List (Nat × Nat × Nat × Nat)} {h : PH}
end
end Dn
namespace Dn
open PySem PySem.Spec PyProof.Rows L2 PySem.SeqAt Rw

/-! ### a body that may break -/
/-- of a statement in a loop's body: how it goes on, breaks, returns -/
@[irreducible] def wK (o : OutS) (Nx Bk : Sl → PH → Prop) (R : PV → PH → Prop) : Prop := match o with
  | .nx s h => Nx s h
  | .bk s h => Bk s h
  | .rt v h => R v h
  | _ => False
theorem wK_of {o : OutS} {Nx Bk : Sl → PH → Prop} {R : PV → PH → Prop} (q : wS o Nx R) : wK o Nx Bk R := by
  unfold wK
  cases o with
  | nx s h => rw [wS_nx] at q; exact q
  | rt s h => rw [wS_rt] at q; exact q
  | bk s h => rw [wS_bk] at q; exact q.elim
  | ct s h => rw [wS_ct] at q; exact q.elim
  | err z s h => rw [wS_err] at q; exact q.elim
  | no => rw [wS_no] at q; exact q.elim
theorem wL_of {o : OutS} {Nx Bk : Sl → PH → Prop} {R : PV → PH → Prop} (q : wK o Nx Bk R) : wL o Nx Bk R := by
  unfold wK at q
  cases o with
  | ct s h => exact False.elim q
  | nx s h => exact q
  | rt s h => exact q
  | bk s h => exact q
  | err z s h => exact False.elim q
  | no => exact False.elim q
theorem wK_seq {a b : DS} {s : Sl} {h : PH} {Nx Bk : Sl → PH → Prop} {R : PV → PH → Prop} (q : wK (a s h) (fun s h => wK (b s h) Nx Bk R) Bk R) : wK (sSeq a b s h) Nx Bk R := by
  rw [sSeq_ap]
  unfold wK at q ⊢
  cases e : a s h with
  | nx s h => rw [e] at q; exact q
  | rt v h => rw [e] at q; exact q
  | bk s h => rw [e] at q; exact q
  | ct s h => rw [e] at q; exact q.elim
  | err z s h => rw [e] at q; exact q.elim
  | no => rw [e] at q; exact q.elim
/-- one statement without a break, then the rest -/
theorem wK_one {a b : DS} {s : Sl} {h : PH} {Nx Bk : Sl → PH → Prop} {R : PV → PH → Prop} (q : wS (a s h) (fun s h => Hold (wK (b s h) Nx Bk R)) R) : wK (sSeq a b s h) Nx Bk R :=
  wK_seq (wK_of (wS_mono q (fun _ _ x => of_hold x) fun _ _ x => x))
/-- if c: break -/
theorem wK_brk {c : DT} {s : Sl} {h : PH} {b : DS} {Nx Bk : Sl → PH → Prop} {R : PV → PH → Prop} (P : Bool → PH → Prop) (hc : wO (c s h) P) (yes : ∀ h', P true h' → Bk s h') (no : ∀ h', P false h' → wK (b s h') Nx Bk R) : wK (sSeq (sIf c sBk sNx) b s h) Nx Bk R := by
  refine wK_seq ?_
  rw [sIf_ap]
  obtain ⟨k, h', e, p⟩ := wO_ex.mp hc
  rw [e]
  rw [Out.then_ok']
  cases k with
  | true => unfold wK; exact yes h' p
  | false => have q := no h' p; unfold wK at q ⊢; exact q
theorem asg_w1 {i : Nat} {f : DE} {s : Sl} {h : PH} {N : Sl → PH → Prop} {R : PV → PH → Prop} (P : PV → PH → Prop) (hf : wO (f s h) P) (k : ∀ v h', P v h' → N (s.set i (some v)) h') : wS (sAsg (gNm i) f s h) N R := by
  rw [sAsg_ap, wS_then]
  refine wO_mono hf fun v h' p => ?_
  rw [gNm_ap, asgO_some, wS_nx]
  exact k v h' p
/-! ### repr of data without objects -/
theorem repr_free {v : PV} {k : Nat} (a : Da k 400000 0 [] v) (lk : k ≤ 40) : ∃ s, ∀ H, fRepr [v] H = some (.str s, H) := by
  obtain ⟨d, e, nc, w⟩ := a
  refine ⟨PyData.shown d, fun H => ?_⟩
  have e2 : toE H k v = some d := toE_ext (h := msk 0 []) (fun i o q _ => by
    have : (msk 0 ([] : PH))[i]? = none := rfl
    rw [this] at q
    cases q) k e
  have d3 : toD H 50 v = some d := toE_toD 50 (toE_up (by omega) e2)
  have ft := nc.fits (by omega)
  unfold fRepr
  dsimp only
  rw [d3]
  dsimp only
  rw [if_pos]
  rw [nc.sw, decide_eq_true (show d.depth ≤ 100 from Nat.le_trans nc.dp (by omega))]
  unfold sizeOk
  rw [sizeLine_eq] at ft
  rw [decide_eq_true ft]
  rfl
section
variable {n r most : Nat} {rm : Nat → Room} {ws : Nat → List (Bool × Nat)} {pl : Nat → Nat} {wd : Nat → Str} {nu : Nat → Nat} {ts : List (Nat × Nat × Nat × Nat)}
theorem repr_house (n5 : n ≤ 5) (r6 : r ≤ 6) (m24 : most ≤ 24) (ok : HouseOk n r most rm ws) : ∃ s, ∀ H, fRepr [houseP n r rm ws] H = some (.str s, H) :=
  repr_free ((ok.da (m := 0) (h := []) n5 r6 m24).up (Nat.le_refl _) (by omega)) (by decide)
theorem repr_stand (n5 : n ≤ 5) (m24 : most ≤ 24) (ok : HouseOk n r most rm ws) (O : StOk n rm ws pl wd nu ts) : ∃ s, ∀ H, fRepr [standP n pl wd nu ts] H = some (.str s, H) :=
  repr_free ((stand_da (m := 0) [] n5 m24 ok O.S O.lt O.B).up (Nat.le_refl _) (by omega)) (by decide)
/-- the sizes of a house, as numbers -/
theorem SizesOk.nat {v : PV} (h : SizesOk v) : ∃ n r most : Nat, v = .tup [.int (n : Nat), .int (r : Nat), .int (most : Nat)] ∧ (1 ≤ n ∧ n ≤ 5) ∧ (1 ≤ r ∧ r ≤ 6) ∧ 2 ≤ most ∧ most ≤ 24 ∧ most % 2 = 0 := by
  obtain ⟨a, b, m, rfl, a1, a5, b1, b6, cm⟩ := h
  obtain ⟨n, rfl⟩ := Int.eq_ofNat_of_zero_le (show 0 ≤ a by omega)
  obtain ⟨r, rfl⟩ := Int.eq_ofNat_of_zero_le (show 0 ≤ b by omega)
  obtain ⟨most, rfl, m2, m24, me⟩ : ∃ k : Nat, m = k ∧ 2 ≤ k ∧ k ≤ 24 ∧ k % 2 = 0 := by
    simp only [List.mem_cons, List.not_mem_nil, or_false] at cm
    rcases cm with rfl | rfl | rfl | rfl | rfl | rfl | rfl
    · exact ⟨2, rfl, by decide, by decide, rfl⟩
    · exact ⟨4, rfl, by decide, by decide, rfl⟩
    · exact ⟨6, rfl, by decide, by decide, rfl⟩
    · exact ⟨8, rfl, by decide, by decide, rfl⟩
    · exact ⟨12, rfl, by decide, by decide, rfl⟩
    · exact ⟨16, rfl, by decide, by decide, rfl⟩
    · exact ⟨24, rfl, by decide, by decide, rfl⟩
  exact ⟨n, r, most, rfl, ⟨by omega, by omega⟩, ⟨by omega, by omega⟩, m2, m24, me⟩
theorem in_deck {h : PH} {d : Nat} {g a t : PV} {w : Bool} (e : h[d]? = some (.dK (deckP g a t w))) : opIn (.str "widest") (.ref d) h = some (.bl w, h) := by
  have q := notIn_deck e
  unfold opNotIn at q
  unfold opIn
  cases z : inB h (.str "widest") (.ref d) with
  | none => rw [z] at q; cases q
  | some b =>
    rw [z] at q
    have : (!b) = (!w) := by
      have := Option.some.inj q
      exact PV.bl.inj (congrArg Prod.fst this)
    have : b = w := by cases b <;> cases w <;> first | rfl | cases this
    rw [this]
    rfl
theorem law_end {h : PH} (D : Dk 2 4 h) : wO (gcN [] (.ok (.bl true) h)) fun v _ => v = .bl true :=
  gc_gr rfl ⟨Nat.zero_le _, fun i l => absurd l (Nat.not_lt_zero _), D.cl⟩ rfl rfl
end
end Dn
namespace Dn
open PySem PySem.Spec PyProof.Rows L2 PySem.SeqAt Rw

section
variable {n r most : Nat} {rm : Nat → Room} {ws : Nat → List (Bool × Nat)} {pl : Nat → Nat} {wd : Nat → Str} {nu : Nat → Nat} {ts : List (Nat × Nat × Nat × Nat)} {h : PH}
/-! ### each even pair has its token -/
def keyT (q : Nat × Nat × Nat × Nat) : Nat × Nat × Nat := (q.1, q.2.1, q.2.2.1)
def TsT (n r : Nat) (rm : Nat → Room) (ts : List (Nat × Nat × Nat × Nat)) : Prop := (ts.map keyT).map triP = tripsP n rm r
theorem TsT.start {l : List (Nat × Nat × Nat)} (hl : tripsP n rm r = l.map triP) : TsT n r rm (startTs l) := by
  unfold TsT startTs
  rw [hl, List.map_map, List.map_map]
  exact List.map_congr_left fun q _ => rfl
theorem key_tokF (room mn mx v : Nat) (q : Nat × Nat × Nat × Nat) : keyT (tokF room mn mx v q) = keyT q := by
  unfold tokF
  split
  · rename_i e
    unfold keyT
    rw [e.1, e.2.1, e.2.2]
  · rfl
theorem StandOk.stT {sp tk : List PV} (n5 : 1 ≤ n ∧ n ≤ 5) (r6 : r ≤ 6) (ok : HouseOk n r most rm ws) (S : StandOk n r rm ws sp tk) : ∃ pl wd nu ts, PV.tup [.tup sp, .tup tk] = standP n pl wd nu ts ∧ StOk n rm ws pl wd nu ts ∧ TsT n r rm ts := by
  obtain ⟨pl, wd, nu, ts, e, O⟩ := S.st n5 r6 ok
  refine ⟨pl, wd, nu, ts, e, O, ?_⟩
  have et : tk = ts.map quadP := by
    unfold standP at e
    simp only [PV.tup.injEq, List.cons.injEq, and_true] at e
    exact e.2
  unfold TsT
  apply List.ext_getElem?
  intro a
  have lt := S.lt
  rw [et, List.length_map] at lt
  by_cases la : a < ts.length
  · have ex := List.getElem?_eq_getElem (l := tripsP n rm r) (i := a) (by omega)
    have ey : tk[a]? = some (quadP ts[a]) := by rw [et, List.getElem?_map, List.getElem?_eq_getElem la]; rfl
    obtain ⟨room, i, j, w, e1, hw, e2⟩ := S.tks a _ _ ex ey
    rw [List.getElem?_map, List.getElem?_map, List.getElem?_eq_getElem la, ex, e1]
    unfold quadP at e2
    simp only [PV.tup.injEq, List.cons.injEq, PV.int.injEq, and_true] at e2
    obtain ⟨z1, z2, z3, z4⟩ := e2
    show some (tripP ts[a].1 ts[a].2.1 ts[a].2.2.1) = _
    rw [show ts[a].1 = room by omega, show ts[a].2.1 = i by omega, show ts[a].2.2.1 = j by omega]
  · rw [List.getElem?_map, List.getElem?_map, List.getElem?_eq_none (by omega), List.getElem?_eq_none (by omega)]
    rfl
theorem flat_mem {α : Type} {f : Nat → List α} {m k : Nat} {x : α} (lk : k < m) (hx : x ∈ f k) : x ∈ ((List.range m).map f).flatten := List.mem_flatten.mpr ⟨f k, List.mem_map.mpr ⟨k, by simpa using lk, rfl⟩, hx⟩
theorem trips_has {room i j : Nat} {t : Nat → Nat → Str} {o : Nat → List Nat} (lr : room < r) (ij : i < j) (lj : j < n) (er : rm room = some (t, o)) (ev : t i j = "even") : tripP room i j ∈ tripsP n rm r := by
  unfold tripsP
  refine flat_mem lr ?_
  rw [er]
  unfold tripsOf
  dsimp only
  unfold tripsAt
  refine flat_mem (show i < n by omega) ?_
  unfold tripsRow
  refine List.mem_map.mpr ⟨j, List.mem_filter.mpr ⟨?_, by simpa using ij⟩, rfl⟩
  unfold evensOf
  exact List.mem_filter.mpr ⟨by simpa using lj, by simpa using ev⟩
theorem TsT.has {room i j : Nat} {t : Nat → Nat → Str} {o : Nat → List Nat} (T : TsT n r rm ts) (lr : room < r) (ij : i < j) (lj : j < n) (er : rm room = some (t, o)) (ev : t i j = "even") : ∃ q ∈ ts, keyT q = (room, i, j) := by
  have m := trips_has lr ij lj er ev
  rw [← T] at m
  obtain ⟨k, hk, e⟩ := List.mem_map.mp m
  obtain ⟨q, hq, rfl⟩ := List.mem_map.mp hk
  refine ⟨q, hq, ?_⟩
  unfold triP tripP keyT at e
  simp only [PV.tup.injEq, List.cons.injEq, PV.int.injEq, and_true] at e
  unfold keyT
  rw [show q.1 = room by omega, show q.2.1 = i by omega, show q.2.2.1 = j by omega]
/-- the tokens behind a handing -/
theorem tok_step (ts : List (Nat × Nat × Nat × Nat)) (room mn mx v room' a b : Nat) (hq : (room' = room ∧ a = mn ∧ b = mx) → ∃ q ∈ ts, keyT q = (room, mn, mx)) : tokOf (ts.map (tokF room mn mx v)) room' a b = if room' = room ∧ a = mn ∧ b = mx then .int v else tokOf ts room' a b := by
  unfold tokOf
  rw [List.find?_map]
  have e : ((fun q : Nat × Nat × Nat × Nat => decide (q.1 = room' ∧ q.2.1 = a ∧ q.2.2.1 = b)) ∘ tokF room mn mx v) = fun q => decide (q.1 = room' ∧ q.2.1 = a ∧ q.2.2.1 = b) := by
    funext q
    have k := key_tokF room mn mx v q
    unfold keyT at k
    simp only [Prod.mk.injEq] at k
    show decide _ = decide _
    rw [k.1, k.2.1, k.2.2]
  rw [e]
  cases hf : ts.find? (fun q => decide (q.1 = room' ∧ q.2.1 = a ∧ q.2.2.1 = b)) with
  | none =>
    rw [if_neg]
    · rfl
    · intro z
      obtain ⟨q, m, ek⟩ := hq z
      unfold keyT at ek
      simp only [Prod.mk.injEq] at ek
      have := List.find?_eq_none.mp hf q m
      simp only [decide_eq_true_eq] at this
      exact this ⟨by omega, by omega, by omega⟩
  | some q =>
    have p : q.1 = room' ∧ q.2.1 = a ∧ q.2.2.1 = b := by simpa using List.find?_some hf
    show PV.int _ = _
    by_cases z : room' = room ∧ a = mn ∧ b = mx
    · rw [if_pos z]
      have : tokF room mn mx v q = (room, mn, mx, v) := if_pos ⟨by omega, by omega, by omega⟩
      rw [this]
    · rw [if_neg z]
      have : tokF room mn mx v q = q := if_neg fun y => z ⟨by omega, by omega, by omega⟩
      rw [this]
/-- a room that a step enters is not held -/
theorem held_not {rooms p room : Nat} {st : List (Bool × Nat)} (W : WayOk rooms most st) (es : st[p]? = some (true, room)) : room ∉ heldOf st p := by
  have lp : p < st.length := (List.getElem?_eq_some_iff.mp es).1
  obtain ⟨hs, e1⟩ := nest_pre W.nst p
  obtain ⟨hs2, e2⟩ := nest_pre W.nst (p + 1)
  have et : st.take (p + 1) = st.take p ++ [(true, room)] := by
    rw [List.take_succ, es]
    rfl
  rw [et, nest_app, e1] at e2
  have e2 : nest [(true, room)] hs = some hs2 := e2
  rw [nest_in] at e2
  unfold heldOf
  rw [e1]
  show room ∉ hs.reverse
  rw [List.mem_reverse]
  intro m
  rw [if_pos m] at e2
  cases e2
/-- the flag of a hand whose step enters that room -/
theorem flag_at {rooms p room : Nat} {st : List (Bool × Nat)} (W : WayOk rooms most st) (es : st[p]? = some (true, room)) (w : Str) : flagOf st p w room = if w ∈ (["look", "yield"] : List Str) then ("up" : Str) else if w = "hand" then ("half" : Str) else ("down" : Str) := by
  unfold flagOf
  rw [if_neg (held_not W es)]
  have : wishOf st p = some room := by unfold wishOf; rw [es]
  rw [this]
  simp only [true_and]
end
end Dn
namespace Dn
open PySem PySem.Spec PyProof.Rows L2 PySem.SeqAt Rw

/-! ### the next step by the word -/
section
variable {n r most : Nat} {rm : Nat → Room} {ws : Nat → List (Bool × Nat)} {pl : Nat → Nat} {wd : Nat → Str} {nu : Nat → Nat} {ts : List (Nat × Nat × Nat × Nat)} {h : PH}
theorem nx_rest {i : Nat} (e : wd i = "rest") : nextP n rm ws pl wd nu ts i = .str "begin" := by
  unfold nextP
  rw [if_pos e]
theorem nx_hand {i : Nat} (e : wd i = "hand") : nextP n rm ws pl wd nu ts i = .str "hand" := by
  unfold nextP
  rw [if_neg (by rw [e]; decide +kernel), if_pos e]
theorem nx_yield {i : Nat} (e : wd i = "yield") : nextP n rm ws pl wd nu ts i = .str "lower" := by
  unfold nextP
  rw [if_neg (by rw [e]; decide +kernel), if_neg (by rw [e]; decide +kernel), if_pos e]
theorem nx_go {i : Nat} {b : Bool} {room : Nat} (e : wd i = "go") (es : (ws i)[pl i]? = some (b, room)) : nextP n rm ws pl wd nu ts i = if b = false then .str "leave" else if (rm room).isNone = true ∨ n = 1 then (if holdersOf n ws pl room = [] then .str "enter" else .non) else .str "raise" := by
  unfold nextP
  rw [if_neg (by rw [e]; decide +kernel), if_neg (by rw [e]; decide +kernel), if_neg (by rw [e]; decide +kernel), es]
  dsimp only
  rw [if_pos e]
theorem nx_low {i : Nat} {b : Bool} {room z : Nat} {t : Nat → Nat → Str} {o : Nat → List Nat} (e : wd i = "low") (es : (ws i)[pl i]? = some (b, room)) (er : rm room = some (t, o)) (ez : (o i).getD (nu i) 0 = z) : nextP n rm ws pl wd nu ts i = if flagOf (ws z) (pl z) (wd z) room = "down" then .str "see" else .non := by
  unfold nextP
  rw [if_neg (by rw [e]; decide +kernel), if_neg (by rw [e]; decide +kernel), if_neg (by rw [e]; decide +kernel), es]
  dsimp only
  rw [if_neg (by rw [e]; decide +kernel), er]
  dsimp only
  rw [if_pos e, ez]
theorem nx_look {i : Nat} {b : Bool} {room z : Nat} {t : Nat → Nat → Str} {o : Nat → List Nat} (e : wd i = "look") (es : (ws i)[pl i]? = some (b, room)) (er : rm room = some (t, o)) (ez : (o i).getD (nu i) 0 = z) : nextP n rm ws pl wd nu ts i = if flagOf (ws z) (pl z) (wd z) room = "down" ∨ (t i z = "even" ∧ flagOf (ws z) (pl z) (wd z) room = "up" ∧ tokOf ts room (min i z) (max i z) = .int i) then (if nu i = n - 2 then .str "enter" else .str "look") else if t i z = "bow" then .str "yield" else .non := by
  unfold nextP
  rw [if_neg (by rw [e]; decide +kernel), if_neg (by rw [e]; decide +kernel), if_neg (by rw [e]; decide +kernel), es]
  dsimp only
  rw [if_neg (by rw [e]; decide +kernel), er]
  dsimp only
  rw [if_neg (by rw [e]; decide +kernel), ez]
/-- the cases of a step that is not barred -/
theorem next_cases {i : Nat} (n1 : 1 ≤ n) (S : SpOk n rm (ws i) i (pl i) (wd i) (nu i)) (nz : nextP n rm ws pl wd nu ts i ≠ .non) :
    (nextP n rm ws pl wd nu ts i = .str "begin" ∧ wd i = "rest" ∧ pl i = 0) ∨
    (∃ room, nextP n rm ws pl wd nu ts i = .str "leave" ∧ wd i = "go" ∧ (ws i)[pl i]? = some (false, room)) ∨
    (∃ room, nextP n rm ws pl wd nu ts i = .str "enter" ∧ wd i = "go" ∧ (ws i)[pl i]? = some (true, room) ∧ ((rm room).isNone = true ∨ n = 1) ∧ holdersOf n ws pl room = []) ∨
    (∃ room t o, (ws i)[pl i]? = some (true, room) ∧ rm room = some (t, o) ∧ 2 ≤ n ∧
      ((nextP n rm ws pl wd nu ts i = .str "raise" ∧ wd i = "go" ∧ nu i = 0) ∨ (nextP n rm ws pl wd nu ts i = .str "hand" ∧ wd i = "hand" ∧ nu i < (evensOf n (t i)).length) ∨
       (wd i = "look" ∧ nu i < n - 1 ∧ (flagOf (ws ((o i).getD (nu i) 0)) (pl ((o i).getD (nu i) 0)) (wd ((o i).getD (nu i) 0)) room = "down" ∨ (t i ((o i).getD (nu i) 0) = "even" ∧ flagOf (ws ((o i).getD (nu i) 0)) (pl ((o i).getD (nu i) 0)) (wd ((o i).getD (nu i) 0)) room = "up" ∧ tokOf ts room (min i ((o i).getD (nu i) 0)) (max i ((o i).getD (nu i) 0)) = .int i)) ∧ ((nextP n rm ws pl wd nu ts i = .str "enter" ∧ nu i = n - 2) ∨ (nextP n rm ws pl wd nu ts i = .str "look" ∧ nu i + 1 < n - 1))) ∨
       (nextP n rm ws pl wd nu ts i = .str "yield" ∧ wd i = "look" ∧ nu i < n - 1) ∨ (nextP n rm ws pl wd nu ts i = .str "lower" ∧ wd i = "yield" ∧ nu i < n - 1) ∨ (nextP n rm ws pl wd nu ts i = .str "see" ∧ wd i = "low" ∧ nu i < n - 1))) := by
  have lp := S.1
  obtain ⟨b, room, hs⟩ : ∃ b room, (ws i)[pl i] = (b, room) := ⟨_, _, rfl⟩
  have es : (ws i)[pl i]? = some (b, room) := by rw [List.getElem?_eq_getElem lp, hs]
  rcases S.2 with ⟨e, p0, _⟩ | ⟨e, k0⟩ | ⟨room', t, o, es', er, n2, q⟩
  · exact .inl ⟨nx_rest e, e, p0⟩
  · have nx := nx_go (n := n) (rm := rm) (nu := nu) (ts := ts) e es
    cases b with
    | false => exact .inr (.inl ⟨room, by rw [nx, if_pos rfl], e, es⟩)
    | true =>
      rw [if_neg (by simp)] at nx
      by_cases z : (rm room).isNone = true ∨ n = 1
      · rw [if_pos z] at nx
        by_cases y : holdersOf n ws pl room = []
        · rw [if_pos y] at nx
          exact .inr (.inr (.inl ⟨room, nx, e, es, z, y⟩))
        · rw [if_neg y] at nx
          exact absurd nx nz
      · rw [if_neg z] at nx
        cases er : rm room with
        | none => exact absurd (.inl (by rw [er]; rfl)) z
        | some q =>
          have : ¬ n = 1 := fun y => z (.inr y)
          have n2 : 2 ≤ n := by omega
          exact .inr (.inr (.inr ⟨room, q.1, q.2, es, er, n2, .inl ⟨nx, e, k0⟩⟩))
  · rw [es] at es'
    cases es'
    refine .inr (.inr (.inr ⟨room, t, o, es, er, n2, ?_⟩))
    rcases q with ⟨e, lk⟩ | ⟨e, lk⟩ | ⟨e | e, lk, bw⟩
    · exact .inr (.inl ⟨nx_hand e, e, lk⟩)
    · have nx := nx_look (n := n) (nu := nu) (ts := ts) e es er rfl
      refine .inr (.inr ?_)
      split at nx
      · rename_i c
        refine .inl ⟨e, lk, c, ?_⟩
        split at nx
        · rename_i d
          exact .inl ⟨nx, d⟩
        · rename_i d
          exact .inr ⟨nx, by omega⟩
      · split at nx
        · exact .inr (.inl ⟨nx, e, lk⟩)
        · exact absurd nx nz
    · exact .inr (.inr (.inr (.inr (.inl ⟨nx_yield e, e, lk⟩))))
    · have nx := nx_low (n := n) (nu := nu) (ts := ts) e es er rfl
      split at nx
      · exact .inr (.inr (.inr (.inr (.inr ⟨nx, e, lk⟩))))
      · exact absurd nx nz
end
end Dn
namespace Dn
open PySem PySem.Spec PyProof.Rows L2 PySem.SeqAt Rw

theorem mul_many {xs : List PV} {k : Nat} (l : xs.length ≤ 1000) (h2 : 2 ≤ k ∧ k ≤ 5000) (ne : xs ≠ []) (h : PH) : opMul (.tup xs) (.int (k : Nat)) h = some (.tup (List.replicate k xs).flatten, h) := by
  unfold opMul
  have a : decide (((k : Nat) : Int) = 1) = false := decide_eq_false (by omega)
  have b : decide ((2 : Int) ≤ ((k : Nat) : Int) ∧ ((k : Nat) : Int) ≤ 5000) = true := decide_eq_true (by omega)
  have c : decide (xs.length ≤ 1000) = true := decide_eq_true l
  have d : (!xs.isEmpty) = true := by cases xs with | nil => exact absurd rfl ne | cons _ _ => rfl
  dsimp only
  rw [a, b, c, d, if_neg (by decide), if_pos (show (true && true && true) = true from rfl), Int.toNat_natCast]
theorem mul_tup {x : PV} (k : Nat) (l : k ≤ 5000) (h : PH) : opMul (.tup [x]) (.int (k : Nat)) h = some (.tup (List.replicate k x), h) := by
  match k, l with
  | 0, _ => rfl
  | 1, _ => rfl
  | k + 2, l => rw [mul_many (by simp) (by omega) (by simp), List.flatten_replicate_singleton]
theorem wS_one {o : OutS} {N : Sl → PH → Prop} (q : wS o N fun _ _ => False) : ∃ s h, o = .nx s h ∧ N s h := by
  unfold wS at q
  cases o with
  | nx s h => exact ⟨s, h, rfl, q⟩
  | rt v h => exact q.elim
  | _ => exact q.elim
/-- a loop that raises at the m-th item -/
theorem for_e {gs : List (Nat × List PV)} {g : GP} {body : DS} {z : PErr} {items : List PV} {s : Sl} {h : PH} {E : PH → Prop} (m : Nat) (lm : m < items.length) (J : Nat → Sl → PH → Prop) (j0 : J 0 s h) (hg : ∀ i s h, J i s h → okG gs h = true)
    (step : ∀ i x, i < m → items[i]? = some x → ∀ s h, J i s h → ∃ as, g x = some as ∧ wS (body (setP as s) h) (fun s h => J (i + 1) s h) fun _ _ => False)
    (last : ∀ x, items[m]? = some x → ∀ s h, J m s h → ∃ as s2 h2, g x = some as ∧ body (setP as s) h = .err z s2 h2 ∧ E h2) : ∃ s2 h2, forItems gs g body items s h = .err z s2 h2 ∧ E h2 := by
  have key : ∀ (d k : Nat), m - k = d → k ≤ m → ∀ (s : Sl) (h : PH), J k s h → ∃ s2 h2, forItems gs g body (items.drop k) s h = .err z s2 h2 ∧ E h2 := by
    intro d
    induction d with
    | zero =>
      intro k e lk s h j
      have : k = m := by omega
      subst this
      rw [List.drop_eq_getElem_cons lm]
      obtain ⟨as, s2, h2, e1, e2, e3⟩ := last _ (List.getElem?_eq_getElem lm) s h j
      refine ⟨s2, h2, ?_, e3⟩
      unfold forItems
      rw [hg k s h j, if_pos rfl, e1]
      dsimp only
      rw [e2]
    | succ d ih =>
      intro k e lk s h j
      have lk2 : k < items.length := by omega
      rw [List.drop_eq_getElem_cons lk2]
      obtain ⟨as, e1, q⟩ := step k _ (by omega) (List.getElem?_eq_getElem lk2) s h j
      obtain ⟨s2, h2, e2, j2⟩ := wS_one q
      obtain ⟨s3, h3, e3, e4⟩ := ih (k + 1) (by omega) (by omega) s2 h2 j2
      refine ⟨s3, h3, ?_, e4⟩
      unfold forItems
      rw [hg k s h j, if_pos rfl, e1]
      dsimp only
      rw [e2]
      exact e3
  have := key m 0 (by omega) (Nat.zero_le _) s h j0
  rwa [List.drop_zero] at this
theorem gc_er {h h3 : PH} {z : PErr} (c : Cl h.length h) (G : Gr h h3) (hz : errLowr h.length z = true) : gcN h (.err z h3) = .err z h := by
  have e : h3.take h.length = h := by
    apply List.ext_getElem?
    intro i
    by_cases l : i < h.length
    · rw [List.getElem?_take_of_lt l]
      exact G.at_ i l
    · rw [List.getElem?_eq_none (by rw [List.length_take]; omega), List.getElem?_eq_none (by omega)]
  unfold gcN
  dsimp only
  rw [e, hz, decide_eq_true G.len, show phLowr h.length h = true from c]
  rfl
end Dn
namespace Dn
open PySem PySem.Spec PyProof.Rows L2 PySem.SeqAt Rw

/-! ### texts of figures -/
def sg (c : Nat) : Str := ⟨#[c]⟩
theorem foldl_sg : ∀ (cs : List Nat) (a : Array Nat), (cs.map sg).foldl (fun acc p => acc ++ (⟨#[]⟩ : Str).cps ++ p.cps) a = a ++ cs.toArray
  | [], a => by simp
  | c :: cs, a => by
    rw [List.map_cons, List.foldl_cons, foldl_sg cs]
    show a ++ #[] ++ #[c] ++ cs.toArray = a ++ (c :: cs).toArray
    simp
theorem join_sg (cs : List Nat) : Txt.join (⟨#[]⟩ : Str) (cs.map sg) = ⟨cs.toArray⟩ := by
  cases cs with
  | nil => rfl
  | cons c cs =>
    show (⟨(cs.map sg).foldl (fun acc p => acc ++ (⟨#[]⟩ : Str).cps ++ p.cps) #[c]⟩ : Str) = _
    rw [foldl_sg]
    simp
theorem joinOk_sg (cs : List Nat) (l : cs.length ≤ 16000000) : JoinOk (⟨#[]⟩ : Str) (cs.map sg) = true := by
  have key : ∀ (cs : List Nat) (n : Nat), (cs.map sg).foldl (fun a p => a + p.length + (⟨#[]⟩ : Str).length) n = n + cs.length := by
    intro cs
    induction cs with
    | nil => intro n; rfl
    | cons c cs ih =>
      intro n
      rw [List.map_cons, List.foldl_cons, ih]
      show n + 1 + 0 + cs.length = n + (cs.length + 1)
      omega
  unfold JoinOk Builtin.Str.tooLong
  rw [List.foldl_toArray, key, sizeLine_eq]
  simp
  omega
theorem strsP_sg : ∀ cs : List Nat, strsP (cs.map fun c => PV.str (sg c)) = some (cs.map sg)
  | [] => rfl
  | c :: cs => by
    rw [List.map_cons]
    unfold strsP
    rw [strsP_sg cs]
    rfl
/-- the figures of hands -/
def figs (ds : List Nat) : List Nat := ds.map (48 + ·)
def txtP (ds : List Nat) : PV := .str ⟨(figs ds).toArray⟩
theorem fig_str {d : Nat} (l : d < 5) (h : PH) : fStr [.int (d : Nat)] h = some (.str (sg (48 + d)), h) := by
  have : d = 0 ∨ d = 1 ∨ d = 2 ∨ d = 3 ∨ d = 4 := by omega
  have e : ∀ s : Str, (toString ((d : Nat) : Int) : Str) = s → decide (((d : Nat) : Int).natAbs.log2 < 1920) = true → fStr [.int (d : Nat)] h = some (.str s, h) := fun s e1 e2 => by
    unfold fStr
    dsimp only
    rw [if_pos e2, e1]
  rcases this with rfl | rfl | rfl | rfl | rfl <;> exact e _ (by decide +kernel) (by decide +kernel)
theorem join_eq (ds : List Nat) (l : ds.length ≤ 16000000) (n : Nat) (H : PH) (e : H[n]? = some (.lst ((figs ds).map fun c => PV.str (sg c)))) : mJoin (.str (⟨#[]⟩ : Str)) [.ref n] H = some (txtP ds, H) := by
  have z : zqOf H (.ref n) = some (false, [(n, (figs ds).map fun c => PV.str (sg c))], (figs ds).map fun c => PV.str (sg c)) := by
    unfold zqOf
    dsimp only
    rw [e]
  unfold mJoin
  dsimp only
  rw [z]
  simp only [Option.bind_some]
  rw [strsP_sg]
  simp only [Option.bind_some]
  rw [if_pos (joinOk_sg _ (by unfold figs; rw [List.length_map]; exact l)), join_sg]
  rfl
/-- whether a sign is a figure of a hand -/
def isFig (c : Nat) : Bool := decide (48 ≤ c ∧ c ≤ 52)
theorem in_figs (c : Nat) : inStr (sg c) "01234" = isFig c := by
  have e := PySem.StrLaws.found_one ("01234" : Str) c
  have l : ("01234" : Str).cps.toList = [48, 49, 50, 51, 52] := by decide +kernel
  unfold inStr sg isFig
  rw [e, l]
  apply decide_eq_decide.mpr
  simp only [List.mem_cons, List.not_mem_nil, or_false]
  omega
theorem int_fig {c : Nat} (f : isFig c = true) (h : PH) : fIntS [.str (sg c)] h = some (.int ((c - 48 : Nat) : Int), h) := by
  have f := of_decide_eq_true f
  have : c = 48 ∨ c = 49 ∨ c = 50 ∨ c = 51 ∨ c = 52 := by omega
  have e : ∀ n : Int, PySem.intText? (sg c) = some n → fIntS [.str (sg c)] h = some (.int n, h) := fun n e1 => by
    unfold fIntS
    dsimp only
    rw [e1]
    simp only [Option.bind_some]
    rw [if_pos]
    rfl
  rcases this with rfl | rfl | rfl | rfl | rfl <;> exact e _ (by decide +kernel)
theorem notIn_figs (c : Nat) (h : PH) : opNotIn (.str (sg c)) (.str "01234") h = some (.bl (!isFig c), h) := by
  have e : inB h (.str (sg c)) (.str "01234") = some (inStr (sg c) "01234") := rfl
  unfold opNotIn
  rw [e, in_figs]
  rfl
theorem chars_of (cs : List Nat) : chars ⟨cs.toArray⟩ = cs.map fun c => PV.str (sg c) := by
  unfold chars
  rfl
def valP (cs : List Nat) : PV := .str ⟨cs.toArray⟩
section
variable {h : PH}
theorem run_text_eq {ds : List Nat} (c : Cl h.length h) (l5 : ∀ d ∈ ds, d < 5) (len : ds.length ≤ 100000) : m_run_text [.tup (natsP ds)] h = .ok (txtP ds) h := by
  refine eq_of_wO (wO_mk (show [PV.tup (natsP ds)].length = 1 from rfl) ?_)
  have nl : (natsP ds).length = ds.length := by simp [natsP]
  have cp := comp_pure (gs := []) (g := gNm 1) (t := tYesD) (e := eCall fStr (eCons (eVar 1) eNil)) (s := [some (.tup (natsP ds)), none]) (h0 := h) (fun _ => true) (fun x => match x with | .int k => .str (sg (48 + k.toNat)) | x => x) (fun _ => rfl) (natsP ds) [] (fun x hx => by
    obtain ⟨k, rfl, hk⟩ := nats_mem hx
    have f := fun H => fig_str (l5 k hk) H
    refine ⟨_, rfl, fun acc => ⟨rfl, fun _ => ?_⟩⟩
    simp -dsimp -implicitDefEqProofs only [Out.bind_ok, Out.bind_err, Out.bind_no, dnev_1, dnev_2, dnev_3, dnev_4, List.getElem?_cons_zero, List.getElem?_cons_succ, List.set_cons_zero, List.set_cons_succ, decide_true, decide_false, Bool.not_false, Bool.not_true, Bool.not_not, List.cons_append, List.nil_append, dnev_5, dnev_6, get_last, set_last, dnev_7, dnev_8, dnev_9, dnev_10, dnev_11, f]
    rfl) (by simp; omega)
  rw [filter_true, List.nil_append] at cp
  have em : (natsP ds).map (fun x => match x with | .int k => PV.str (sg (48 + k.toNat)) | x => x) = (figs ds).map fun c => PV.str (sg c) := by
    unfold natsP figs
    rw [List.map_map, List.map_map]
    rfl
  rw [em] at cp
  have e0 : ("" : Str) = ⟨#[]⟩ := by decide +kernel
  have je := join_eq ds (by omega) h.length (h ++ [.lst ((figs ds).map fun c => PV.str (sg c))]) (get_last _ _)
  rw [← e0] at je
  unfold g_run_text
  simp -dsimp -implicitDefEqProofs only [Out.bind_ok, Out.bind_err, Out.bind_no, dnev_1, dnev_2, dnev_3, dnev_4, List.getElem?_cons_zero, List.getElem?_cons_succ, List.set_cons_zero, List.set_cons_succ, decide_true, decide_false, Bool.not_false, Bool.not_true, Bool.not_not, List.cons_append, List.nil_append, dnev_5, dnev_6, get_last, set_last, dnev_7, dnev_8, dnev_9, dnev_10, dnev_11, dnw_1, true_imp_iff, not_true_eq_false, false_imp_iff, and_true, true_and, dnw_2, cp, je]
  refine gc_gr c (Gr.pushL (.refl c) ?_) rfl ⟨rfl, rfl⟩
  exact lowrs_iff.mpr fun y hy => by
    obtain ⟨_, _, rfl⟩ := List.mem_map.mp hy
    rfl
theorem read_run_eq {cs : List Nat} (c : Cl h.length h) (all : ∀ x ∈ cs, isFig x = true) (len : cs.length ≤ 4000) : m_read_run [valP cs] h = .ok (.tup (natsP (cs.map (· - 48)))) h := by
  refine eq_of_wO (wO_mk (show [valP cs].length = 1 from rfl) ?_)
  have cl : (enumP 0 (cs.map fun c => PV.str (sg c))).length = cs.length := by rw [enumP_len, List.length_map]
  have ie : ∀ H : PH, iEnumPS (eVar 0) [some (valP cs), none, none] H = .ok ([], enumP 0 (cs.map fun c => PV.str (sg c))) H := fun H => rfl
  have gp : ∀ (x y : PV), gTp 2 (gsCons (gNm 1) (gsCons (gNm 2) gsNil)) (.tup [x, y]) = some [(1, x), (2, y)] := fun _ _ => rfl
  unfold g_read_run
  refine seq_h ?_
  unfold valP
  simp -dsimp -implicitDefEqProofs only [Out.bind_ok, Out.bind_err, Out.bind_no, dnev_1, dnev_2, dnev_3, dnev_4, List.getElem?_cons_zero, List.getElem?_cons_succ, List.set_cons_zero, List.set_cons_succ, decide_true, decide_false, Bool.not_false, Bool.not_true, Bool.not_not, List.cons_append, List.nil_append, dnev_5, dnev_6, get_last, set_last, dnev_7, dnev_8, dnev_9, dnev_10, dnev_11, dnif_1, dnw_1, true_imp_iff, not_true_eq_false, false_imp_iff, and_true, true_and, dnw_2]
  have ie : ∀ H : PH, iEnumPS (eVar 0) [some (.str ⟨cs.toArray⟩), none, none] H = .ok ([], enumP 0 (cs.map fun c => PV.str (sg c))) H := fun H => rfl
  refine hold (seq_h ?_)
  simp -dsimp -implicitDefEqProofs only [Out.bind_ok, Out.bind_err, Out.bind_no, dnev_1, dnev_2, dnev_3, dnev_4, List.getElem?_cons_zero, List.getElem?_cons_succ, List.set_cons_zero, List.set_cons_succ, decide_true, decide_false, Bool.not_false, Bool.not_true, Bool.not_not, List.cons_append, List.nil_append, dnev_5, dnev_6, get_last, set_last, dnev_7, dnev_8, dnev_9, dnev_10, dnev_11, dnw_1, true_imp_iff, not_true_eq_false, false_imp_iff, and_true, true_and, dnw_2, ie]
  refine for_ww (fun m sl h' => m ≤ cs.length ∧ (∃ x1 x2, sl = [some (.str ⟨cs.toArray⟩), x1, x2]) ∧ h' = h) ⟨Nat.zero_le _, ⟨_, _, rfl⟩, rfl⟩ (fun _ _ _ _ => rfl) (fun m x hx sl h' ⟨_, ⟨x1, x2, esl⟩, eh⟩ => ?_) fun sl h' ⟨_, ⟨x1, x2, esl⟩, eh⟩ => ?_
  · subst esl
    subst eh
    obtain ⟨lm, rfl⟩ := enum_at hx
    rw [List.length_map] at lm
    rw [List.getElem_map]
    have ni := notIn_figs cs[m] h'
    rw [all _ (List.getElem_mem lm)] at ni
    have dg : decide (((m : Nat) : Int) ≥ 4000) = false := decide_eq_false (by omega)
    refine ⟨_, gp _ _, ?_⟩
    simp -dsimp -implicitDefEqProofs only [Out.bind_ok, Out.bind_err, Out.bind_no, dnev_1, dnev_2, dnev_3, dnev_4, List.getElem?_cons_zero, List.getElem?_cons_succ, List.set_cons_zero, List.set_cons_succ, decide_true, decide_false, Bool.not_false, Bool.not_true, Bool.not_not, List.cons_append, List.nil_append, dnev_5, dnev_6, get_last, set_last, dnev_7, dnev_8, dnev_9, dnev_10, dnev_11, dnif_1, dnw_1, true_imp_iff, not_true_eq_false, false_imp_iff, and_true, true_and, dnw_2, ni, dg, Bool.not_true]
    exact ⟨lm, _, _, rfl⟩
  · subst esl
    subst eh
    have sq : ∀ H : PH, seqO (.str ⟨cs.toArray⟩) H = .ok ([], cs.map fun c => PV.str (sg c)) H := fun H => rfl
    have cp := comp_pure (gs := []) (g := gNm 2) (t := tYesD) (e := eCall fIntS (eCons (eVar 2) eNil)) (s := [some (.str ⟨cs.toArray⟩), x1, none]) (h0 := h') (fun _ => true) (fun x => match x with | .str z => .int ((z.cps.toList.headD 0 - 48 : Nat) : Int) | x => x) (fun _ => rfl) (cs.map fun c => PV.str (sg c)) [] (fun x hx => by
      obtain ⟨k, hk, rfl⟩ := List.mem_map.mp hx
      have f := fun H => int_fig (all k hk) H
      refine ⟨_, rfl, fun acc => ⟨rfl, fun _ => ?_⟩⟩
      simp -dsimp -implicitDefEqProofs only [Out.bind_ok, Out.bind_err, Out.bind_no, dnev_1, dnev_2, dnev_3, dnev_4, List.getElem?_cons_zero, List.getElem?_cons_succ, List.set_cons_zero, List.set_cons_succ, decide_true, decide_false, Bool.not_false, Bool.not_true, Bool.not_not, List.cons_append, List.nil_append, dnev_5, dnev_6, get_last, set_last, dnev_7, dnev_8, dnev_9, dnev_10, dnev_11, f]
      rfl) (by simp; omega)
    rw [filter_true, List.nil_append, List.map_map] at cp
    have em : cs.map ((fun x : PV => match x with | .str z => PV.int ((z.cps.toList.headD 0 - 48 : Nat) : Int) | x => x) ∘ fun c => PV.str (sg c)) = natsP (cs.map (· - 48)) := by
      unfold natsP
      rw [List.map_map]
      rfl
    rw [em] at cp
    have gl := get_last h' (.lst (natsP (cs.map (· - 48))))
    refine hold ?_
    simp -dsimp -implicitDefEqProofs only [Out.bind_ok, Out.bind_err, Out.bind_no, dnev_1, dnev_2, dnev_3, dnev_4, List.getElem?_cons_zero, List.getElem?_cons_succ, List.set_cons_zero, List.set_cons_succ, decide_true, decide_false, Bool.not_false, Bool.not_true, Bool.not_not, List.cons_append, List.nil_append, dnev_5, dnev_6, get_last, set_last, dnev_7, dnev_8, dnev_9, dnev_10, dnev_11, dnw_1, true_imp_iff, not_true_eq_false, false_imp_iff, and_true, true_and, dnw_2, sq, cp, gl]
    exact gc_gr c (Gr.pushL (.refl c) (lowrs_nats _ _)) (lowrs_nats _ _) ⟨rfl, rfl⟩
theorem read_run_err {pre post : List Nat} {b : Nat} (c : Cl h.length h) (all : ∀ x ∈ pre, isFig x = true) (len : pre.length ≤ 4000) (bad : isFig b = false ∨ pre.length = 4000) : m_read_run [valP (pre ++ b :: post)] h = .err ⟨"BadText", some ("place", .int (pre.length : Nat))⟩ h := by
  refine (mk_at (show [valP (pre ++ b :: post)].length = 1 from rfl)).trans ?_
  have gp : ∀ (x y : PV), gTp 2 (gsCons (gNm 1) (gsCons (gNm 2) gsNil)) (.tup [x, y]) = some [(1, x), (2, y)] := fun _ _ => rfl
  obtain ⟨s2, h2, e, eh⟩ := for_e (gs := []) (g := gTp 2 (gsCons (gNm 1) (gsCons (gNm 2) gsNil))) (body := sIf (tOrD (tV (eOp opNotIn (eVar 2) (eC (.str "01234")))) (tV (eOp opGe (eVar 1) (eC (.int 4000))))) (sRaise1 "BadText" "place" (eVar 1)) sNx) (z := ⟨"BadText", some ("place", .int (pre.length : Nat))⟩) (items := enumP 0 ((pre ++ b :: post).map fun c => PV.str (sg c))) (s := [some (.str ⟨(pre ++ b :: post).toArray⟩), none, none]) (h := h) (E := fun h2 => h2 = h) pre.length (by rw [enumP_len, List.length_map, List.length_append, List.length_cons]; omega)
    (fun m sl h' => (∃ x1 x2, sl = [some (.str ⟨(pre ++ b :: post).toArray⟩), x1, x2]) ∧ h' = h) ⟨⟨_, _, rfl⟩, rfl⟩ (fun _ _ _ _ => rfl) (fun m x lm hx sl h' ⟨⟨x1, x2, esl⟩, eh⟩ => by
      subst esl
      subst eh
      obtain ⟨l, rfl⟩ := enum_at hx
      rw [List.getElem_map, List.getElem_append_left lm]
      have ni := notIn_figs pre[m] h'
      rw [all _ (List.getElem_mem lm)] at ni
      have dg : decide (((m : Nat) : Int) ≥ 4000) = false := decide_eq_false (by omega)
      refine ⟨_, gp _ _, ?_⟩
      simp -dsimp -implicitDefEqProofs only [Out.bind_ok, Out.bind_err, Out.bind_no, dnev_1, dnev_2, dnev_3, dnev_4, List.getElem?_cons_zero, List.getElem?_cons_succ, List.set_cons_zero, List.set_cons_succ, decide_true, decide_false, Bool.not_false, Bool.not_true, Bool.not_not, List.cons_append, List.nil_append, dnev_5, dnev_6, get_last, set_last, dnev_7, dnev_8, dnev_9, dnev_10, dnev_11, dnif_1, dnw_1, true_imp_iff, not_true_eq_false, false_imp_iff, and_true, true_and, dnw_2, ni, dg, Bool.not_true]
      exact ⟨_, _, rfl⟩) (fun x hx sl h' ⟨⟨x1, x2, esl⟩, eh⟩ => by
      subst esl
      subst eh
      obtain ⟨l, rfl⟩ := enum_at hx
      have ei : ((pre ++ b :: post).map fun c => PV.str (sg c))[pre.length] = .str (sg b) := by
        rw [List.getElem_map, List.getElem_append_right (Nat.le_refl _)]
        simp
      rw [ei]
      have ni := notIn_figs b h'
      refine ⟨_, [some (.str ⟨(pre ++ b :: post).toArray⟩), some (.int (pre.length : Nat)), some (.str (sg b))], h', gp _ _, ?_, rfl⟩
      cases fb : isFig b with
      | false =>
        rw [fb] at ni
        simp only [Out.bind_ok, Out.bind_err, Out.bind_no, dnev_1, dnev_2, dnev_3, dnev_4, List.getElem?_cons_zero, List.getElem?_cons_succ, List.set_cons_zero, List.set_cons_succ, decide_true, decide_false, Bool.not_false, Bool.not_true, Bool.not_not, List.cons_append, List.nil_append, dnev_5, dnev_6, get_last, set_last, dnev_7, dnev_8, dnev_9, dnev_10, dnev_11, dnif_1, ni, Bool.not_false]
        rfl
      | true =>
        rw [fb] at ni
        have dg : decide (((pre.length : Nat) : Int) ≥ 4000) = true := decide_eq_true (by rcases bad with z | z; (rw [fb] at z; cases z); omega)
        simp only [Out.bind_ok, Out.bind_err, Out.bind_no, dnev_1, dnev_2, dnev_3, dnev_4, List.getElem?_cons_zero, List.getElem?_cons_succ, List.set_cons_zero, List.set_cons_succ, decide_true, decide_false, Bool.not_false, Bool.not_true, Bool.not_not, List.cons_append, List.nil_append, dnev_5, dnev_6, get_last, set_last, dnev_7, dnev_8, dnev_9, dnev_10, dnev_11, dnif_1, ni, dg, Bool.not_true]
        rfl)
  have ie : ∀ H : PH, iEnumPS (eVar 0) [some (.str ⟨(pre ++ b :: post).toArray⟩), none, none] H = .ok ([], enumP 0 ((pre ++ b :: post).map fun c => PV.str (sg c))) H := fun H => rfl
  have er : runB g_read_run 3 [valP (pre ++ b :: post)] h = .err ⟨"BadText", some ("place", .int (pre.length : Nat))⟩ h := by
    subst eh
    unfold runB valP g_read_run
    simp only [Out.bind_ok, Out.bind_err, Out.bind_no, dnev_1, dnev_2, dnev_3, dnev_4, List.getElem?_cons_zero, List.getElem?_cons_succ, List.set_cons_zero, List.set_cons_succ, decide_true, decide_false, Bool.not_false, Bool.not_true, Bool.not_not, List.cons_append, List.nil_append, dnev_5, dnev_6, get_last, set_last, dnev_7, dnev_8, dnev_9, dnev_10, dnev_11, dnif_1, ie, e]
  rw [er]
  exact gc_er c (.refl c) rfl
end
end Dn
namespace Dn
open PySem PySem.Spec PyProof.Rows L2 PySem.SeqAt Rw

theorem enumP_app : ∀ (a b : List PV) (k : Nat), enumP k (a ++ b) = enumP k a ++ enumP (k + a.length) b
  | [], b, k => rfl
  | x :: a, b, k => by
    show .tup [.int k, x] :: enumP (k + 1) (a ++ b) = .tup [.int k, x] :: (enumP (k + 1) a ++ enumP (k + (a.length + 1)) b)
    rw [enumP_app a b (k + 1), show k + 1 + a.length = k + (a.length + 1) by omega]
/-- a text of figures, or its first wrong sign -/
theorem text_or : ∀ (cs pre : List Nat), (∀ x ∈ pre, isFig x = true) → pre.length ≤ 4000 → ((∀ x ∈ pre ++ cs, isFig x = true) ∧ (pre ++ cs).length ≤ 4000) ∨ ∃ p b post, pre ++ cs = p ++ b :: post ∧ (∀ x ∈ p, isFig x = true) ∧ p.length ≤ 4000 ∧ (isFig b = false ∨ p.length = 4000)
  | [], pre, all, len => .inl ⟨by rwa [List.append_nil], by rwa [List.append_nil]⟩
  | c :: cs, pre, all, len => by
    cases f : isFig c with
    | false => exact .inr ⟨pre, c, cs, rfl, all, len, .inl f⟩
    | true =>
      by_cases l : pre.length = 4000
      · exact .inr ⟨pre, c, cs, rfl, all, len, .inr l⟩
      · have := text_or cs (pre ++ [c]) (fun x hx => by
          rcases List.mem_append.mp hx with hx | hx
          · exact all x hx
          · rw [List.mem_singleton.mp hx]; exact f) (by simp; omega)
        rwa [List.append_assoc] at this
def wrongB : PV → Bool
  | .tup [.int p, .str z] => !isFig (z.cps.toList.headD 0) || decide (p = 4000)
  | _ => false
def firstOf : PV → PV
  | .tup [x, _] => x
  | x => x
section
variable {h : PH}
theorem wrong_comp {cs : List Nat} {x1 : Option PV} (l : cs.length ≤ 100000) (z : PV) : compItems [] (gTp 2 (gsCons (gNm 2) (gsCons (gNm 3) gsNil))) (tOrD (tV (eOp opNotIn (eVar 3) (eC (.str "01234")))) (tV (eOp opEq (eVar 2) (eC (.int 4000))))) (eVar 2) h.length [some z, x1, none, none] (enumP 0 (cs.map fun c => PV.str (sg c))) (h ++ [.lst []]) = .ok () (h ++ [.lst (((enumP 0 (cs.map fun c => PV.str (sg c))).filter wrongB).map firstOf)]) := by
  have gp : ∀ (x y : PV), gTp 2 (gsCons (gNm 2) (gsCons (gNm 3) gsNil)) (.tup [x, y]) = some [(2, x), (3, y)] := fun _ _ => rfl
  have cp := comp_pure (gs := []) (g := gTp 2 (gsCons (gNm 2) (gsCons (gNm 3) gsNil))) (t := tOrD (tV (eOp opNotIn (eVar 3) (eC (.str "01234")))) (tV (eOp opEq (eVar 2) (eC (.int 4000))))) (e := eVar 2) (s := [some z, x1, none, none]) (h0 := h) wrongB firstOf (fun _ => rfl) (enumP 0 (cs.map fun c => PV.str (sg c))) [] (fun x hx => by
    obtain ⟨m, lm, e⟩ := List.mem_iff_getElem.mp hx
    have hx2 : (enumP 0 (cs.map fun c => PV.str (sg c)))[m]? = some x := by rw [List.getElem?_eq_getElem lm, e]
    obtain ⟨l2, rfl⟩ := enum_at hx2
    rw [List.getElem_map]
    have ni := fun H => notIn_figs (cs[m]'(by simpa using l2)) H
    refine ⟨_, gp _ _, fun acc => ⟨?_, fun _ => ?_⟩⟩
    · have w : wrongB (.tup [.int ((m : Nat) : Int), .str (sg (cs[m]'(by simpa using l2)))]) = (!isFig (cs[m]'(by simpa using l2)) || decide (((m : Nat) : Int) = 4000)) := rfl
      rw [w]
      cases f : (!isFig (cs[m]'(by simpa using l2))) with
      | true =>
        rw [f] at ni
        simp only [Out.bind_ok, Out.bind_err, Out.bind_no, dnev_1, dnev_2, dnev_3, dnev_4, List.getElem?_cons_zero, List.getElem?_cons_succ, List.set_cons_zero, List.set_cons_succ, decide_true, decide_false, Bool.not_false, Bool.not_true, Bool.not_not, List.cons_append, List.nil_append, dnev_5, dnev_6, get_last, set_last, dnev_7, dnev_8, dnev_9, dnev_10, dnev_11, dnif_1, ni]
        rfl
      | false =>
        rw [f] at ni
        simp only [Out.bind_ok, Out.bind_err, Out.bind_no, dnev_1, dnev_2, dnev_3, dnev_4, List.getElem?_cons_zero, List.getElem?_cons_succ, List.set_cons_zero, List.set_cons_succ, decide_true, decide_false, Bool.not_false, Bool.not_true, Bool.not_not, List.cons_append, List.nil_append, dnev_5, dnev_6, get_last, set_last, dnev_7, dnev_8, dnev_9, dnev_10, dnev_11, dnif_1, ni]
        rfl
    · simp -dsimp -implicitDefEqProofs only [Out.bind_ok, Out.bind_err, Out.bind_no, dnev_1, dnev_2, dnev_3, dnev_4, List.getElem?_cons_zero, List.getElem?_cons_succ, List.set_cons_zero, List.set_cons_succ, decide_true, decide_false, Bool.not_false, Bool.not_true, Bool.not_not, List.cons_append, List.nil_append, dnev_5, dnev_6, get_last, set_last, dnev_7, dnev_8, dnev_9, dnev_10, dnev_11]
      rfl) (by rw [enumP_len]; simp; omega)
  rw [List.nil_append] at cp
  exact cp
theorem none_wrong {cs : List Nat} (all : ∀ x ∈ cs, isFig x = true) (k : Nat) (l : k + cs.length ≤ 4000) : (enumP k (cs.map fun c => PV.str (sg c))).filter wrongB = [] := by
  rw [List.filter_eq_nil_iff]
  intro x hx
  obtain ⟨m, lm, e⟩ := List.mem_iff_getElem.mp hx
  rw [enumP_len, List.length_map] at lm
  have hx2 : (enumP k (cs.map fun c => PV.str (sg c)))[m]? = some x := by rw [List.getElem?_eq_getElem (by rw [enumP_len, List.length_map]; exact lm), e]
  rw [enumP_at, List.getElem?_map, List.getElem?_eq_getElem lm] at hx2
  cases hx2
  show ¬ ((!isFig cs[m] || decide (((k + m : Nat) : Int) = 4000)) = true)
  rw [all _ (List.getElem_mem lm), decide_eq_false (by omega)]
  decide
end
end Dn
namespace Dn
open PySem PySem.Spec PyProof.Rows L2 PySem.SeqAt Rw

section
variable {h : PH}
theorem ints_comp {cs : List Nat} {s0 s1 s2 : Option PV} (all : ∀ x ∈ cs, isFig x = true) (l : cs.length ≤ 100000) : compItems [] (gNm 3) tYesD (eCall fIntS (eCons (eVar 3) eNil)) h.length [s0, s1, s2, none] (cs.map fun c => PV.str (sg c)) (h ++ [.lst []]) = .ok () (h ++ [.lst (natsP (cs.map (· - 48)))]) := by
  have cp := comp_pure (gs := []) (g := gNm 3) (t := tYesD) (e := eCall fIntS (eCons (eVar 3) eNil)) (s := [s0, s1, s2, none]) (h0 := h) (fun _ => true) (fun x => match x with | .str z => .int ((z.cps.toList.headD 0 - 48 : Nat) : Int) | x => x) (fun _ => rfl) (cs.map fun c => PV.str (sg c)) [] (fun x hx => by
    obtain ⟨k, hk, rfl⟩ := List.mem_map.mp hx
    have f := fun H => int_fig (all k hk) H
    refine ⟨_, rfl, fun acc => ⟨rfl, fun _ => ?_⟩⟩
    simp -dsimp -implicitDefEqProofs only [Out.bind_ok, Out.bind_err, Out.bind_no, dnev_1, dnev_2, dnev_3, dnev_4, List.getElem?_cons_zero, List.getElem?_cons_succ, List.set_cons_zero, List.set_cons_succ, decide_true, decide_false, Bool.not_false, Bool.not_true, Bool.not_not, List.cons_append, List.nil_append, dnev_5, dnev_6, get_last, set_last, dnev_7, dnev_8, dnev_9, dnev_10, dnev_11, f]
    rfl) (by simp; omega)
  rw [filter_true, List.nil_append, List.map_map] at cp
  have em : cs.map ((fun x : PV => match x with | .str z => PV.int ((z.cps.toList.headD 0 - 48 : Nat) : Int) | x => x) ∘ fun c => PV.str (sg c)) = natsP (cs.map (· - 48)) := by
    unfold natsP
    rw [List.map_map]
    rfl
  rw [em] at cp
  exact cp
theorem due_good {cs : List Nat} (c : Cl h.length h) (all : ∀ x ∈ cs, isFig x = true) (l : cs.length ≤ 4000) : m__law_due [valP cs] h = .ok (.tup [.str "told", .tup (natsP (cs.map (· - 48)))]) h := by
  refine eq_of_wO (wO_mk (show [valP cs].length = 1 from rfl) ?_)
  have ie : ∀ H : PH, iEnumPS (eVar 0) [some (.str ⟨cs.toArray⟩), none, none, none] H = .ok ([], enumP 0 (cs.map fun c => PV.str (sg c))) H := fun H => rfl
  have wc := wrong_comp (cs := cs) (h := h) (x1 := none) (by omega) (.str ⟨cs.toArray⟩)
  rw [none_wrong all 0 (by omega), List.map_nil] at wc
  have ga := get_last h (.lst [])
  have sq : ∀ H : PH, seqO (.str ⟨cs.toArray⟩) H = .ok ([], cs.map fun c => PV.str (sg c)) H := fun H => rfl
  unfold g__law_due valP
  refine seq_h ?_
  simp -dsimp -implicitDefEqProofs only [Out.bind_ok, Out.bind_err, Out.bind_no, dnev_1, dnev_2, dnev_3, dnev_4, List.getElem?_cons_zero, List.getElem?_cons_succ, List.set_cons_zero, List.set_cons_succ, decide_true, decide_false, Bool.not_false, Bool.not_true, Bool.not_not, List.cons_append, List.nil_append, dnev_5, dnev_6, get_last, set_last, dnev_7, dnev_8, dnev_9, dnev_10, dnev_11, dnif_1, dnw_1, true_imp_iff, not_true_eq_false, false_imp_iff, and_true, true_and, dnw_2]
  refine hold (seq_h ?_)
  simp -dsimp -implicitDefEqProofs only [Out.bind_ok, Out.bind_err, Out.bind_no, dnev_1, dnev_2, dnev_3, dnev_4, List.getElem?_cons_zero, List.getElem?_cons_succ, List.set_cons_zero, List.set_cons_succ, decide_true, decide_false, Bool.not_false, Bool.not_true, Bool.not_not, List.cons_append, List.nil_append, dnev_5, dnev_6, get_last, set_last, dnev_7, dnev_8, dnev_9, dnev_10, dnev_11, dnw_1, true_imp_iff, not_true_eq_false, false_imp_iff, and_true, true_and, dnw_2, ie, wc]
  have G1 : Gr h (h ++ [.lst []]) := (Gr.refl c).pushL (xs := []) rfl
  have G2 : Gr h (h ++ [.lst []] ++ [.lst []]) := G1.pushL (xs := []) rfl
  have lH : h.length < (h ++ [MO.lst []]).length := by simp
  have g2 : (h ++ [MO.lst []] ++ [MO.lst []])[h.length]? = some (.lst []) := by rw [List.getElem?_append_left lH]; exact ga
  have g3 := get_last (h ++ [MO.lst []]) (.lst [])
  have ic := ints_comp (cs := cs) (h := h ++ [.lst []] ++ [.lst []]) (s0 := some (.str ⟨cs.toArray⟩)) (s1 := some (.ref h.length)) (s2 := none) all (by omega)
  have gl := get_last (h ++ [MO.lst []] ++ [.lst []]) (.lst (natsP (cs.map (· - 48))))
  refine hold ?_
  simp -dsimp -implicitDefEqProofs only [Out.bind_ok, Out.bind_err, Out.bind_no, dnev_1, dnev_2, dnev_3, dnev_4, List.getElem?_cons_zero, List.getElem?_cons_succ, List.set_cons_zero, List.set_cons_succ, decide_true, decide_false, Bool.not_false, Bool.not_true, Bool.not_not, List.cons_append, List.nil_append, dnev_5, dnev_6, get_last, set_last, dnev_7, dnev_8, dnev_9, dnev_10, dnev_11, dnif_1, dnw_1, true_imp_iff, not_true_eq_false, false_imp_iff, and_true, true_and, dnw_2, g2, g3]
  refine ⟨fun ne => absurd rfl ne, fun _ => ?_⟩
  simp -dsimp -implicitDefEqProofs only [Out.bind_ok, Out.bind_err, Out.bind_no, dnev_1, dnev_2, dnev_3, dnev_4, List.getElem?_cons_zero, List.getElem?_cons_succ, List.set_cons_zero, List.set_cons_succ, decide_true, decide_false, Bool.not_false, Bool.not_true, Bool.not_not, List.cons_append, List.nil_append, dnev_5, dnev_6, get_last, set_last, dnev_7, dnev_8, dnev_9, dnev_10, dnev_11, dnif_1, dnw_1, true_imp_iff, not_true_eq_false, false_imp_iff, and_true, true_and, dnw_2, sq, ic, gl]
  exact gc_gr c (G2.pushL (lowrs_nats _ _)) (by simp only [PV.lowr, PV.lowrs, lowrs_nats, Bool.and_self]) ⟨rfl, rfl⟩
theorem due_bad {pre post : List Nat} {b : Nat} (c : Cl h.length h) (all : ∀ x ∈ pre, isFig x = true) (len : pre.length ≤ 4000) (bad : isFig b = false ∨ pre.length = 4000) (l : (pre ++ b :: post).length ≤ 100000) : m__law_due [valP (pre ++ b :: post)] h = .ok (.tup [.str "text", .int (pre.length : Nat)]) h := by
  refine eq_of_wO (wO_mk (show [valP (pre ++ b :: post)].length = 1 from rfl) ?_)
  obtain ⟨rest, er⟩ : ∃ rest, ((enumP 0 ((pre ++ b :: post).map fun c => PV.str (sg c))).filter wrongB).map firstOf = .int (pre.length : Nat) :: rest := by
    rw [List.map_append, enumP_app, List.filter_append, none_wrong all 0 (by omega), List.nil_append, List.map_cons, Nat.zero_add, List.length_map]
    show ∃ rest, ((PV.tup [.int (pre.length : Nat), .str (sg b)] :: enumP (pre.length + 1) (post.map fun c => PV.str (sg c))).filter wrongB).map firstOf = _
    have w : wrongB (.tup [.int (pre.length : Nat), .str (sg b)]) = true := by
      show (!isFig b || decide (((pre.length : Nat) : Int) = 4000)) = true
      rcases bad with z | z
      · rw [z]; rfl
      · rw [decide_eq_true (show ((pre.length : Nat) : Int) = 4000 by omega), Bool.or_true]
    rw [List.filter_cons_of_pos w, List.map_cons]
    exact ⟨_, rfl⟩
  have low : ∀ n, PV.lowrs n (.int (pre.length : Nat) :: rest) = true := fun n => by
    rw [← er]
    refine lowrs_iff.mpr fun y hy => ?_
    obtain ⟨x, hx, rfl⟩ := List.mem_map.mp hy
    have hm := (List.mem_filter.mp hx).1
    obtain ⟨m, lm, e⟩ := List.mem_iff_getElem.mp hm
    have hx2 : (enumP 0 ((pre ++ b :: post).map fun c => PV.str (sg c)))[m]? = some x := by rw [List.getElem?_eq_getElem lm, e]
    obtain ⟨l2, rfl⟩ := enum_at hx2
    rfl
  have ie : ∀ H : PH, iEnumPS (eVar 0) [some (.str ⟨(pre ++ b :: post).toArray⟩), none, none, none] H = .ok ([], enumP 0 ((pre ++ b :: post).map fun c => PV.str (sg c))) H := fun H => rfl
  have wc := wrong_comp (cs := pre ++ b :: post) (h := h) (x1 := none) l (.str ⟨(pre ++ b :: post).toArray⟩)
  rw [er] at wc
  have ga := get_last h (.lst (PV.int (pre.length : Nat) :: rest))
  unfold g__law_due valP
  refine seq_h ?_
  simp -dsimp -implicitDefEqProofs only [Out.bind_ok, Out.bind_err, Out.bind_no, dnev_1, dnev_2, dnev_3, dnev_4, List.getElem?_cons_zero, List.getElem?_cons_succ, List.set_cons_zero, List.set_cons_succ, decide_true, decide_false, Bool.not_false, Bool.not_true, Bool.not_not, List.cons_append, List.nil_append, dnev_5, dnev_6, get_last, set_last, dnev_7, dnev_8, dnev_9, dnev_10, dnev_11, dnif_1, dnw_1, true_imp_iff, not_true_eq_false, false_imp_iff, and_true, true_and, dnw_2]
  refine hold (seq_h ?_)
  simp -dsimp -implicitDefEqProofs only [Out.bind_ok, Out.bind_err, Out.bind_no, dnev_1, dnev_2, dnev_3, dnev_4, List.getElem?_cons_zero, List.getElem?_cons_succ, List.set_cons_zero, List.set_cons_succ, decide_true, decide_false, Bool.not_false, Bool.not_true, Bool.not_not, List.cons_append, List.nil_append, dnev_5, dnev_6, get_last, set_last, dnev_7, dnev_8, dnev_9, dnev_10, dnev_11, dnw_1, true_imp_iff, not_true_eq_false, false_imp_iff, and_true, true_and, dnw_2, ie, wc]
  have G1 : Gr h (h ++ [.lst (PV.int (pre.length : Nat) :: rest)]) := (Gr.refl c).pushL (low _)
  have G2 : Gr h (h ++ [.lst (PV.int (pre.length : Nat) :: rest)] ++ [.lst []]) := G1.pushL (xs := []) rfl
  have lH : h.length < (h ++ [MO.lst (PV.int (pre.length : Nat) :: rest)]).length := by simp
  have g2 : (h ++ [MO.lst (PV.int (pre.length : Nat) :: rest)] ++ [MO.lst []])[h.length]? = some (.lst (PV.int (pre.length : Nat) :: rest)) := by rw [List.getElem?_append_left lH]; exact ga
  have g3 := get_last (h ++ [MO.lst (PV.int (pre.length : Nat) :: rest)]) (.lst [])
  have at0 : atI (PV.int (pre.length : Nat) :: rest) 0 = some (.int (pre.length : Nat)) := atI_nat (i := 0) rfl
  refine hold ?_
  simp -dsimp -implicitDefEqProofs only [Out.bind_ok, Out.bind_err, Out.bind_no, dnev_1, dnev_2, dnev_3, dnev_4, List.getElem?_cons_zero, List.getElem?_cons_succ, List.set_cons_zero, List.set_cons_succ, decide_true, decide_false, Bool.not_false, Bool.not_true, Bool.not_not, List.cons_append, List.nil_append, dnev_5, dnev_6, get_last, set_last, dnev_7, dnev_8, dnev_9, dnev_10, dnev_11, dnif_1, dnw_1, true_imp_iff, not_true_eq_false, false_imp_iff, and_true, true_and, dnw_2, g2, g3, at0]
  refine ⟨fun _ => ?_, fun z => absurd (fun e => nomatch e) z⟩
  exact gc_gr c G2 rfl ⟨rfl, rfl⟩
end
end Dn
namespace Dn
open PySem PySem.Spec PyProof.Rows L2 PySem.SeqAt Rw

section
variable {h : PH}
theorem heard_good {cs : List Nat} {b : Bool} (c : Cl h.length h) (all : ∀ x ∈ cs, isFig x = true) (l : cs.length ≤ 4000) : m__law_heard [valP cs, .bl b] h = .ok (.tup [.str "told", .tup (natsP (cs.map (· - 48)))]) h := by
  refine eq_of_wO (wO_mk (show [valP cs, .bl b].length = 2 from rfl) ?_)
  have e1 := read_run_eq c all l
  have p1 : ∀ x : PV, atPl [0] [x] = [x] := fun _ => rfl
  unfold g__law_heard
  refine try_w (wE_of ?_)
  cases b <;> simp -dsimp -implicitDefEqProofs only [Out.bind_ok, Out.bind_err, Out.bind_no, dnev_1, dnev_2, dnev_3, dnev_4, List.getElem?_cons_zero, List.getElem?_cons_succ, List.set_cons_zero, List.set_cons_succ, decide_true, decide_false, Bool.not_false, Bool.not_true, Bool.not_not, List.cons_append, List.nil_append, dnev_5, dnev_6, get_last, set_last, dnev_7, dnev_8, dnev_9, dnev_10, dnev_11, dnif_1, dnw_1, true_imp_iff, not_true_eq_false, false_imp_iff, and_true, true_and, dnw_2, e1, p1] <;> exact gc_gr c (.refl c) (by simp only [PV.lowr, PV.lowrs, lowrs_nats, Bool.and_self]) ⟨rfl, rfl⟩
theorem heard_bad {pre post : List Nat} {b : Nat} {k : Bool} (c : Cl h.length h) (all : ∀ x ∈ pre, isFig x = true) (len : pre.length ≤ 4000) (bad : isFig b = false ∨ pre.length = 4000) : m__law_heard [valP (pre ++ b :: post), .bl k] h = .ok (.tup [.str "text", .int (pre.length : Nat)]) h := by
  refine eq_of_wO (wO_mk (show [valP (pre ++ b :: post), .bl k].length = 2 from rfl) ?_)
  have e1 := read_run_err (post := post) c all len bad
  have p1 : ∀ x : PV, atPl [0] [x] = [x] := fun _ => rfl
  unfold g__law_heard
  refine try_w (wE_er (z := ⟨"BadText", some ("place", .int (pre.length : Nat))⟩) (s := [some (valP (pre ++ b :: post)), some (.bl k), none]) (h := h) ?_ ⟨rfl, ⟨_, rfl⟩, ?_⟩)
  · cases k
    · simp only [Out.bind_ok, Out.bind_err, Out.bind_no, dnev_1, dnev_2, dnev_3, dnev_4, List.getElem?_cons_zero, List.getElem?_cons_succ, List.set_cons_zero, List.set_cons_succ, decide_true, decide_false, Bool.not_false, Bool.not_true, Bool.not_not, List.cons_append, List.nil_append, dnev_5, dnev_6, get_last, set_last, dnev_7, dnev_8, dnev_9, dnev_10, dnev_11, dnif_1, e1, p1]
    · simp only [Out.bind_ok, Out.bind_err, Out.bind_no, dnev_1, dnev_2, dnev_3, dnev_4, List.getElem?_cons_zero, List.getElem?_cons_succ, List.set_cons_zero, List.set_cons_succ, decide_true, decide_false, Bool.not_false, Bool.not_true, Bool.not_not, List.cons_append, List.nil_append, dnev_5, dnev_6, get_last, set_last, dnev_7, dnev_8, dnev_9, dnev_10, dnev_11, dnif_1, e1, p1]
  · show wS (OutS.rt (.tup [.str "text", .int (pre.length : Nat)]) h) _ _
    rw [wS_rt]
    exact gc_gr c (.refl c) rfl ⟨rfl, rfl⟩
/-- a list of drawn hands -/
theorem hands_w {d g N m : Nat} {x0 x1 : Option PV} {Q : Unit → PH → Prop} (D : Dk d g h) (hN : N = h.length) (lm : m ≤ 1000) (q : ∀ ds H, ds.length = m → (∀ x ∈ ds, x < 5) → H[N]? = some (.lst (natsP ds)) → Dk d g H → Ov d g h H → Q () H) :
    wO (compItems [] (gNm 2) tYesD (eCallF m__law_draw (eCons (eVar 0) (eCons (eC (.int 5)) eNil))) N [some (.ref d), x0, x1] (rangeP 0 m) (h ++ [.lst []])) Q := by
  subst hN
  obtain ⟨ld, lg⟩ := D.lt
  have rl : (rangeP 0 m).length = m := range_len _ _
  refine comp_w (gs := []) (items := rangeP 0 m) (fun j acc H => ∃ ds : List Nat, acc = natsP ds ∧ ds.length = j ∧ j ≤ m ∧ (∀ x ∈ ds, x < 5) ∧ H[h.length]? = some (.lst acc) ∧ Dk d g H ∧ Ov d g h H) (fun j acc H ⟨_, _, _, _, _, e, _⟩ => ⟨e, rfl⟩) (fun j x hx acc H ⟨ds, ea, el, lj, l5, eH, DH, OH⟩ => ?_) 0 [] _ (Nat.zero_le _) ⟨[], rfl, rfl, Nat.zero_le _, by simp, get_last _ _, D.push (o := .lst []) rfl, .push⟩ fun acc H ⟨ds, ea, el, lj, l5, eH, DH, OH⟩ => ?_
  · obtain ⟨rfl, lj2⟩ := range_at hx
    refine ⟨_, rfl, ?_⟩
    simp -dsimp -implicitDefEqProofs only [Out.bind_ok, Out.bind_err, Out.bind_no, dnev_1, dnev_2, dnev_3, dnev_4, List.getElem?_cons_zero, List.getElem?_cons_succ, List.set_cons_zero, List.set_cons_succ, decide_true, decide_false, Bool.not_false, Bool.not_true, Bool.not_not, List.cons_append, List.nil_append, dnev_5, dnev_6, get_last, set_last, dnev_7, dnev_8, dnev_9, dnev_10, dnev_11, dnif_1, dnw_1, true_imp_iff, not_true_eq_false, false_imp_iff, and_true, true_and, dnw_2]
    refine ⟨?_, fun z => nomatch z⟩
    refine draw_w DH (by decide) fun c H2 D2 L2' c0 _ c2 => ?_
    have c5 := c2 (by decide)
    obtain ⟨u, rfl⟩ := Int.eq_ofNat_of_zero_le c0
    have e2 : H2[h.length]? = some (.lst acc) := by rw [L2'.at_ _ (by omega) (by omega)]; exact eH
    have en : acc ++ [PV.int ((u : Nat) : Int)] = natsP (ds ++ [u]) := by
      rw [ea]
      unfold natsP
      rw [List.map_append]
      rfl
    refine ⟨e2, by rw [ea]; simp [natsP]; omega, ds ++ [u], en, by rw [List.length_append, el]; rfl, lj2, fun x hx => ?_, List.getElem?_set_self (List.getElem?_eq_some_iff.mp e2).1, D2.setL (by omega) (by omega) (by rw [en]; exact lowrs_nats _ _), (OH.trans L2'.ov).set (Nat.le_refl _)⟩
    rcases List.mem_append.mp hx with hx | hx
    · exact l5 x hx
    · rw [List.mem_singleton.mp hx]; omega
  · subst ea
    exact q ds H (by rw [el, rl]) l5 eH DH OH
end
end Dn
namespace Dn
open PySem PySem.Spec PyProof.Rows L2 PySem.SeqAt Rw

section
variable {h : PH}
theorem row_w {d g : Nat} {Q : PV → PH → Prop} (D : Dk d g h) (q : ∀ ds h2, (∀ x ∈ ds, x < 5) → ds.length ≤ 4000 → Dk d g h2 → Like d g h h2 → Q (.tup (natsP ds)) h2) : wO (m__law_row [.ref d] h) Q := by
  refine wO_mk (show [PV.ref d].length = 1 from rfl) ?_
  have fin : ∀ {ds : List Nat} {H : PH}, (∀ x ∈ ds, x < 5) → ds.length ≤ 4000 → Dk d g H → Ov d g h H → wO (gcN h (.ok (.tup (natsP ds)) H)) Q := fun {ds H} l5 l D2 O2 => gc_dk D D2 O2 (lowrs_nats _ _) fun h4 D4 L4 => q ds h4 l5 l D4 L4
  unfold g__law_row
  refine seq_h (if_w (fun b H => Dk d g H ∧ Ov d g h H) ?_ (fun H ⟨D1, O1⟩ => ?_) fun H ⟨D1, O1⟩ => ?_)
  · simp -dsimp -implicitDefEqProofs only [Out.bind_ok, Out.bind_err, Out.bind_no, dnev_1, dnev_2, dnev_3, dnev_4, List.getElem?_cons_zero, List.getElem?_cons_succ, List.set_cons_zero, List.set_cons_succ, decide_true, decide_false, Bool.not_false, Bool.not_true, Bool.not_not, List.cons_append, List.nil_append, dnev_5, dnev_6, get_last, set_last, dnev_7, dnev_8, dnev_9, dnev_10, dnev_11, dnif_1, dnw_1, true_imp_iff, not_true_eq_false, false_imp_iff, and_true, true_and, dnw_2]
    refine draw_w D (by decide) fun k h1 D1 L1 _ _ _ => ?_
    simp -dsimp -implicitDefEqProofs only [Out.bind_ok, Out.bind_err, Out.bind_no, dnev_1, dnev_2, dnev_3, dnev_4, List.getElem?_cons_zero, List.getElem?_cons_succ, List.set_cons_zero, List.set_cons_succ, decide_true, decide_false, Bool.not_false, Bool.not_true, Bool.not_not, List.cons_append, List.nil_append, dnev_5, dnev_6, get_last, set_last, dnev_7, dnev_8, dnev_9, dnev_10, dnev_11, dnif_1, dnw_1, true_imp_iff, not_true_eq_false, false_imp_iff, and_true, true_and, dnw_2]
    exact ⟨D1, L1.ov⟩
  · simp -dsimp -implicitDefEqProofs only [Out.bind_ok, Out.bind_err, Out.bind_no, dnev_1, dnev_2, dnev_3, dnev_4, List.getElem?_cons_zero, List.getElem?_cons_succ, List.set_cons_zero, List.set_cons_succ, decide_true, decide_false, Bool.not_false, Bool.not_true, Bool.not_not, List.cons_append, List.nil_append, dnev_5, dnev_6, get_last, set_last, dnev_7, dnev_8, dnev_9, dnev_10, dnev_11, dnif_1, dnw_1, true_imp_iff, not_true_eq_false, false_imp_iff, and_true, true_and, dnw_2]
    refine draw_w D1 (by decide) fun k h1 D2 L1 k0 _ k2 => ?_
    have k60 := k2 (by decide)
    obtain ⟨m, rfl⟩ := Int.eq_ofNat_of_zero_le k0
    simp -dsimp -implicitDefEqProofs only [Out.bind_ok, Out.bind_err, Out.bind_no, dnev_1, dnev_2, dnev_3, dnev_4, List.getElem?_cons_zero, List.getElem?_cons_succ, List.set_cons_zero, List.set_cons_succ, decide_true, decide_false, Bool.not_false, Bool.not_true, Bool.not_not, List.cons_append, List.nil_append, dnev_5, dnev_6, get_last, set_last, dnev_7, dnev_8, dnev_9, dnev_10, dnev_11, dnif_1, dnw_1, true_imp_iff, not_true_eq_false, false_imp_iff, and_true, true_and, dnw_2]
    refine ⟨by omega, ?_⟩
    rw [Int.toNat_natCast]
    refine hands_w D2 rfl (by omega) fun ds H3 dl l5 e3 D3 O3 => ?_
    simp -dsimp -implicitDefEqProofs only [Out.bind_ok, Out.bind_err, Out.bind_no, dnev_1, dnev_2, dnev_3, dnev_4, List.getElem?_cons_zero, List.getElem?_cons_succ, List.set_cons_zero, List.set_cons_succ, decide_true, decide_false, Bool.not_false, Bool.not_true, Bool.not_not, List.cons_append, List.nil_append, dnev_5, dnev_6, get_last, set_last, dnev_7, dnev_8, dnev_9, dnev_10, dnev_11, dnif_1, dnw_1, true_imp_iff, not_true_eq_false, false_imp_iff, and_true, true_and, dnw_2, e3]
    exact fin l5 (by omega) D3 ((O1.trans L1.ov).trans O3)
  · rw [sNx_ap, wS_nx]
    refine hold (seq_h ?_)
    simp -dsimp -implicitDefEqProofs only [Out.bind_ok, Out.bind_err, Out.bind_no, dnev_1, dnev_2, dnev_3, dnev_4, List.getElem?_cons_zero, List.getElem?_cons_succ, List.set_cons_zero, List.set_cons_succ, decide_true, decide_false, Bool.not_false, Bool.not_true, Bool.not_not, List.cons_append, List.nil_append, dnev_5, dnev_6, get_last, set_last, dnev_7, dnev_8, dnev_9, dnev_10, dnev_11, dnif_1, dnw_1, true_imp_iff, not_true_eq_false, false_imp_iff, and_true, true_and, dnw_2]
    refine draw_w D1 (by decide) fun k h1 D2 L1 k0 _ k2 => ?_
    have k9 := k2 (by decide)
    obtain ⟨m, em⟩ := Int.eq_ofNat_of_zero_le (show 0 ≤ 1 + k by omega)
    simp -dsimp -implicitDefEqProofs only [Out.bind_ok, Out.bind_err, Out.bind_no, dnev_1, dnev_2, dnev_3, dnev_4, List.getElem?_cons_zero, List.getElem?_cons_succ, List.set_cons_zero, List.set_cons_succ, decide_true, decide_false, Bool.not_false, Bool.not_true, Bool.not_not, List.cons_append, List.nil_append, dnev_5, dnev_6, get_last, set_last, dnev_7, dnev_8, dnev_9, dnev_10, dnev_11, dnif_1, dnw_1, true_imp_iff, not_true_eq_false, false_imp_iff, and_true, true_and, dnw_2]
    refine ⟨by omega, ?_⟩
    rw [em, Int.toNat_natCast]
    refine hands_w D2 rfl (by omega) fun ds H3 dl l5 e3 D3 O3 => ?_
    simp -dsimp -implicitDefEqProofs only [Out.bind_ok, Out.bind_err, Out.bind_no, dnev_1, dnev_2, dnev_3, dnev_4, List.getElem?_cons_zero, List.getElem?_cons_succ, List.set_cons_zero, List.set_cons_succ, decide_true, decide_false, Bool.not_false, Bool.not_true, Bool.not_not, List.cons_append, List.nil_append, dnev_5, dnev_6, get_last, set_last, dnev_7, dnev_8, dnev_9, dnev_10, dnev_11, dnif_1, dnw_1, true_imp_iff, not_true_eq_false, false_imp_iff, and_true, true_and, dnw_2, e3]
    have mm : ∀ H, opMul (.tup (natsP ds)) (.int 4000) H = some (.tup (natsP (List.replicate 4000 ds).flatten), H) := fun H => by
      have ln : (natsP ds).length = ds.length := by simp [natsP]
      have ne : natsP ds ≠ [] := fun z => by
        rw [z] at ln
        have : ds.length = 0 := ln.symm
        omega
      have a := mul_many (xs := natsP ds) (k := 4000) (by omega) (by decide) ne H
      have e : (List.replicate 4000 (natsP ds)).flatten = natsP (List.replicate 4000 ds).flatten := by
        unfold natsP
        rw [List.map_flatten, List.map_replicate]
      rw [← e]
      exact a
    refine hold ?_
    simp -dsimp -implicitDefEqProofs only [Out.bind_ok, Out.bind_err, Out.bind_no, dnev_1, dnev_2, dnev_3, dnev_4, List.getElem?_cons_zero, List.getElem?_cons_succ, List.set_cons_zero, List.set_cons_succ, decide_true, decide_false, Bool.not_false, Bool.not_true, Bool.not_not, List.cons_append, List.nil_append, dnev_5, dnev_6, get_last, set_last, dnev_7, dnev_8, dnev_9, dnev_10, dnev_11, dnif_1, dnw_1, true_imp_iff, not_true_eq_false, false_imp_iff, and_true, true_and, dnw_2, mm]
    refine pick_new D3 rfl (by simp) (by simp) fun pk h4 mp D4 O4 => ?_
    obtain ⟨pz, rfl, p4⟩ : ∃ z : Nat, pk = .int z ∧ z ≤ 4000 := by
      simp only [List.mem_cons, List.not_mem_nil, or_false] at mp
      rcases mp with rfl | rfl | rfl
      · exact ⟨3999, rfl, by decide⟩
      · exact ⟨4000, rfl, by decide⟩
      · exact ⟨4000, rfl, by decide⟩
    have ct : cutP (natsP (List.replicate 4000 ds).flatten) none (some ((pz : Nat) : Int)) = natsP ((List.replicate 4000 ds).flatten.take pz) := by
      rw [cut_to (by omega), Int.toNat_natCast]
      unfold natsP
      rw [List.map_take]
    simp -dsimp -implicitDefEqProofs only [Out.bind_ok, Out.bind_err, Out.bind_no, dnev_1, dnev_2, dnev_3, dnev_4, List.getElem?_cons_zero, List.getElem?_cons_succ, List.set_cons_zero, List.set_cons_succ, decide_true, decide_false, Bool.not_false, Bool.not_true, Bool.not_not, List.cons_append, List.nil_append, dnev_5, dnev_6, get_last, set_last, dnev_7, dnev_8, dnev_9, dnev_10, dnev_11, dnif_1, dnw_1, true_imp_iff, not_true_eq_false, false_imp_iff, and_true, true_and, dnw_2, ct]
    refine fin (fun x hx => ?_) (by rw [List.length_take]; omega) D4 (((O1.trans L1.ov).trans O3).trans O4)
    obtain ⟨l, hl, hx⟩ := List.mem_flatten.mp (List.mem_of_mem_take hx)
    rw [List.eq_of_mem_replicate hl] at hx
    exact l5 x hx
end
end Dn
namespace Dn
open PySem PySem.Spec PyProof.Rows L2 PySem.SeqAt Rw

theorem sIx_nat (n a d : Nat) (l : a ≤ n) : HT.sIx n d (some ((a : Nat) : Int)) = a := by
  have := cut_to (xs := List.replicate n PV.non) (k := (a : Nat)) (by omega)
  unfold HT.sIx
  dsimp only
  first
    | (rw [if_neg (by omega), if_neg (by omega)]; omega)
    | (rw [if_neg (by omega)]; omega)
    | omega
theorem cutS_to {cs : List Nat} {a : Nat} (l : a ≤ cs.length) : cutS ⟨cs.toArray⟩ none (some ((a : Nat) : Int)) = ⟨(cs.take a).toArray⟩ := by
  unfold cutS
  have e1 : (⟨cs.toArray⟩ : Str).length = cs.length := by show cs.toArray.size = _; simp
  rw [e1, sIx_nat _ _ _ l]
  have e0 : HT.sIx cs.length 0 none = 0 := rfl
  rw [e0]
  simp
theorem cutS_from {cs : List Nat} {a : Nat} (l : a ≤ cs.length) : cutS ⟨cs.toArray⟩ (some ((a : Nat) : Int)) none = ⟨(cs.drop a).toArray⟩ := by
  unfold cutS
  have e1 : (⟨cs.toArray⟩ : Str).length = cs.length := by show cs.toArray.size = _; simp
  rw [e1, sIx_nat _ _ _ l]
  have e0 : HT.sIx cs.length cs.length none = cs.length := rfl
  rw [e0]
  congr 2
  show (cs.toArray.toList.drop a).take (cs.length - a) = cs.drop a
  rw [List.take_of_length_le (by simp)]
theorem addS (a b : List Nat) (l : a.length + b.length ≤ 16000000) (h : PH) : opAdd (valP a) (valP b) h = some (valP (a ++ b), h) := by
  unfold opAdd valP
  dsimp only
  have e : sizeOk ((⟨a.toArray⟩ : Str).length + (⟨b.toArray⟩ : Str).length) = true := by
    unfold sizeOk
    exact decide_eq_true (by show a.toArray.size + b.toArray.size ≤ 16777216; simp; omega)
  rw [if_pos e]
  have : (⟨a.toArray⟩ : Str) ++ ⟨b.toArray⟩ = ⟨(a ++ b).toArray⟩ := by
    show (⟨a.toArray ++ b.toArray⟩ : Str) = _
    simp
  rw [this]
theorem mulS (m : Nat) (l : 1 ≤ m ∧ m ≤ 100000) (h : PH) : opMulS (.str "0") (.int (m : Nat)) h = some (valP (List.replicate m 48), h) := by
  have z1 : ("0" : Str).length = 1 := by decide +kernel
  have c : ("0" : Str).cps = #[48] := by decide +kernel
  have key : ∀ (n : Nat) (b : Array Nat), (List.replicate n (#[48] : Array Nat)).foldl (· ++ ·) b = b ++ (List.replicate n 48).toArray := by
    intro n
    induction n with
    | zero => intro b; simp
    | succ n ih =>
      intro b
      rw [List.replicate_succ, List.foldl_cons, ih, List.replicate_succ]
      apply Array.toList_inj.mp
      rw [Array.toList_append, Array.toList_append, Array.toList_append]
      show b.toList ++ [48] ++ List.replicate n 48 = b.toList ++ (48 :: List.replicate n 48)
      rw [List.append_assoc]
      rfl
  unfold opMulS
  dsimp only
  rw [z1, decide_eq_true (show (1 : Int) ≤ ((m : Nat) : Int) ∧ ((m : Nat) : Int) ≤ 100000 by omega), c, Int.toNat_natCast, key]
  unfold valP
  simp
end Dn
namespace Dn
open PySem PySem.Spec PyProof.Rows L2 PySem.SeqAt Rw

theorem figs_comp {ds : List Nat} {j : Nat} {s : Sl} {h : PH} (l5 : ∀ x ∈ ds, x < 5) (l : ds.length ≤ 100000) (hj : j < s.length) : compItems [] (gNm j) tYesD (eCall fStr (eCons (eVar j) eNil)) h.length s (natsP ds) (h ++ [.lst []]) = .ok () (h ++ [.lst ((figs ds).map fun c => PV.str (sg c))]) := by
  have cp := comp_pure (gs := []) (g := gNm j) (t := tYesD) (e := eCall fStr (eCons (eVar j) eNil)) (s := s) (h0 := h) (fun _ => true) (fun x => match x with | .int k => .str (sg (48 + k.toNat)) | x => x) (fun _ => rfl) (natsP ds) [] (fun x hx => by
    obtain ⟨k, rfl, hk⟩ := nats_mem hx
    have f := fun H => fig_str (l5 k hk) H
    have sj : (s.set j (some (.int ((k : Nat) : Int))))[j]? = some (some (.int ((k : Nat) : Int))) := List.getElem?_set_self hj
    refine ⟨_, rfl, fun acc => ⟨rfl, fun _ => ?_⟩⟩
    show eCall fStr (eCons (eVar j) eNil) (s.set j (some (.int ((k : Nat) : Int)))) (h ++ [.lst acc]) = _
    simp -dsimp -implicitDefEqProofs only [Out.bind_ok, Out.bind_err, Out.bind_no, dnev_1, dnev_2, dnev_3, dnev_4, List.getElem?_cons_zero, List.getElem?_cons_succ, List.set_cons_zero, List.set_cons_succ, decide_true, decide_false, Bool.not_false, Bool.not_true, Bool.not_not, List.cons_append, List.nil_append, dnev_5, dnev_6, get_last, set_last, dnev_7, dnev_8, dnev_9, dnev_10, dnev_11, sj, f]
    rfl) (by simp [natsP]; omega)
  rw [filter_true, List.nil_append] at cp
  have em : (natsP ds).map (fun x => match x with | .int k => PV.str (sg (48 + k.toNat)) | x => x) = (figs ds).map fun c => PV.str (sg c) := by
    unfold natsP figs
    rw [List.map_map, List.map_map]
    rfl
  rw [em] at cp
  exact cp
def vlB : DS := (sSeq (sAsg (gNm 5) (eCallF (m__law_draw) (eCons (eVar 0) (eCons (eOp opAdd (eCall fLen (eCons (eVar 2) eNil)) (eC (.int 1))) eNil)))) (sAsg (gNm 2) (eOp opAdd (eOp opAdd (eSl opSl (eVar 2) oNone (oSome (eVar 5))) (eCallF (m__law_pick) (eCons (eVar 0) (eCons (eLst (eCons (eC (.str "5")) (eCons (eC (.str "9")) (eCons (eC (.str " ")) (eCons (eC (.str "-")) (eCons (eC (.str "a")) (eCons (eC (.str "\n")) (eCons (eC (.str "0 ")) (eCons (eC (.str "04")) eNil))))))))) eNil)))) (eSl opSl (eVar 2) (oSome (eVar 5)) oNone))))
section
variable {h : PH}
theorem value_w {d g : Nat} {ds : List Nat} {Q : PV → PH → Prop} (D : Dk d g h) (l5 : ∀ x ∈ ds, x < 5) (len : ds.length ≤ 4000)
    (qa : ∀ v h2, Dk d g h2 → Ov d g h h2 → Da 5 (anyW 2) h.length h2 v → Q v h2) (qr : ∀ h2, Dk d g h2 → Ov d g h h2 → Q (.tup (natsP ds)) h2)
    (qt : ∀ cs h2, cs.length ≤ 5000 → (∀ c ∈ cs, c < 1114112) → Dk d g h2 → Ov d g h h2 → Q (valP cs) h2) : wO (m__law_value [.ref d, .tup (natsP ds)] h) Q := by
  refine wO_mk (show [PV.ref d, PV.tup (natsP ds)].length = 2 from rfl) ?_
  have e0 : ("" : Str) = ⟨#[]⟩ := by decide +kernel
  have je := join_eq ds (by omega) h.length (h ++ [.lst ((figs ds).map fun c => PV.str (sg c))]) (get_last _ _)
  rw [← e0] at je
  have fc := figs_comp (ds := ds) (j := 6) (s := [some (.ref d), some (.tup (natsP ds)), none, none, none, none, none]) (h := h) l5 (by omega) (by simp)
  have D0 : Dk d g (h ++ [.lst ((figs ds).map fun c => PV.str (sg c))]) := D.push (o := .lst _) (lowrs_iff.mpr fun y hy => by
    obtain ⟨_, _, rfl⟩ := List.mem_map.mp hy
    rfl)
  unfold g__law_value
  refine seq_h ?_
  simp -dsimp -implicitDefEqProofs only [Out.bind_ok, Out.bind_err, Out.bind_no, dnev_1, dnev_2, dnev_3, dnev_4, List.getElem?_cons_zero, List.getElem?_cons_succ, List.set_cons_zero, List.set_cons_succ, decide_true, decide_false, Bool.not_false, Bool.not_true, Bool.not_not, List.cons_append, List.nil_append, dnev_5, dnev_6, get_last, set_last, dnev_7, dnev_8, dnev_9, dnev_10, dnev_11, dnw_1, true_imp_iff, not_true_eq_false, false_imp_iff, and_true, true_and, dnw_2, fc, je]
  refine draw_w D0 (by decide) fun k h1 D1 L1 k0 _ k2 => ?_
  have k8 := k2 (by decide)
  have O1 : Ov d g h h1 := Ov.push.trans L1.ov
  simp -dsimp -implicitDefEqProofs only [Out.bind_ok, Out.bind_err, Out.bind_no, dnev_1, dnev_2, dnev_3, dnev_4, List.getElem?_cons_zero, List.getElem?_cons_succ, List.set_cons_zero, List.set_cons_succ, decide_true, decide_false, Bool.not_false, Bool.not_true, Bool.not_not, List.cons_append, List.nil_append, dnev_5, dnev_6, get_last, set_last, dnev_7, dnev_8, dnev_9, dnev_10, dnev_11, dnw_1, true_imp_iff, not_true_eq_false, false_imp_iff, and_true, true_and, dnw_2]
  refine hold (seq_h ?_)
  simp -dsimp -implicitDefEqProofs only [Out.bind_ok, Out.bind_err, Out.bind_no, dnev_1, dnev_2, dnev_3, dnev_4, List.getElem?_cons_zero, List.getElem?_cons_succ, List.set_cons_zero, List.set_cons_succ, decide_true, decide_false, Bool.not_false, Bool.not_true, Bool.not_not, List.cons_append, List.nil_append, dnev_5, dnev_6, get_last, set_last, dnev_7, dnev_8, dnev_9, dnev_10, dnev_11, dnif_1, dnw_1, true_imp_iff, not_true_eq_false, false_imp_iff, and_true, true_and, dnw_2]
  have lenS : ∀ cs, cs.length ≤ 16000000 → ∀ H, fLen [valP cs] H = some (.int (cs.length : Nat), H) := fun cs lc H => by
    have e : (⟨cs.toArray⟩ : Str).length = cs.length := by show cs.toArray.size = _; simp
    unfold fLen valP
    dsimp only
    rw [e, if_pos (show sizeOk cs.length = true from decide_eq_true (by omega))]
  refine ⟨fun _ => any_w 8 D1 (by decide) fun v h2 D2 O2 a2 => ?_, fun kz => ?_⟩
  · simp -dsimp -implicitDefEqProofs only [Out.bind_ok, Out.bind_err, Out.bind_no, dnev_1, dnev_2, dnev_3, dnev_4, List.getElem?_cons_zero, List.getElem?_cons_succ, List.set_cons_zero, List.set_cons_succ, decide_true, decide_false, Bool.not_false, Bool.not_true, Bool.not_not, List.cons_append, List.nil_append, dnev_5, dnev_6, get_last, set_last, dnev_7, dnev_8, dnev_9, dnev_10, dnev_11, dnif_1, dnw_1, true_imp_iff, not_true_eq_false, false_imp_iff, and_true, true_and, dnw_2]
    exact gc_da D D2 (O1.trans O2) (a2.kp fun i o l e s => ⟨by have := O1.len; omega, e⟩) fun h4 D4 O4 a4 => qa v h4 D4 O4 a4
  refine hold (seq_h ?_)
  simp -dsimp -implicitDefEqProofs only [Out.bind_ok, Out.bind_err, Out.bind_no, dnev_1, dnev_2, dnev_3, dnev_4, List.getElem?_cons_zero, List.getElem?_cons_succ, List.set_cons_zero, List.set_cons_succ, decide_true, decide_false, Bool.not_false, Bool.not_true, Bool.not_not, List.cons_append, List.nil_append, dnev_5, dnev_6, get_last, set_last, dnev_7, dnev_8, dnev_9, dnev_10, dnev_11, dnif_1, dnw_1, true_imp_iff, not_true_eq_false, false_imp_iff, and_true, true_and, dnw_2]
  refine ⟨fun _ => gc_dk D D1 O1 (lowrs_nats _ _) fun h4 D4 L4 => qr h4 D4 L4.ov, fun k1 => ?_⟩
  refine hold (seq_h (wS_mono (N := fun sl H => ∃ cs x4 x5, sl = [some (.ref d), some (.tup (natsP ds)), some (valP cs), some (.int k), x4, x5, none] ∧ cs.length ≤ 4010 ∧ (k ≤ 3 → cs = figs ds) ∧ (∀ c ∈ cs, c < 1114112) ∧ Dk d g H ∧ Ov d g h H) ?_ (fun sl H ⟨cs, x4, x5, esl, cl, c3, cb, D2, O2⟩ => ?_) fun _ _ x => x))
  · have sgn : ∀ x, x ∈ [PV.str "5", .str "9", .str " ", .str "-", .str "a", .str "\n", .str "0 ", .str "04"] → ∃ us : List Nat, x = valP us ∧ us.length ≤ 2 ∧ ∀ c ∈ us, c < 1114112 := fun x mx => by
      simp only [List.mem_cons, List.not_mem_nil, or_false] at mx
      rcases mx with e | e | e | e | e | e | e | e <;> subst e
      · exact ⟨[53], by unfold valP; exact congrArg PV.str (by decide +kernel), by decide, by decide⟩
      · exact ⟨[57], by unfold valP; exact congrArg PV.str (by decide +kernel), by decide, by decide⟩
      · exact ⟨[32], by unfold valP; exact congrArg PV.str (by decide +kernel), by decide, by decide⟩
      · exact ⟨[45], by unfold valP; exact congrArg PV.str (by decide +kernel), by decide, by decide⟩
      · exact ⟨[97], by unfold valP; exact congrArg PV.str (by decide +kernel), by decide, by decide⟩
      · exact ⟨[10], by unfold valP; exact congrArg PV.str (by decide +kernel), by decide, by decide⟩
      · exact ⟨[48, 32], by unfold valP; exact congrArg PV.str (by decide +kernel), by decide, by decide⟩
      · exact ⟨[48, 52], by unfold valP; exact congrArg PV.str (by decide +kernel), by decide, by decide⟩
    have fb : ∀ c ∈ figs ds, c < 1114112 := fun c hc => by
      obtain ⟨x, hx, rfl⟩ := List.mem_map.mp hc
      have := l5 x hx
      omega
    have fl : (figs ds).length ≤ 4000 := by unfold figs; rw [List.length_map]; exact len
    have loop : ∀ (m : Nat) (H : PH), m ≤ 2 → (k ≤ 3 → m = 0) → Dk d g H → Ov d g h H → wS (forItems [] (gNm 4) vlB (rangeP 0 m) [some (.ref d), some (.tup (natsP ds)), some (txtP ds), some (.int k), none, none, none] H) (fun sl H => ∃ cs x4 x5, sl = [some (.ref d), some (.tup (natsP ds)), some (valP cs), some (.int k), x4, x5, none] ∧ cs.length ≤ 4010 ∧ (k ≤ 3 → cs = figs ds) ∧ (∀ c ∈ cs, c < 1114112) ∧ Dk d g H ∧ Ov d g h H) (fun v H => wO (gcN h (.ok v H)) Q) := fun m H m2 km DH OH => by
      refine for_ww (fun j sl H => ∃ cs x4 x5, sl = [some (.ref d), some (.tup (natsP ds)), some (valP cs), some (.int k), x4, x5, none] ∧ cs.length ≤ 4000 + 2 * j ∧ j ≤ m ∧ (j = 0 → cs = figs ds) ∧ (∀ c ∈ cs, c < 1114112) ∧ Dk d g H ∧ Ov d g h H) ⟨figs ds, _, _, rfl, by omega, Nat.zero_le _, fun _ => rfl, fb, DH, OH⟩ (fun _ _ _ _ => rfl) (fun j x hx sl H ⟨cs, x4, x5, esl, cl, _, _, cb, DH, OH⟩ => ?_) fun sl H ⟨cs, x4, x5, esl, cl, jm, j0, cb, DH, OH⟩ => ?_
      · subst esl
        obtain ⟨rfl, lj⟩ := range_at hx
        refine ⟨_, rfl, ?_⟩
        unfold vlB
        refine seq_h ?_
        simp -dsimp -implicitDefEqProofs only [Out.bind_ok, Out.bind_err, Out.bind_no, dnev_1, dnev_2, dnev_3, dnev_4, List.getElem?_cons_zero, List.getElem?_cons_succ, List.set_cons_zero, List.set_cons_succ, decide_true, decide_false, Bool.not_false, Bool.not_true, Bool.not_not, List.cons_append, List.nil_append, dnev_5, dnev_6, get_last, set_last, dnev_7, dnev_8, dnev_9, dnev_10, dnev_11, dnif_1, dnw_1, true_imp_iff, not_true_eq_false, false_imp_iff, and_true, true_and, dnw_2, lenS cs (by omega)]
        refine draw_w DH (by omega) fun az H2 D2 L2' a0 a1 a2 => ?_
        obtain ⟨a, rfl⟩ := Int.eq_ofNat_of_zero_le a0
        have la : a ≤ cs.length := by
          by_cases z : ((cs.length : Nat) : Int) + 1 < 2
          · have := a1 z; omega
          · have := a2 (by omega); omega
        have s1 : ∀ H, opSl (valP cs) none (some ((a : Nat) : Int)) H = some (valP (cs.take a), H) := fun H => by
          have e : (⟨cs.toArray⟩ : Str).length = cs.length := by show cs.toArray.size = _; simp
          unfold opSl valP
          dsimp only
          rw [e, if_pos (show sizeOk cs.length = true from decide_eq_true (by omega)), cutS_to la]
        have s2 : ∀ H, opSl (valP cs) (some ((a : Nat) : Int)) none H = some (valP (cs.drop a), H) := fun H => by
          have e : (⟨cs.toArray⟩ : Str).length = cs.length := by show cs.toArray.size = _; simp
          unfold opSl valP
          dsimp only
          rw [e, if_pos (show sizeOk cs.length = true from decide_eq_true (by omega)), cutS_from la]
        simp -dsimp -implicitDefEqProofs only [Out.bind_ok, Out.bind_err, Out.bind_no, dnev_1, dnev_2, dnev_3, dnev_4, List.getElem?_cons_zero, List.getElem?_cons_succ, List.set_cons_zero, List.set_cons_succ, decide_true, decide_false, Bool.not_false, Bool.not_true, Bool.not_not, List.cons_append, List.nil_append, dnev_5, dnev_6, get_last, set_last, dnev_7, dnev_8, dnev_9, dnev_10, dnev_11, dnif_1, dnw_1, true_imp_iff, not_true_eq_false, false_imp_iff, and_true, true_and, dnw_2]
        refine hold ?_
        simp -dsimp -implicitDefEqProofs only [Out.bind_ok, Out.bind_err, Out.bind_no, dnev_1, dnev_2, dnev_3, dnev_4, List.getElem?_cons_zero, List.getElem?_cons_succ, List.set_cons_zero, List.set_cons_succ, decide_true, decide_false, Bool.not_false, Bool.not_true, Bool.not_not, List.cons_append, List.nil_append, dnev_5, dnev_6, get_last, set_last, dnev_7, dnev_8, dnev_9, dnev_10, dnev_11, dnif_1, dnw_1, true_imp_iff, not_true_eq_false, false_imp_iff, and_true, true_and, dnw_2, s1]
        refine ⟨by simp, ?_⟩
        refine pick_new D2 rfl (by simp) (by simp) fun x h4 mp D4 O4 => ?_
        obtain ⟨us, rfl, ul, ub⟩ := sgn x mp
        have ad1 := addS (cs.take a) us (by rw [List.length_take]; omega)
        have ad2 := addS (cs.take a ++ us) (cs.drop a) (by rw [List.length_append, List.length_take, List.length_drop]; omega)
        simp -dsimp -implicitDefEqProofs only [Out.bind_ok, Out.bind_err, Out.bind_no, dnev_1, dnev_2, dnev_3, dnev_4, List.getElem?_cons_zero, List.getElem?_cons_succ, List.set_cons_zero, List.set_cons_succ, decide_true, decide_false, Bool.not_false, Bool.not_true, Bool.not_not, List.cons_append, List.nil_append, dnev_5, dnev_6, get_last, set_last, dnev_7, dnev_8, dnev_9, dnev_10, dnev_11, dnif_1, dnw_1, true_imp_iff, not_true_eq_false, false_imp_iff, and_true, true_and, dnw_2, ad1, s2, ad2]
        refine ⟨_, _, _, rfl, by rw [List.length_append, List.length_append, List.length_take, List.length_drop]; omega, lj, (fun z => absurd z (by omega)), fun c hc => ?_, D4, (OH.trans L2'.ov).trans O4⟩
        rcases List.mem_append.mp hc with hc | hc
        · rcases List.mem_append.mp hc with hc | hc
          · exact cb c (List.mem_of_mem_take hc)
          · exact ub c hc
        · exact cb c (List.mem_of_mem_drop hc)
      · have rl : (rangeP 0 m).length = m := range_len _ _
        rw [rl] at cl j0
        exact ⟨cs, x4, x5, esl, by omega, fun z => j0 (km z), cb, DH, OH⟩
    simp -dsimp -implicitDefEqProofs only [Out.bind_ok, Out.bind_err, Out.bind_no, dnev_1, dnev_2, dnev_3, dnev_4, List.getElem?_cons_zero, List.getElem?_cons_succ, List.set_cons_zero, List.set_cons_succ, decide_true, decide_false, Bool.not_false, Bool.not_true, Bool.not_not, List.cons_append, List.nil_append, dnev_5, dnev_6, get_last, set_last, dnev_7, dnev_8, dnev_9, dnev_10, dnev_11, dnif_1, dnw_1, true_imp_iff, not_true_eq_false, false_imp_iff, and_true, true_and, dnw_2]
    refine ⟨fun k3 => draw_w D1 (by decide) fun c h2 D2 L2' c0 _ c2 => ?_, fun k3 => ?_⟩
    · have c3 := c2 (by decide)
      obtain ⟨m, rfl⟩ := Int.eq_ofNat_of_zero_le c0
      simp -dsimp -implicitDefEqProofs only [Out.bind_ok, Out.bind_err, Out.bind_no, dnev_1, dnev_2, dnev_3, dnev_4, List.getElem?_cons_zero, List.getElem?_cons_succ, List.set_cons_zero, List.set_cons_succ, decide_true, decide_false, Bool.not_false, Bool.not_true, Bool.not_not, List.cons_append, List.nil_append, dnev_5, dnev_6, get_last, set_last, dnev_7, dnev_8, dnev_9, dnev_10, dnev_11, dnif_1, dnw_1, true_imp_iff, not_true_eq_false, false_imp_iff, and_true, true_and, dnw_2]
      refine ⟨by omega, ?_⟩
      rw [Int.toNat_natCast]
      exact loop m h2 (by omega) (fun z => absurd z (by omega)) D2 (O1.trans L2'.ov)
    · exact ⟨by decide, loop 0 h1 (by omega) (fun _ => rfl) D1 O1⟩
  · subst esl
    refine hold ?_
    simp -dsimp -implicitDefEqProofs only [Out.bind_ok, Out.bind_err, Out.bind_no, dnev_1, dnev_2, dnev_3, dnev_4, List.getElem?_cons_zero, List.getElem?_cons_succ, List.set_cons_zero, List.set_cons_succ, decide_true, decide_false, Bool.not_false, Bool.not_true, Bool.not_not, List.cons_append, List.nil_append, dnev_5, dnev_6, get_last, set_last, dnev_7, dnev_8, dnev_9, dnev_10, dnev_11, dnif_1, dnw_1, true_imp_iff, not_true_eq_false, false_imp_iff, and_true, true_and, dnw_2]
    refine ⟨fun k2 => ?_, fun _ => gc_dk D D2 O2 rfl fun h4 D4 L4 => qt cs h4 (by omega) cb D4 L4.ov⟩
    have ec := c3 (by omega)
    have fl : cs.length ≤ 4000 := by rw [ec]; unfold figs; rw [List.length_map]; exact len
    simp -dsimp -implicitDefEqProofs only [Out.bind_ok, Out.bind_err, Out.bind_no, dnev_1, dnev_2, dnev_3, dnev_4, List.getElem?_cons_zero, List.getElem?_cons_succ, List.set_cons_zero, List.set_cons_succ, decide_true, decide_false, Bool.not_false, Bool.not_true, Bool.not_not, List.cons_append, List.nil_append, dnev_5, dnev_6, get_last, set_last, dnev_7, dnev_8, dnev_9, dnev_10, dnev_11, dnif_1, dnw_1, true_imp_iff, not_true_eq_false, false_imp_iff, and_true, true_and, dnw_2, lenS cs (by omega)]
    refine draw_w D2 (by decide) fun u h3 D3 L3 u0 _ u2 => ?_
    have u3 := u2 (by decide)
    obtain ⟨m, em⟩ := Int.eq_ofNat_of_zero_le (show 0 ≤ 4001 - (cs.length : Int) + u by omega)
    have mm := mulS m (by omega)
    have ad := addS cs (List.replicate m 48) (by rw [List.length_replicate]; omega)
    simp -dsimp -implicitDefEqProofs only [Out.bind_ok, Out.bind_err, Out.bind_no, dnev_1, dnev_2, dnev_3, dnev_4, List.getElem?_cons_zero, List.getElem?_cons_succ, List.set_cons_zero, List.set_cons_succ, decide_true, decide_false, Bool.not_false, Bool.not_true, Bool.not_not, List.cons_append, List.nil_append, dnev_5, dnev_6, get_last, set_last, dnev_7, dnev_8, dnev_9, dnev_10, dnev_11, dnif_1, dnw_1, true_imp_iff, not_true_eq_false, false_imp_iff, and_true, true_and, dnw_2, em, mm, ad]
    refine gc_dk D D3 (O2.trans L3.ov) rfl fun h4 D4 L4 => qt _ h4 (by rw [List.length_append, List.length_replicate]; omega) (fun c hc => ?_) D4 L4.ov
    rcases List.mem_append.mp hc with hc | hc
    · exact cb c hc
    · rw [List.eq_of_mem_replicate hc]; decide
end
end Dn
namespace Dn
open PySem PySem.Spec PyProof.Rows L2 PySem.SeqAt Rw

/-! ### values that are no texts -/
def NoText (h : PH) (v : PV) : Prop := ∃ ty, tyP h v = some ty ∧ Rw.isC "str" ty = false
theorem da_kind {k w n : Nat} {h : PH} {v : PV} (a : Da k w n h v) : (∃ z, v = .str z) ∨ NoText h v := by
  obtain ⟨d, e, _, _⟩ := a
  cases k with
  | zero => cases e
  | succ k =>
    cases v with
    | str z => exact .inl ⟨z, rfl⟩
    | non => exact .inr ⟨_, rfl, by decide +kernel⟩
    | bl b => exact .inr ⟨_, rfl, by decide +kernel⟩
    | int i => exact .inr ⟨_, rfl, by decide +kernel⟩
    | tup xs => exact .inr ⟨_, rfl, by decide +kernel⟩
    | kt xs => cases e
    | fz xs => cases e
    | ref m =>
      unfold toE at e
      dsimp only at e
      split at e
      · rename_i xs q
        obtain ⟨_, q2⟩ := msk_at q rfl
        exact .inr ⟨"list", by unfold tyP; dsimp only; rw [q2], by decide +kernel⟩
      · rename_i z y q
        obtain ⟨_, q2⟩ := msk_at q rfl
        exact .inr ⟨"dict", by unfold tyP; dsimp only; rw [q2], by decide +kernel⟩
      · cases e
section
variable {h : PH} {v : PV}
theorem read_none (c : Cl h.length h) (nt : NoText h v) : m_read_run [v] h = .err ⟨"BadText", some ("place", .int 0)⟩ h := by
  obtain ⟨ty, e1, e2⟩ := nt
  refine (mk_at (show [v].length = 1 from rfl)).trans ?_
  have er : runB g_read_run 3 [v] h = .err ⟨"BadText", some ("place", .int 0)⟩ h := by
    unfold runB g_read_run
    simp only [Out.bind_ok, Out.bind_err, Out.bind_no, dnev_1, dnev_2, dnev_3, dnev_4, List.getElem?_cons_zero, List.getElem?_cons_succ, List.set_cons_zero, List.set_cons_succ, decide_true, decide_false, Bool.not_false, Bool.not_true, Bool.not_not, List.cons_append, List.nil_append, dnev_5, dnev_6, get_last, set_last, dnev_7, dnev_8, dnev_9, dnev_10, dnev_11, dnif_1, e1, e2, Bool.not_false]
    rfl
  rw [er]
  exact gc_er c (.refl c) rfl
theorem due_none (c : Cl h.length h) (nt : NoText h v) : m__law_due [v] h = .ok (.tup [.str "text", .int 0]) h := by
  obtain ⟨ty, e1, e2⟩ := nt
  refine eq_of_wO (wO_mk (show [v].length = 1 from rfl) ?_)
  unfold g__law_due
  refine seq_h ?_
  simp -dsimp -implicitDefEqProofs only [Out.bind_ok, Out.bind_err, Out.bind_no, dnev_1, dnev_2, dnev_3, dnev_4, List.getElem?_cons_zero, List.getElem?_cons_succ, List.set_cons_zero, List.set_cons_succ, decide_true, decide_false, Bool.not_false, Bool.not_true, Bool.not_not, List.cons_append, List.nil_append, dnev_5, dnev_6, get_last, set_last, dnev_7, dnev_8, dnev_9, dnev_10, dnev_11, dnif_1, dnw_1, true_imp_iff, not_true_eq_false, false_imp_iff, and_true, true_and, dnw_2, e1, e2, Bool.not_false]
  exact gc_gr c (.refl c) rfl ⟨rfl, rfl⟩
theorem heard_none {k : Bool} (c : Cl h.length h) (nt : NoText h v) : m__law_heard [v, .bl k] h = .ok (.tup [.str "text", .int 0]) h := by
  refine eq_of_wO (wO_mk (show [v, .bl k].length = 2 from rfl) ?_)
  have e1 := read_none c nt
  have p1 : ∀ x : PV, atPl [0] [x] = [x] := fun _ => rfl
  unfold g__law_heard
  refine try_w (wE_er (z := ⟨"BadText", some ("place", .int 0)⟩) (s := [some v, some (.bl k), none]) (h := h) ?_ ⟨rfl, ⟨_, rfl⟩, ?_⟩)
  · cases k
    · simp only [Out.bind_ok, Out.bind_err, Out.bind_no, dnev_1, dnev_2, dnev_3, dnev_4, List.getElem?_cons_zero, List.getElem?_cons_succ, List.set_cons_zero, List.set_cons_succ, decide_true, decide_false, Bool.not_false, Bool.not_true, Bool.not_not, List.cons_append, List.nil_append, dnev_5, dnev_6, get_last, set_last, dnev_7, dnev_8, dnev_9, dnev_10, dnev_11, dnif_1, e1, p1]
    · simp only [Out.bind_ok, Out.bind_err, Out.bind_no, dnev_1, dnev_2, dnev_3, dnev_4, List.getElem?_cons_zero, List.getElem?_cons_succ, List.set_cons_zero, List.set_cons_succ, decide_true, decide_false, Bool.not_false, Bool.not_true, Bool.not_not, List.cons_append, List.nil_append, dnev_5, dnev_6, get_last, set_last, dnev_7, dnev_8, dnev_9, dnev_10, dnev_11, dnif_1, e1, p1]
  · show wS (OutS.rt (.tup [.str "text", .int 0]) h) _ _
    rw [wS_rt]
    exact gc_gr c (.refl c) rfl ⟨rfl, rfl⟩
end
end Dn
namespace Dn
open PySem PySem.Spec PyProof.Rows L2 PySem.SeqAt Rw

/-- what is due of a value, whatever lies behind -/
def Due (h : PH) (v due : PV) : Prop := Pn 3 due ∧ ∀ H, Gr h H → m__law_due [v] H = .ok due H ∧ ∀ k, m__law_heard [v, .bl k] H = .ok due H
theorem NoText.gr {h H : PH} {v : PV} (nt : NoText h v) (G : Gr h H) : NoText H v := by
  obtain ⟨ty, e1, e2⟩ := nt
  refine ⟨ty, ?_, e2⟩
  cases v with
  | ref m =>
    unfold tyP at e1 ⊢
    dsimp only at e1 ⊢
    by_cases l : m < h.length
    · rw [G.at_ m l]
      exact e1
    · rw [List.getElem?_eq_none (by omega)] at e1
      cases e1
  | _ => exact e1
theorem due_of_none {h : PH} {v : PV} (nt : NoText h v) : ∃ due, Due h v due :=
  ⟨_, .pair (.str (by decide +kernel)) (.int 0), fun H G => ⟨due_none G.cl (nt.gr G), fun k => heard_none G.cl (nt.gr G)⟩⟩
theorem due_of_text {h : PH} (cs : List Nat) (l : cs.length ≤ 100000) : ∃ due, Due h (valP cs) due := by
  rcases text_or cs [] (by simp) (by decide) with ⟨all, len⟩ | ⟨p, b, post, e, all, len, bad⟩
  · rw [List.nil_append] at all len
    refine ⟨.tup [.str "told", .tup (natsP (cs.map (· - 48)))], .pair (.str (by decide +kernel)) (.tup fun x hx => ?_), fun H G => ⟨due_good G.cl all len, fun k => heard_good G.cl all len⟩⟩
    obtain ⟨k, rfl, _⟩ := nats_mem hx
    exact .int _
  · rw [List.nil_append] at e
    subst e
    exact ⟨_, .pair (.str (by decide +kernel)) (.int _), fun H G => ⟨due_bad G.cl all len bad l, fun k => heard_bad G.cl all len bad⟩⟩
/-- what a drawn value may be -/
def ValOk (h0 h : PH) (v : PV) : Prop := (∃ due, Due h v due) ∧ Da 16 100000 h0.length h v
theorem val_w {d g : Nat} {ds : List Nat} {h : PH} {Q : PV → PH → Prop} (D : Dk d g h) (l5 : ∀ x ∈ ds, x < 5) (len : ds.length ≤ 4000) (q : ∀ v h2, Dk d g h2 → Ov d g h h2 → ValOk h h2 v → Q v h2) : wO (m__law_value [.ref d, .tup (natsP ds)] h) Q := by
  have txt : ∀ cs H, cs.length ≤ 5000 → (∀ c ∈ cs, c < 1114112) → ValOk h H (valP cs) := fun cs H l b => ⟨due_of_text cs (by omega), (Da.str (k := 15) (w := 100000) (by
    simp only [List.all_eq_true, decide_eq_true_eq]
    exact fun c hc => b c hc) (by show cs.toArray.size ≤ 100000; simp; omega))⟩
  refine value_w D l5 len (fun v h2 D2 O2 a2 => ?_) (fun h2 D2 O2 => ?_) fun cs h2 l b D2 O2 => q _ h2 D2 O2 (txt cs h2 l b)
  · refine q v h2 D2 O2 ⟨?_, a2.up (by decide) (by simp [anyW])⟩
    rcases da_kind a2 with ⟨z, rfl⟩ | nt
    · obtain ⟨dd, e, _, w⟩ := a2
      have lz : z.cps.size ≤ 100000 := by
        have e2 : some (PyData.str z) = some dd := e
        cases e2
        have : z.cps.size ≤ anyW 2 := w
        simp [anyW] at this
        omega
      exact due_of_text z.cps.toList (by simpa using lz)
    · exact due_of_none nt
  · refine q _ h2 D2 O2 ⟨due_of_none ⟨_, rfl, by decide +kernel⟩, ?_⟩
    exact (Da.tup (k := 2) ((Das.all (w := 7) fun x hx => by
      obtain ⟨k, rfl, hk⟩ := nats_mem hx
      have := l5 k hk
      exact .small (by omega) (by omega) (by omega)).up (Nat.le_refl _) (by simp [natsP]; omega))).up (by omega) (Nat.le_refl _)
end Dn
namespace Dn
open PySem PySem.Spec PyProof.Rows L2 PySem.SeqAt Rw

/-- a list of drawn hands, in any slots -/
theorem hands_g {d g N m i j : Nat} {s : Sl} {h : PH} {Q : Unit → PH → Prop} (D : Dk d g h) (hN : N = h.length) (lm : m ≤ 1000) (si : s[i]? = some (some (.ref d))) (ij : i ≠ j) (q : ∀ ds H, ds.length = m → (∀ x ∈ ds, x < 5) → H[N]? = some (.lst (natsP ds)) → Dk d g H → Ov d g h H → Q () H) :
    wO (compItems [] (gNm j) tYesD (eCallF m__law_draw (eCons (eVar i) (eCons (eC (.int 5)) eNil))) N s (rangeP 0 m) (h ++ [.lst []])) Q := by
  subst hN
  obtain ⟨ld, lg⟩ := D.lt
  have rl : (rangeP 0 m).length = m := range_len _ _
  refine comp_w (gs := []) (items := rangeP 0 m) (fun k acc H => ∃ ds : List Nat, acc = natsP ds ∧ ds.length = k ∧ k ≤ m ∧ (∀ x ∈ ds, x < 5) ∧ H[h.length]? = some (.lst acc) ∧ Dk d g H ∧ Ov d g h H) (fun k acc H ⟨_, _, _, _, _, e, _⟩ => ⟨e, rfl⟩) (fun k x hx acc H ⟨ds, ea, el, lj, l5, eH, DH, OH⟩ => ?_) 0 [] _ (Nat.zero_le _) ⟨[], rfl, rfl, Nat.zero_le _, by simp, get_last _ _, D.push (o := .lst []) rfl, .push⟩ fun acc H ⟨ds, ea, el, lj, l5, eH, DH, OH⟩ => ?_
  · obtain ⟨rfl, lj2⟩ := range_at hx
    refine ⟨_, rfl, ?_⟩
    have sj : (s.set j (some (PV.int (0 + ((k : Nat) : Int)))))[i]? = some (some (.ref d)) := by rw [List.getElem?_set_ne (fun e => ij e.symm)]; exact si
    show wO (tYesD (s.set j (some (PV.int (0 + ((k : Nat) : Int))))) H) _
    simp -dsimp -implicitDefEqProofs only [Out.bind_ok, Out.bind_err, Out.bind_no, dnev_1, dnev_2, dnev_3, dnev_4, List.getElem?_cons_zero, List.getElem?_cons_succ, List.set_cons_zero, List.set_cons_succ, decide_true, decide_false, Bool.not_false, Bool.not_true, Bool.not_not, List.cons_append, List.nil_append, dnev_5, dnev_6, get_last, set_last, dnev_7, dnev_8, dnev_9, dnev_10, dnev_11, dnif_1, dnw_1, true_imp_iff, not_true_eq_false, false_imp_iff, and_true, true_and, dnw_2, sj]
    refine ⟨?_, fun z => nomatch z⟩
    refine draw_w DH (by decide) fun c H2 D2 L2' c0 _ c2 => ?_
    have c5 := c2 (by decide)
    obtain ⟨u, rfl⟩ := Int.eq_ofNat_of_zero_le c0
    have e2 : H2[h.length]? = some (.lst acc) := by rw [L2'.at_ _ (by omega) (by omega)]; exact eH
    have en : acc ++ [PV.int ((u : Nat) : Int)] = natsP (ds ++ [u]) := by
      rw [ea]
      unfold natsP
      rw [List.map_append]
      rfl
    refine ⟨e2, by rw [ea]; simp [natsP]; omega, ds ++ [u], en, by rw [List.length_append, el]; rfl, lj2, fun x hx => ?_, List.getElem?_set_self (List.getElem?_eq_some_iff.mp e2).1, D2.setL (by omega) (by omega) (by rw [en]; exact lowrs_nats _ _), (OH.trans L2'.ov).set (Nat.le_refl _)⟩
    rcases List.mem_append.mp hx with hx | hx
    · exact l5 x hx
    · rw [List.mem_singleton.mp hx]; omega
  · subst ea
    exact q ds H (by rw [el, rl]) l5 eH DH OH
theorem figs_back (ds : List Nat) : (figs ds).map (· - 48) = ds := by
  unfold figs
  rw [List.map_map]
  have : ((fun x : Nat => x - 48) ∘ fun x => 48 + x) = id := by
    funext x
    show 48 + x - 48 = x
    omega
  rw [this, List.map_id]
theorem figs_fig {ds : List Nat} (l5 : ∀ x ∈ ds, x < 5) : ∀ c ∈ figs ds, isFig c = true := fun c hc => by
  obtain ⟨x, hx, rfl⟩ := List.mem_map.mp hc
  have := l5 x hx
  exact decide_eq_true (by omega)
theorem Pn.txt {ds : List Nat} (l5 : ∀ x ∈ ds, x < 5) : Pn 0 (txtP ds) := .str (by
  unfold PyData.strOk
  show ((figs ds).toArray.all fun c => decide (c < 1114112)) = true
  rw [← Array.all_toList]
  simp only [List.all_eq_true, decide_eq_true_eq]
  intro c hc
  have hc : c ∈ figs ds := by simpa using hc
  obtain ⟨x, hx, rfl⟩ := List.mem_map.mp hc
  have := l5 x hx
  omega)
end Dn
namespace Dn
open PySem PySem.Spec PyProof.Rows L2 PySem.SeqAt Rw

/-- a run and a value as data -/
theorem repr_rv {h0 h : PH} {ds : List Nat} {v : PV} (c : Cl h.length h) (l5 : ∀ x ∈ ds, x < 5) (len : ds.length ≤ 4000) (ok : ValOk h0 h v) : ∃ z, ∀ (H : PH) (k : Nat), Gr h H → h0.length ≤ k → H[k]? = some (.lst [.tup (natsP ds), v]) → fRepr [.ref k] H = some (.str z, H) := by
  obtain ⟨d1, e1, n1, w1⟩ := ok.2
  have a0 : Da 16 100000 h0.length h (.tup (natsP ds)) := (Da.tup (k := 2) ((Das.all (w := 7) fun x hx => by
    obtain ⟨k, rfl, hk⟩ := nats_mem hx
    have := l5 k hk
    exact .small (by omega) (by omega) (by omega)).up (Nat.le_refl _) (by simp [natsP]; omega))).up (by omega) (Nat.le_refl _)
  obtain ⟨d0, e0, n0, w0⟩ := a0
  refine ⟨PyData.shown (.list [d0, d1]), fun H k G lk hk => ?_⟩
  exact repr2 (n := h0.length) (h := h) e0 n0 (by omega) e1 n1 (by omega) hk lk (fun i o l e s => ⟨l, by
    have li : i < h.length := (List.getElem?_eq_some_iff.mp e).1
    rw [G.at_ i li]
    exact e⟩)
theorem law_w (ns : List Int) (len : ns.length ≤ 63) : wO (m_law [.fz (ns.map PV.int)] []) fun v _ => v = .bl true := by
  refine wO_mk (show [PV.fz (ns.map PV.int)].length = 1 from rfl) ?_
  obtain ⟨h0, e0, D0⟩ := deck_ok ns len
  refine seq_h ?_
  simp -dsimp -implicitDefEqProofs only [Out.bind_ok, Out.bind_err, Out.bind_no, dnev_1, dnev_2, dnev_3, dnev_4, List.getElem?_cons_zero, List.getElem?_cons_succ, List.set_cons_zero, List.set_cons_succ, decide_true, decide_false, Bool.not_false, Bool.not_true, Bool.not_not, List.cons_append, List.nil_append, dnev_5, dnev_6, get_last, set_last, dnev_7, dnev_8, dnev_9, dnev_10, dnev_11, dnw_1, true_imp_iff, not_true_eq_false, false_imp_iff, and_true, true_and, dnw_2, e0]
  refine hold (seq_h ?_)
  simp -dsimp -implicitDefEqProofs only [Out.bind_ok, Out.bind_err, Out.bind_no, dnev_1, dnev_2, dnev_3, dnev_4, List.getElem?_cons_zero, List.getElem?_cons_succ, List.set_cons_zero, List.set_cons_succ, decide_true, decide_false, Bool.not_false, Bool.not_true, Bool.not_not, List.cons_append, List.nil_append, dnev_5, dnev_6, get_last, set_last, dnev_7, dnev_8, dnev_9, dnev_10, dnev_11, dnw_1, true_imp_iff, not_true_eq_false, false_imp_iff, and_true, true_and, dnw_2]
  refine ⟨by decide, ?_⟩
  refine for_ww (fun i sl h' => ∃ x2 x3 x4 x5 x6 x7 x8 x9 x10 x11 x12, sl = [some (.fz (ns.map PV.int)), some (.ref 2), x2, x3, x4, x5, x6, x7, x8, x9, x10, x11, x12] ∧ Dk 2 4 h')
    ⟨none, none, none, none, none, none, none, none, none, none, none, rfl, D0⟩ (fun _ _ _ _ => rfl) (fun i x hx sl h1 ⟨x2, x3, x4, x5, x6, x7, x8, x9, x10, x11, x12, esl, D1⟩ => ?_) fun sl h1 ⟨x2, x3, x4, x5, x6, x7, x8, x9, x10, x11, x12, esl, D1⟩ => ?_
  · subst esl
    obtain ⟨rfl, _⟩ := range_at hx
    refine ⟨_, rfl, ?_⟩
    refine seq_h ?_
    simp -dsimp -implicitDefEqProofs only [Out.bind_ok, Out.bind_err, Out.bind_no, dnev_1, dnev_2, dnev_3, dnev_4, List.getElem?_cons_zero, List.getElem?_cons_succ, List.set_cons_zero, List.set_cons_succ, decide_true, decide_false, Bool.not_false, Bool.not_true, Bool.not_not, List.cons_append, List.nil_append, dnev_5, dnev_6, get_last, set_last, dnev_7, dnev_8, dnev_9, dnev_10, dnev_11, dnw_1, true_imp_iff, not_true_eq_false, false_imp_iff, and_true, true_and, dnw_2]
    refine row_w D1 fun ds h2 l5 ll D2 L2' => ?_
    simp -dsimp -implicitDefEqProofs only [Out.bind_ok, Out.bind_err, Out.bind_no, dnev_1, dnev_2, dnev_3, dnev_4, List.getElem?_cons_zero, List.getElem?_cons_succ, List.set_cons_zero, List.set_cons_succ, decide_true, decide_false, Bool.not_false, Bool.not_true, Bool.not_not, List.cons_append, List.nil_append, dnev_5, dnev_6, get_last, set_last, dnev_7, dnev_8, dnev_9, dnev_10, dnev_11, dnw_1, true_imp_iff, not_true_eq_false, false_imp_iff, and_true, true_and, dnw_2]
    refine draw_w D2 (by decide) fun k h3 D3 L3 k0 _ k2 => ?_
    have k4 := k2 (by decide)
    obtain ⟨m, rfl⟩ := Int.eq_ofNat_of_zero_le k0
    simp -dsimp -implicitDefEqProofs only [Out.bind_ok, Out.bind_err, Out.bind_no, dnev_1, dnev_2, dnev_3, dnev_4, List.getElem?_cons_zero, List.getElem?_cons_succ, List.set_cons_zero, List.set_cons_succ, decide_true, decide_false, Bool.not_false, Bool.not_true, Bool.not_not, List.cons_append, List.nil_append, dnev_5, dnev_6, get_last, set_last, dnev_7, dnev_8, dnev_9, dnev_10, dnev_11, dnw_1, true_imp_iff, not_true_eq_false, false_imp_iff, and_true, true_and, dnw_2]
    refine ⟨by omega, ?_⟩
    rw [Int.toNat_natCast]
    refine hands_g (i := 1) (j := 11) D3 rfl (by omega) rfl (by decide) fun os H4 ol o5 e4 D4 O4 => ?_
    simp -dsimp -implicitDefEqProofs only [Out.bind_ok, Out.bind_err, Out.bind_no, dnev_1, dnev_2, dnev_3, dnev_4, List.getElem?_cons_zero, List.getElem?_cons_succ, List.set_cons_zero, List.set_cons_succ, decide_true, decide_false, Bool.not_false, Bool.not_true, Bool.not_not, List.cons_append, List.nil_append, dnev_5, dnev_6, get_last, set_last, dnev_7, dnev_8, dnev_9, dnev_10, dnev_11, dnw_1, true_imp_iff, not_true_eq_false, false_imp_iff, and_true, true_and, dnw_2, e4]
    refine hold (seq_h ?_)
    simp -dsimp -implicitDefEqProofs only [Out.bind_ok, Out.bind_err, Out.bind_no, dnev_1, dnev_2, dnev_3, dnev_4, List.getElem?_cons_zero, List.getElem?_cons_succ, List.set_cons_zero, List.set_cons_succ, decide_true, decide_false, Bool.not_false, Bool.not_true, Bool.not_not, List.cons_append, List.nil_append, dnev_5, dnev_6, get_last, set_last, dnev_7, dnev_8, dnev_9, dnev_10, dnev_11, dnw_1, true_imp_iff, not_true_eq_false, false_imp_iff, and_true, true_and, dnw_2]
    refine val_w D4 l5 ll fun v h5 D5 O5 vok => ?_
    simp -dsimp -implicitDefEqProofs only [Out.bind_ok, Out.bind_err, Out.bind_no, dnev_1, dnev_2, dnev_3, dnev_4, List.getElem?_cons_zero, List.getElem?_cons_succ, List.set_cons_zero, List.set_cons_succ, decide_true, decide_false, Bool.not_false, Bool.not_true, Bool.not_not, List.cons_append, List.nil_append, dnev_5, dnev_6, get_last, set_last, dnev_7, dnev_8, dnev_9, dnev_10, dnev_11, dnw_1, true_imp_iff, not_true_eq_false, false_imp_iff, and_true, true_and, dnw_2]
    obtain ⟨z, hz⟩ := repr_rv D5.cl l5 ll vok
    obtain ⟨⟨due, pd, hd⟩, av⟩ := vok
    have c5 := D5.cl
    have g4 := O5.len
    have lrv : ∀ n, h5.length ≤ n → PV.lowrs n [.tup (natsP ds), v] = true := fun n l => by
      have := lowr_mono l _ av.low
      simp only [PV.lowrs, PV.lowr, lowrs_nats, Bool.true_and, Bool.and_true, this]
    have du := (hd h5 (.refl c5)).1
    have G1 : Gr h5 (h5 ++ [.lst [.tup (natsP ds), v]]) := (Gr.refl c5).pushL (lrv _ (by omega))
    have r1 := hz _ h5.length G1 g4 (get_last _ _)
    refine hold (seq_h ?_)
    simp -dsimp -implicitDefEqProofs only [Out.bind_ok, Out.bind_err, Out.bind_no, dnev_1, dnev_2, dnev_3, dnev_4, List.getElem?_cons_zero, List.getElem?_cons_succ, List.set_cons_zero, List.set_cons_succ, decide_true, decide_false, Bool.not_false, Bool.not_true, Bool.not_not, List.cons_append, List.nil_append, dnev_5, dnev_6, get_last, set_last, dnev_7, dnev_8, dnev_9, dnev_10, dnev_11, dnw_1, true_imp_iff, not_true_eq_false, false_imp_iff, and_true, true_and, dnw_2, du, r1]
    generalize h5 ++ [MO.lst [PV.tup (natsP ds), v]] = H1 at G1
    have e0' : ("" : Str) = ⟨#[]⟩ := by decide +kernel
    have lf : ∀ l n, PV.lowrs n ((figs l).map fun c => PV.str (sg c)) = true := fun l n => lowrs_iff.mpr fun y hy => by
      obtain ⟨_, _, rfl⟩ := List.mem_map.mp hy
      rfl
    have G2 : Gr h5 (H1 ++ [.lst ((figs ds).map fun c => PV.str (sg c))]) := G1.pushL (lf _ _)
    have fc1 := figs_comp (ds := ds) (j := 12) (s := [some (.fz (ns.map PV.int)), some (.ref 2), some (.int (0 + (i : Nat))), some (.tup (natsP ds)), some (.tup (natsP os)), some v, some due, some (.str z), x8, x9, x10, x11, none]) (h := H1) l5 (by omega) (by simp)
    have je1 := join_eq ds (by omega) H1.length (H1 ++ [.lst ((figs ds).map fun c => PV.str (sg c))]) (get_last _ _)
    rw [← e0'] at je1
    refine hold (seq_h ?_)
    simp -dsimp -implicitDefEqProofs only [Out.bind_ok, Out.bind_err, Out.bind_no, dnev_1, dnev_2, dnev_3, dnev_4, List.getElem?_cons_zero, List.getElem?_cons_succ, List.set_cons_zero, List.set_cons_succ, decide_true, decide_false, Bool.not_false, Bool.not_true, Bool.not_not, List.cons_append, List.nil_append, dnev_5, dnev_6, get_last, set_last, dnev_7, dnev_8, dnev_9, dnev_10, dnev_11, dnw_1, true_imp_iff, not_true_eq_false, false_imp_iff, and_true, true_and, dnw_2, fc1, je1]
    generalize H1 ++ [MO.lst ((figs ds).map fun c => PV.str (sg c))] = H2 at G2
    have G3 : Gr h5 (H2 ++ [.lst ((figs os).map fun c => PV.str (sg c))]) := G2.pushL (lf _ _)
    have fc2 := figs_comp (ds := os) (j := 12) (s := [some (.fz (ns.map PV.int)), some (.ref 2), some (.int (0 + (i : Nat))), some (.tup (natsP ds)), some (.tup (natsP os)), some v, some due, some (.str z), x8, x9, x10, x11, none]) (h := H2) o5 (by omega) (by simp)
    have je2 := join_eq os (by omega) H2.length (H2 ++ [.lst ((figs os).map fun c => PV.str (sg c))]) (get_last _ _)
    rw [← e0'] at je2
    simp -dsimp -implicitDefEqProofs only [Out.bind_ok, Out.bind_err, Out.bind_no, dnev_1, dnev_2, dnev_3, dnev_4, List.getElem?_cons_zero, List.getElem?_cons_succ, List.set_cons_zero, List.set_cons_succ, decide_true, decide_false, Bool.not_false, Bool.not_true, Bool.not_not, List.cons_append, List.nil_append, dnev_5, dnev_6, get_last, set_last, dnev_7, dnev_8, dnev_9, dnev_10, dnev_11, dnw_1, true_imp_iff, not_true_eq_false, false_imp_iff, and_true, true_and, dnw_2, fc2, je2]
    generalize H2 ++ [MO.lst ((figs os).map fun c => PV.str (sg c))] = H3 at G3
    have c3 := G3.cl
    have rt1 := run_text_eq c3 l5 (by omega)
    have rt2 := run_text_eq (ds := os) c3 o5 (by omega)
    have p1 : ∀ x : PV, atPl [0] [x] = [x] := fun _ => rfl
    have rr : ∀ l : List Nat, (∀ x ∈ l, x < 5) → l.length ≤ 4000 → m_read_run [txtP l] H3 = .ok (.tup (natsP l)) H3 := fun l a b => by
      have := read_run_eq (cs := figs l) c3 (figs_fig a) (by unfold figs; rw [List.length_map]; exact b)
      rw [figs_back] at this
      exact this
    have rr1 := rr ds l5 ll
    have rr2 := rr os o5 (by omega)
    have s1 := (Pn.txt l5).same (h := H3) (by decide)
    have s2 := (Pn.txt o5).same (h := H3) (by decide)
    have s3 := (Pn.nats (n := 0) ds).same (h := H3) (by decide)
    have s4 := (Pn.nats (n := 0) os).same (h := H3) (by decide)
    have s5 := pd.same (h := H3) (by decide)
    have hd3 := (hd H3 G3).2
    refine hold (seq_h (asg_w1 (fun u h' => u = txtP ds ∧ h' = H3) ?_ fun u h' ⟨eu, eh⟩ => ?_))
    · simp -dsimp -implicitDefEqProofs only [Out.bind_ok, Out.bind_err, Out.bind_no, dnev_1, dnev_2, dnev_3, dnev_4, List.getElem?_cons_zero, List.getElem?_cons_succ, List.set_cons_zero, List.set_cons_succ, decide_true, decide_false, Bool.not_false, Bool.not_true, Bool.not_not, List.cons_append, List.nil_append, dnev_5, dnev_6, get_last, set_last, dnev_7, dnev_8, dnev_9, dnev_10, dnev_11, dnif_1, dnw_1, true_imp_iff, not_true_eq_false, false_imp_iff, and_true, true_and, dnw_2, rt1, p1]
      all_goals exact ⟨fun _ => by trivial, fun _ => by trivial⟩
    subst eu
    subst eh
    refine hold (seq_h ?_)
    simp -dsimp -implicitDefEqProofs only [Out.bind_ok, Out.bind_err, Out.bind_no, dnev_1, dnev_2, dnev_3, dnev_4, List.getElem?_cons_zero, List.getElem?_cons_succ, List.set_cons_zero, List.set_cons_succ, decide_true, decide_false, Bool.not_false, Bool.not_true, Bool.not_not, List.cons_append, List.nil_append, dnev_5, dnev_6, get_last, set_last, dnev_7, dnev_8, dnev_9, dnev_10, dnev_11, dnif_1, dnw_1, true_imp_iff, not_true_eq_false, false_imp_iff, and_true, true_and, dnw_2, rt1, rt2, s1, s2, Bool.not_true]
    refine hold (seq_h ?_)
    simp -dsimp -implicitDefEqProofs only [Out.bind_ok, Out.bind_err, Out.bind_no, dnev_1, dnev_2, dnev_3, dnev_4, List.getElem?_cons_zero, List.getElem?_cons_succ, List.set_cons_zero, List.set_cons_succ, decide_true, decide_false, Bool.not_false, Bool.not_true, Bool.not_not, List.cons_append, List.nil_append, dnev_5, dnev_6, get_last, set_last, dnev_7, dnev_8, dnev_9, dnev_10, dnev_11, dnif_1, dnw_1, true_imp_iff, not_true_eq_false, false_imp_iff, and_true, true_and, dnw_2, rr1, rr2, s3, s4, Bool.not_true]
    refine hold (seq_h ?_)
    simp -dsimp -implicitDefEqProofs only [Out.bind_ok, Out.bind_err, Out.bind_no, dnev_1, dnev_2, dnev_3, dnev_4, List.getElem?_cons_zero, List.getElem?_cons_succ, List.set_cons_zero, List.set_cons_succ, decide_true, decide_false, Bool.not_false, Bool.not_true, Bool.not_not, List.cons_append, List.nil_append, dnev_5, dnev_6, get_last, set_last, dnev_7, dnev_8, dnev_9, dnev_10, dnev_11, dnif_1, dnw_1, true_imp_iff, not_true_eq_false, false_imp_iff, and_true, true_and, dnw_2, hd3, s5, Bool.not_true]
    have G4 : Gr h5 (h' ++ [.lst [.tup (natsP ds), v]]) := G3.pushL (lrv _ (by have := G3.len; omega))
    have r2 := hz _ h'.length G4 (by have := G3.len; omega) (get_last _ _)
    refine hold ?_
    simp -dsimp -implicitDefEqProofs only [Out.bind_ok, Out.bind_err, Out.bind_no, dnev_1, dnev_2, dnev_3, dnev_4, List.getElem?_cons_zero, List.getElem?_cons_succ, List.set_cons_zero, List.set_cons_succ, decide_true, decide_false, Bool.not_false, Bool.not_true, Bool.not_not, List.cons_append, List.nil_append, dnev_5, dnev_6, get_last, set_last, dnev_7, dnev_8, dnev_9, dnev_10, dnev_11, dnif_1, dnw_1, true_imp_iff, not_true_eq_false, false_imp_iff, and_true, true_and, dnw_2, r2, decide_true, Bool.not_true]
    exact ⟨_, _, _, _, _, _, _, _, _, _, _, rfl, G4.dk D5⟩
  · subst esl
    refine hold ?_
    simp -dsimp -implicitDefEqProofs only [Out.bind_ok, Out.bind_err, Out.bind_no, dnev_1, dnev_2, dnev_3, dnev_4, List.getElem?_cons_zero, List.getElem?_cons_succ, List.set_cons_zero, List.set_cons_succ, decide_true, decide_false, Bool.not_false, Bool.not_true, Bool.not_not, List.cons_append, List.nil_append, dnev_5, dnev_6, get_last, set_last, dnev_7, dnev_8, dnev_9, dnev_10, dnev_11, dnw_1, true_imp_iff, not_true_eq_false, false_imp_iff, and_true, true_and, dnw_2]
    exact law_end D1
theorem law_true (ns : List Int) (len : ns.length ≤ 63) : ∃ h', m_law [.fz (ns.map PV.int)] [] = .ok (.bl true) h' := by
  obtain ⟨v, h, e, rfl⟩ := wO_ex.mp (law_w ns len)
  exact ⟨h, e⟩
end Dn
namespace Dn
open PySem PySem.Spec PyProof.Rows L2 PySem.SeqAt GxR
theorem defP_of {K : PySem.W.Frag} {h : Heap} {mg : Str → Option Value} {x : Str} {st : Stmt} {f : Addr} {c1 : Value} {o1 o2 : Option Addr} {sl : Array (Option Value)} {c2 c3 c4 c5 c6 : Value} {ps : List Str} {c : Option Addr} {kws : Kws} (X : K.In h) (G : h.Ns mainGlobals mg)
    (a : PySem.W.nsIn K mainGlobals x = some (some (.ref f))) (look : K.lookup f = some ⟨c1, o1, .func (PySem.W.fnOf x x (defArgs st) (defBody st) (defScope st) .none c2 c3 c4 o2 c5 c6), sl⟩) (code : PySem.W.codeIn K c5 x = true) (keep : PySem.W.keepIn K (.ref f) = true)
    (bind : ∀ (kV doc pm : Value) (an : Option Addr) (cdv ct : Value) (us : List Value), us.length = ps.length → bindArgs (PySem.W.fnOf x x (defArgs st) (defBody st) (defScope st) .none kV doc pm an cdv ct) ⟨us, []⟩ = pure (ps.zip us))
    (hc : ∀ a, c = some a → c5 = .ref a) (kw : KwOk K (PySem.W.fnOf x x (defArgs st) (defBody st) (defScope st) .none c2 c3 c4 o2 c5 c6) ps kws) : DefP K mg x st ps c kws :=
  ⟨_, _, fun_mk look code keep, PySem.W.mg_of X G a, (fun_mk look code keep).binds bind, hc, kw⟩

theorem all_mk {l : PySem.W.OpenLaw} {w : World} {K : PySem.W.Frag} {h : Heap} {mg : Str → Option Value} {fa : Addr} (X : K.In h) (G : h.Ns mainGlobals mg) (hfa : mg "law" = some (.ref fa))
    {f1 f2 f3 f4 f5 f6 f7 f8 f9 f10 f11 f12 : Addr} {od1 an1 od2 an2 od3 an3 od4 an4 od5 an5 od6 an6 od7 an7 od8 an8 od9 an9 od10 an10 od11 an11 od12 an12 : Option Addr} {sl1 sl2 sl3 sl4 sl5 sl6 sl7 sl8 sl9 sl10 sl11 sl12 : Array (Option Value)} {oc1 kV1 dc1 pm1 cd1 ct1 oc2 kV2 dc2 pm2 cd2 ct2 oc3 kV3 dc3 pm3 cd3 ct3 oc4 kV4 dc4 pm4 cd4 ct4 oc5 kV5 dc5 pm5 cd5 ct5 oc6 kV6 dc6 pm6 cd6 ct6 oc7 kV7 dc7 pm7 cd7 ct7 oc8 kV8 dc8 pm8 cd8 ct8 oc9 kV9 dc9 pm9 cd9 ct9 oc10 kV10 dc10 pm10 cd10 ct10 oc11 kV11 dc11 pm11 cd11 ct11 oc12 kV12 dc12 pm12 cd12 ct12 : Value}
    {tk_FIGURES_OF_HANDS : Nat}
    {tk_MAX_MOVES : Nat}
    (a1 : PySem.W.nsIn K mainGlobals "run_text" = some (some (.ref f1))) (l1 : K.lookup f1 = some ⟨oc1, od1, .func (PySem.W.fnOf "run_text" "run_text" (defArgs s_run_text) (defBody s_run_text) (defScope s_run_text) .none kV1 dc1 pm1 an1 cd1 ct1), sl1⟩) (c1 : PySem.W.codeIn K cd1 "run_text" = true) (k1 : PySem.W.keepIn K (.ref f1) = true)
    (a2 : PySem.W.nsIn K mainGlobals "read_run" = some (some (.ref f2))) (l2 : K.lookup f2 = some ⟨oc2, od2, .func (PySem.W.fnOf "read_run" "read_run" (defArgs s_read_run) (defBody s_read_run) (defScope s_read_run) .none kV2 dc2 pm2 an2 cd2 ct2), sl2⟩) (c2 : PySem.W.codeIn K cd2 "read_run" = true) (k2 : PySem.W.keepIn K (.ref f2) = true)
    (a3 : PySem.W.nsIn K mainGlobals "_law_deck" = some (some (.ref f3))) (l3 : K.lookup f3 = some ⟨oc3, od3, .func (PySem.W.fnOf "_law_deck" "_law_deck" (defArgs s__law_deck) (defBody s__law_deck) (defScope s__law_deck) .none kV3 dc3 pm3 an3 cd3 ct3), sl3⟩) (c3 : PySem.W.codeIn K cd3 "_law_deck" = true) (k3 : PySem.W.keepIn K (.ref f3) = true)
    (a4 : PySem.W.nsIn K mainGlobals "_law_draw" = some (some (.ref f4))) (l4 : K.lookup f4 = some ⟨oc4, od4, .func (PySem.W.fnOf "_law_draw" "_law_draw" (defArgs s__law_draw) (defBody s__law_draw) (defScope s__law_draw) .none kV4 dc4 pm4 an4 cd4 ct4), sl4⟩) (c4 : PySem.W.codeIn K cd4 "_law_draw" = true) (k4 : PySem.W.keepIn K (.ref f4) = true)
    (a5 : PySem.W.nsIn K mainGlobals "_law_pick" = some (some (.ref f5))) (l5 : K.lookup f5 = some ⟨oc5, od5, .func (PySem.W.fnOf "_law_pick" "_law_pick" (defArgs s__law_pick) (defBody s__law_pick) (defScope s__law_pick) .none kV5 dc5 pm5 an5 cd5 ct5), sl5⟩) (c5 : PySem.W.codeIn K cd5 "_law_pick" = true) (k5 : PySem.W.keepIn K (.ref f5) = true)
    (a6 : PySem.W.nsIn K mainGlobals "_law_same" = some (some (.ref f6))) (l6 : K.lookup f6 = some ⟨oc6, od6, .func (PySem.W.fnOf "_law_same" "_law_same" (defArgs s__law_same) (defBody s__law_same) (defScope s__law_same) .none kV6 dc6 pm6 an6 cd6 ct6), sl6⟩) (c6 : PySem.W.codeIn K cd6 "_law_same" = true) (k6 : PySem.W.keepIn K (.ref f6) = true)
    (a7 : PySem.W.nsIn K mainGlobals "_law_any" = some (some (.ref f7))) (l7 : K.lookup f7 = some ⟨oc7, od7, .func (PySem.W.fnOf "_law_any" "_law_any" (defArgs s__law_any) (defBody s__law_any) (defScope s__law_any) .none kV7 dc7 pm7 an7 cd7 ct7), sl7⟩) (c7 : PySem.W.codeIn K cd7 "_law_any" = true) (k7 : PySem.W.keepIn K (.ref f7) = true)
    (a8 : PySem.W.nsIn K mainGlobals "_law_row" = some (some (.ref f8))) (l8 : K.lookup f8 = some ⟨oc8, od8, .func (PySem.W.fnOf "_law_row" "_law_row" (defArgs s__law_row) (defBody s__law_row) (defScope s__law_row) .none kV8 dc8 pm8 an8 cd8 ct8), sl8⟩) (c8 : PySem.W.codeIn K cd8 "_law_row" = true) (k8 : PySem.W.keepIn K (.ref f8) = true)
    (a9 : PySem.W.nsIn K mainGlobals "_law_value" = some (some (.ref f9))) (l9 : K.lookup f9 = some ⟨oc9, od9, .func (PySem.W.fnOf "_law_value" "_law_value" (defArgs s__law_value) (defBody s__law_value) (defScope s__law_value) .none kV9 dc9 pm9 an9 cd9 ct9), sl9⟩) (c9 : PySem.W.codeIn K cd9 "_law_value" = true) (k9 : PySem.W.keepIn K (.ref f9) = true)
    (a10 : PySem.W.nsIn K mainGlobals "_law_due" = some (some (.ref f10))) (l10 : K.lookup f10 = some ⟨oc10, od10, .func (PySem.W.fnOf "_law_due" "_law_due" (defArgs s__law_due) (defBody s__law_due) (defScope s__law_due) .none kV10 dc10 pm10 an10 cd10 ct10), sl10⟩) (c10 : PySem.W.codeIn K cd10 "_law_due" = true) (k10 : PySem.W.keepIn K (.ref f10) = true)
    (a11 : PySem.W.nsIn K mainGlobals "_law_heard" = some (some (.ref f11))) (l11 : K.lookup f11 = some ⟨oc11, od11, .func (PySem.W.fnOf "_law_heard" "_law_heard" (defArgs s__law_heard) (defBody s__law_heard) (defScope s__law_heard) .none kV11 dc11 pm11 an11 cd11 ct11), sl11⟩) (c11 : PySem.W.codeIn K cd11 "_law_heard" = true) (k11 : PySem.W.keepIn K (.ref f11) = true)
    (a12 : PySem.W.nsIn K mainGlobals "law" = some (some (.ref f12))) (l12 : K.lookup f12 = some ⟨oc12, od12, .func (PySem.W.fnOf "law" "law" (defArgs s_law) (defBody s_law) (defScope s_law) .none kV12 dc12 pm12 an12 cd12 ct12), sl12⟩) (c12 : PySem.W.codeIn K cd12 "law" = true) (k12 : PySem.W.keepIn K (.ref f12) = true)
    (cW_FIGURES_OF_HANDS : PySem.W.nsIn K mainGlobals "FIGURES_OF_HANDS" = some (some (.str "01234" tk_FIGURES_OF_HANDS)))
    (cW_MAX_MOVES : PySem.W.nsIn K mainGlobals "MAX_MOVES" = some (some (.int 4000 tk_MAX_MOVES)))
    {C_WayError C_BadText : Addr}
    (aC_WayError : PySem.W.nsIn K mainGlobals "WayError" = some (some (.ref C_WayError)))
    (aC_BadText : PySem.W.nsIn K mainGlobals "BadText" = some (some (.ref C_BadText)))
    (eC_WayError : PySem.W.subIn K (.ref C_WayError) (.type "BaseException") = some true)
    (ga_WayError : PySem.W.findIn K (.ref C_WayError) "__getattribute__" = some (some (.builtin "BaseException.__getattribute__")))
    (gg_WayError : PySem.W.findIn K (.ref C_WayError) "__getattr__" = some none)
    (hd_WayError : PySem.W.hasDictIn K C_WayError = true)
    (hk_WayError : PySem.W.findIn K (.ref C_WayError) "__class__" = some (some (.builtin "object.__class__")))
    (hm_WayError : PySem.W.mroIn K C_WayError (.type "object") = some true)
    (eC_BadText : PySem.W.subIn K (.ref C_BadText) (.type "BaseException") = some true)
    (ga_BadText : PySem.W.findIn K (.ref C_BadText) "__getattribute__" = some (some (.builtin "BaseException.__getattribute__")))
    (gg_BadText : PySem.W.findIn K (.ref C_BadText) "__getattr__" = some none)
    (hd_BadText : PySem.W.hasDictIn K C_BadText = true)
    (hk_BadText : PySem.W.findIn K (.ref C_BadText) "__class__" = some (some (.builtin "object.__class__")))
    (hm_BadText : PySem.W.mroIn K C_BadText (.type "object") = some true)
    (kC_BadText : PySem.W.keepIn K (.ref C_BadText) = true)
    (nf_BadText : PySem.W.findIn K (.ref C_BadText) "place" = some none)
    (tC_BadText : PySem.W.typeIn K (.ref C_BadText) = some (.type "type"))
    {nm_BadText qn_BadText : Str} {N_BadText fI_BadText : Addr} {bs_BadText bm_BadText : List Value} {sn_BadText : List Str} {sub_BadText : List Value} {ab_BadText : Bool} {col_BadText : Option Bool} {dd_BadText od_BadText an_BadText : Option Addr} {m0_BadText m1_BadText m2_BadText m3_BadText m5_BadText : Option Value} {sl_BadText : Array (Option Value)} {oc_BadText kV_BadText dc_BadText pm_BadText cd_BadText ct_BadText : Value}
    (xL_BadText : K.lookup C_BadText = some (excClassObj nm_BadText qn_BadText C_BadText N_BadText bs_BadText bm_BadText true sn_BadText sub_BadText ab_BadText col_BadText dd_BadText m0_BadText m1_BadText m2_BadText m3_BadText m5_BadText "ValueError.__new__"))
    (rV_BadText : PySem.HandSPX.refsVE bm_BadText = true)
    (sa_BadText : PySem.W.findIn K (.ref C_BadText) "__setattr__" = some (some (.builtin "object.__setattr__")))
    (a1_BadText : PySem.W.findIn K (.ref C_BadText) "__init__" = some (some (.ref fI_BadText)))
    (t1_BadText : PySem.W.typeIn K (.ref fI_BadText) = some (.type "function"))
    (l1_BadText : K.lookup fI_BadText = some ⟨oc_BadText, od_BadText, .func (PySem.W.fnOf "__init__" "BadText.__init__" (defArgs (inCls (top 3) 0)) (defBody (inCls (top 3) 0)) (defScope (inCls (top 3) 0)) .none kV_BadText dc_BadText pm_BadText an_BadText cd_BadText ct_BadText), sl_BadText⟩)
    (c1_BadText : PySem.W.codeIn K cd_BadText "BadText.__init__" = true)
    (k1_BadText : PySem.W.keepIn K (.ref fI_BadText) = true)
    (em_WayError_BadText : PySem.W.exmOne K (.ref C_WayError) (.ref C_BadText) = some false)
    (em_BadText_BadText : PySem.W.exmOne K (.ref C_BadText) (.ref C_BadText) = some true)
    (ki_WayError_WayError : PySem.W.kitOne K (.ref C_WayError) (.ref C_WayError) = some true)
    (ki_BadText_WayError : PySem.W.kitOne K (.ref C_BadText) (.ref C_WayError) = some true)
    (hnX : PySem.W.specialIn K (.builtin "object.__class__") "__get__" = some (some (.builtin "getset_descriptor.__get__")))
    (htX : PySem.W.takesIn K (.builtin "object.__class__") = some true)
    (z_abs : PySem.W.nsIn K mainGlobals "abs" = some none)
    (z_bool : PySem.W.nsIn K mainGlobals "bool" = some none)
    (z_enumerate : PySem.W.nsIn K mainGlobals "enumerate" = some none)
    (z_int : PySem.W.nsIn K mainGlobals "int" = some none)
    (z_isinstance : PySem.W.nsIn K mainGlobals "isinstance" = some none)
    (z_len : PySem.W.nsIn K mainGlobals "len" = some none)
    (z_range : PySem.W.nsIn K mainGlobals "range" = some none)
    (z_repr : PySem.W.nsIn K mainGlobals "repr" = some none)
    (z_str : PySem.W.nsIn K mainGlobals "str" = some none)
    (z_tuple : PySem.W.nsIn K mainGlobals "tuple" = some none) :
    ∃ cs : List (Addr × Addr), (∀ p ∈ cs, ∃ x ∈ ([] : List Str), TabOf K mg x p) ∧ ∀ (a : Addr) (ns : List Int), ns.length ≤ 63 → RunsG l.prog w K mg fa cs a ns := by
  have e := hfa.symm.trans (PySem.W.mg_of X G a12)
  cases e
  have B : BltG mg := ⟨PySem.W.mg_none_of X G z_abs, PySem.W.mg_none_of X G z_bool, PySem.W.mg_none_of X G z_enumerate, PySem.W.mg_none_of X G z_int, PySem.W.mg_none_of X G z_isinstance, PySem.W.mg_none_of X G z_len, PySem.W.mg_none_of X G z_range, PySem.W.mg_none_of X G z_repr, PySem.W.mg_none_of X G z_str, PySem.W.mg_none_of X G z_tuple⟩
  refine ⟨[], fun p hp => ?_, ?_⟩
  · cases hp
  intro a ns len base H s0 en hS hT0 hTB sys
  have h_FIGURES_OF_HANDS : ∃ t, mg "FIGURES_OF_HANDS" = some (.str "01234" t) := ⟨_, PySem.W.mg_of X G cW_FIGURES_OF_HANDS⟩
  have h_MAX_MOVES : ∃ t, mg "MAX_MOVES" = some (.int 4000 t) := ⟨_, PySem.W.mg_of X G cW_MAX_MOVES⟩
  have E_BadText : ExcP1 l.prog w K mg base "BadText" "place" := excP1_of (st := (inCls (top 3) 0)) X G aC_BadText kC_BadText eC_BadText tC_BadText xL_BadText rV_BadText sa_BadText nf_BadText a1_BadText t1_BadText l1_BadText c1_BadText k1_BadText (fun _ _ _ _ _ _ us hl => match us, hl with | [_, _], _ => rfl) rfl ⟨rfl, rfl, rfl, by decide +kernel, rfl, by decide +kernel, by decide +kernel⟩ (Or.inl rfl) (Or.inl rfl) (by decide) (by decide) (fun _ _ => rfl)
  have T_BadText : ExmTab K mg "BadText" [("WayError", false), ("BadText", true)] := ⟨_, PySem.W.mg_of X G aC_BadText, fun y b hy => by
    simp only [List.mem_cons, List.not_mem_nil, or_false, Prod.mk.injEq] at hy
    rcases hy with ⟨rfl, rfl⟩ | ⟨rfl, rfl⟩
    · exact ⟨_, PySem.W.mg_of X G aC_WayError, em_WayError_BadText⟩
    · exact ⟨_, PySem.W.mg_of X G aC_BadText, em_BadText_BadText⟩⟩
  have I_WayError : IsiTab K mg "WayError" [("WayError", true), ("BadText", true)] := ⟨_, PySem.W.mg_of X G aC_WayError, fun y b hy => by
    simp only [List.mem_cons, List.not_mem_nil, or_false, Prod.mk.injEq] at hy
    rcases hy with ⟨rfl, rfl⟩ | ⟨rfl, rfl⟩
    · exact ⟨_, PySem.W.mg_of X G aC_WayError, excC_of ga_WayError gg_WayError eC_WayError hd_WayError hk_WayError hnX htX hm_WayError, ki_WayError_WayError⟩
    · exact ⟨_, PySem.W.mg_of X G aC_BadText, excC_of ga_BadText gg_BadText eC_BadText hd_BadText hk_BadText hnX htX hm_BadText, ki_BadText_WayError⟩⟩
  have L_place : FldTab K mg "place" ["BadText"] := fun y hy => by
    simp only [List.mem_cons, List.not_mem_nil, or_false] at hy
    rcases hy with rfl
    · exact ⟨_, PySem.W.mg_of X G aC_BadText, ⟨ga_BadText, gg_BadText, eC_BadText, hd_BadText⟩, nf_BadText⟩
  have D1 : DefP K mg "run_text" s_run_text ["run"] none [(["run"], [0])] := defP_of X G a1 l1 c1 k1 (fun _ _ _ _ _ _ us hl => match us, hl with | [_], _ => rfl) (fun a e => nomatch e) (by
    intro kp hk s ws kin hl
    simp only [List.mem_cons, List.not_mem_nil, or_false] at hk
    rcases hk with rfl
    · exact match ws, hl with | [], hl => absurd hl (by simp [atPl]) | a0 :: r, _ => .of_eq rfl)
  have D2 : DefP K mg "read_run" s_read_run ["value"] none [(["value"], [0])] := defP_of X G a2 l2 c2 k2 (fun _ _ _ _ _ _ us hl => match us, hl with | [_], _ => rfl) (fun a e => nomatch e) (by
    intro kp hk s ws kin hl
    simp only [List.mem_cons, List.not_mem_nil, or_false] at hk
    rcases hk with rfl
    · exact match ws, hl with | [], hl => absurd hl (by simp [atPl]) | a0 :: r, _ => .of_eq rfl)
  have D3 : DefP K mg "_law_deck" s__law_deck ["script"] none [] := defP_of X G a3 l3 c3 k3 (fun _ _ _ _ _ _ us hl => match us, hl with | [_], _ => rfl) (fun a e => nomatch e) (fun kp hk => nomatch hk)
  have D4 : DefP K mg "_law_draw" s__law_draw ["deck", "many"] none [] := defP_of X G a4 l4 c4 k4 (fun _ _ _ _ _ _ us hl => match us, hl with | [_, _], _ => rfl) (fun a e => nomatch e) (fun kp hk => nomatch hk)
  have D5 : DefP K mg "_law_pick" s__law_pick ["deck", "items"] none [] := defP_of X G a5 l5 c5 k5 (fun _ _ _ _ _ _ us hl => match us, hl with | [_, _], _ => rfl) (fun a e => nomatch e) (fun kp hk => nomatch hk)
  have D6 : DefP K mg "_law_same" s__law_same ["found", "due"] none [] := defP_of X G a6 l6 c6 k6 (fun _ _ _ _ _ _ us hl => match us, hl with | [_, _], _ => rfl) (fun a e => nomatch e) (fun kp hk => nomatch hk)
  have D7 : DefP K mg "_law_any" s__law_any ["deck", "deep"] none [] := defP_of X G a7 l7 c7 k7 (fun _ _ _ _ _ _ us hl => match us, hl with | [_, _], _ => rfl) (fun a e => nomatch e) (fun kp hk => nomatch hk)
  have D8 : DefP K mg "_law_row" s__law_row ["deck"] none [] := defP_of X G a8 l8 c8 k8 (fun _ _ _ _ _ _ us hl => match us, hl with | [_], _ => rfl) (fun a e => nomatch e) (fun kp hk => nomatch hk)
  have D9 : DefP K mg "_law_value" s__law_value ["deck", "run"] none [] := defP_of X G a9 l9 c9 k9 (fun _ _ _ _ _ _ us hl => match us, hl with | [_, _], _ => rfl) (fun a e => nomatch e) (fun kp hk => nomatch hk)
  have D10 : DefP K mg "_law_due" s__law_due ["value"] none [] := defP_of X G a10 l10 c10 k10 (fun _ _ _ _ _ _ us hl => match us, hl with | [_], _ => rfl) (fun a e => nomatch e) (fun kp hk => nomatch hk)
  have D11 : DefP K mg "_law_heard" s__law_heard ["value", "is_named"] none [] := defP_of X G a11 l11 c11 k11 (fun _ _ _ _ _ _ us hl => match us, hl with | [_, _], _ => rfl) (fun a e => nomatch e) (fun kp hk => nomatch hk)
  have D12 : DefP K mg "law" s_law ["script"] none [] := defP_of X G a12 l12 c12 k12 (fun _ _ _ _ _ _ us hl => match us, hl with | [_], _ => rfl) (fun a e => nomatch e) (fun kp hk => nomatch hk)
  have F_run_text := fd_run_text (P := l.prog) (w := w) (base := base) (tbs := []) B D1
  have F_read_run := fd_read_run (P := l.prog) (w := w) (base := base) (tbs := []) B h_FIGURES_OF_HANDS h_MAX_MOVES E_BadText D2
  have F__law_deck := fd__law_deck (P := l.prog) (w := w) (base := base) (tbs := []) B D3
  have F__law_draw := fd__law_draw (P := l.prog) (w := w) (base := base) (tbs := []) B D4
  have F__law_pick := fd__law_pick (P := l.prog) (w := w) (base := base) (tbs := []) B F__law_draw.fd D5
  have F__law_same := fd__law_same (P := l.prog) (w := w) (base := base) (tbs := []) B D6 8
  have F__law_any := fd__law_any (P := l.prog) (w := w) (base := base) (tbs := []) B F__law_draw.fd F__law_pick.fd D7 8
  have F__law_row := fd__law_row (P := l.prog) (w := w) (base := base) (tbs := []) B F__law_draw.fd F__law_pick.fd D8
  have F__law_value := fd__law_value (P := l.prog) (w := w) (base := base) (tbs := []) B F__law_draw.fd F__law_any.fd F__law_pick.fd D9
  have F__law_due := fd__law_due (P := l.prog) (w := w) (base := base) (tbs := []) B D10
  have F__law_heard := fd__law_heard (P := l.prog) (w := w) (base := base) (tbs := []) B F_read_run.fd (F_read_run.kd (by simp)) T_BadText I_WayError L_place D11
  have F_law := fd_law (P := l.prog) (w := w) (base := base) (tbs := []) B F__law_deck.fd F__law_draw.fd F__law_row.fd F__law_value.fd F__law_due.fd F_run_text.fd F__law_same.fd F_read_run.fd F__law_heard.fd (F_run_text.kd (by simp)) sys D12
  obtain ⟨h2, hm⟩ := law_true ns len
  refine run_law F_law.fd ⟨rfl, by decide, by decide⟩ hfa en hS (fun p hp => ?_) hm
  cases hp
end Dn


open PySem PySem.W PyProof.Rows in
set_option maxRecDepth 100000 in
set_option maxHeartbeats 0 in
theorem PySem.Challenge.cw_roomways_k18_whole_texts_of_runs_holds : PySem.Challenge.rw_roomways_k18_whole_texts_of_runs.Holds := by
  w_on; o_law; k_head; (case hw => w_witness2)
  k_fill
  refine Dn.walksG (n := 63) (xs := []) (l := PySem.Challenge.rw_roomways_k18_whole_texts_of_runs) rfl (by decide) rfl (by decide +kernel) (by decide +kernel) (fun w h Y => PySem.W.kIn_of Y) ?F
  case F =>
    intro w mg fa h X G hmg
    refine' Dn.all_mk X G hmg ?a1 ?l1 ?c1 ?k1 ?a2 ?l2 ?c2 ?k2 ?a3 ?l3 ?c3 ?k3 ?a4 ?l4 ?c4 ?k4 ?a5 ?l5 ?c5 ?k5 ?a6 ?l6 ?c6 ?k6 ?a7 ?l7 ?c7 ?k7 ?a8 ?l8 ?c8 ?k8 ?a9 ?l9 ?c9 ?k9 ?a10 ?l10 ?c10 ?k10 ?a11 ?l11 ?c11 ?k11 ?a12 ?l12 ?c12 ?k12 ?cW_FIGURES_OF_HANDS ?cW_MAX_MOVES ?aC_WayError ?aC_BadText ?eC_WayError ?ga_WayError ?gg_WayError ?hd_WayError ?hk_WayError ?hm_WayError ?eC_BadText ?ga_BadText ?gg_BadText ?hd_BadText ?hk_BadText ?hm_BadText ?kC_BadText ?nf_BadText ?tC_BadText ?xL_BadText ?rV_BadText ?sa_BadText ?a1_BadText ?t1_BadText ?l1_BadText ?c1_BadText ?k1_BadText ?em_WayError_BadText ?em_BadText_BadText ?ki_WayError_WayError ?ki_BadText_WayError ?hnX ?htX ?z_abs ?z_bool ?z_enumerate ?z_int ?z_isinstance ?z_len ?z_range ?z_repr ?z_str ?z_tuple
    (case a1 => first | k_is | k_exc | rfl | decide +kernel)
    (case l1 => first | k_is | k_exc | rfl | decide +kernel)
    (case c1 => first | k_is | k_exc | rfl | decide +kernel)
    (case k1 => first | k_is | k_exc | rfl | decide +kernel)
    (case a2 => first | k_is | k_exc | rfl | decide +kernel)
    (case l2 => first | k_is | k_exc | rfl | decide +kernel)
    (case c2 => first | k_is | k_exc | rfl | decide +kernel)
    (case k2 => first | k_is | k_exc | rfl | decide +kernel)
    (case a3 => first | k_is | k_exc | rfl | decide +kernel)
    (case l3 => first | k_is | k_exc | rfl | decide +kernel)
    (case c3 => first | k_is | k_exc | rfl | decide +kernel)
    (case k3 => first | k_is | k_exc | rfl | decide +kernel)
    (case a4 => first | k_is | k_exc | rfl | decide +kernel)
    (case l4 => first | k_is | k_exc | rfl | decide +kernel)
    (case c4 => first | k_is | k_exc | rfl | decide +kernel)
    (case k4 => first | k_is | k_exc | rfl | decide +kernel)
    (case a5 => first | k_is | k_exc | rfl | decide +kernel)
    (case l5 => first | k_is | k_exc | rfl | decide +kernel)
    (case c5 => first | k_is | k_exc | rfl | decide +kernel)
    (case k5 => first | k_is | k_exc | rfl | decide +kernel)
    (case a6 => first | k_is | k_exc | rfl | decide +kernel)
    (case l6 => first | k_is | k_exc | rfl | decide +kernel)
    (case c6 => first | k_is | k_exc | rfl | decide +kernel)
    (case k6 => first | k_is | k_exc | rfl | decide +kernel)
    (case a7 => first | k_is | k_exc | rfl | decide +kernel)
    (case l7 => first | k_is | k_exc | rfl | decide +kernel)
    (case c7 => first | k_is | k_exc | rfl | decide +kernel)
    (case k7 => first | k_is | k_exc | rfl | decide +kernel)
    (case a8 => first | k_is | k_exc | rfl | decide +kernel)
    (case l8 => first | k_is | k_exc | rfl | decide +kernel)
    (case c8 => first | k_is | k_exc | rfl | decide +kernel)
    (case k8 => first | k_is | k_exc | rfl | decide +kernel)
    (case a9 => first | k_is | k_exc | rfl | decide +kernel)
    (case l9 => first | k_is | k_exc | rfl | decide +kernel)
    (case c9 => first | k_is | k_exc | rfl | decide +kernel)
    (case k9 => first | k_is | k_exc | rfl | decide +kernel)
    (case a10 => first | k_is | k_exc | rfl | decide +kernel)
    (case l10 => first | k_is | k_exc | rfl | decide +kernel)
    (case c10 => first | k_is | k_exc | rfl | decide +kernel)
    (case k10 => first | k_is | k_exc | rfl | decide +kernel)
    (case a11 => first | k_is | k_exc | rfl | decide +kernel)
    (case l11 => first | k_is | k_exc | rfl | decide +kernel)
    (case c11 => first | k_is | k_exc | rfl | decide +kernel)
    (case k11 => first | k_is | k_exc | rfl | decide +kernel)
    (case a12 => first | k_is | k_exc | rfl | decide +kernel)
    (case l12 => first | k_is | k_exc | rfl | decide +kernel)
    (case c12 => first | k_is | k_exc | rfl | decide +kernel)
    (case k12 => first | k_is | k_exc | rfl | decide +kernel)
    (case cW_FIGURES_OF_HANDS => first | k_is | k_exc | rfl | decide +kernel)
    (case cW_MAX_MOVES => first | k_is | k_exc | rfl | decide +kernel)
    (case aC_WayError => first | k_is | k_exc | rfl | decide +kernel)
    (case aC_BadText => first | k_is | k_exc | rfl | decide +kernel)
    (case eC_WayError => first | k_is | k_exc | rfl | decide +kernel)
    (case ga_WayError => first | k_is | k_exc | rfl | decide +kernel)
    (case gg_WayError => first | k_is | k_exc | rfl | decide +kernel)
    (case hd_WayError => first | k_is | k_exc | rfl | decide +kernel)
    (case hk_WayError => first | k_is | k_exc | rfl | decide +kernel)
    (case hm_WayError => first | k_is | k_exc | rfl | decide +kernel)
    (case eC_BadText => first | k_is | k_exc | rfl | decide +kernel)
    (case ga_BadText => first | k_is | k_exc | rfl | decide +kernel)
    (case gg_BadText => first | k_is | k_exc | rfl | decide +kernel)
    (case hd_BadText => first | k_is | k_exc | rfl | decide +kernel)
    (case hk_BadText => first | k_is | k_exc | rfl | decide +kernel)
    (case hm_BadText => first | k_is | k_exc | rfl | decide +kernel)
    (case kC_BadText => first | k_is | k_exc | rfl | decide +kernel)
    (case nf_BadText => first | k_is | k_exc | rfl | decide +kernel)
    (case tC_BadText => first | k_is | k_exc | rfl | decide +kernel)
    (case xL_BadText => first | k_is | k_exc | rfl | decide +kernel)
    (case rV_BadText => first | k_is | k_exc | rfl | decide +kernel)
    (case sa_BadText => first | k_is | k_exc | rfl | decide +kernel)
    (case a1_BadText => first | k_is | k_exc | rfl | decide +kernel)
    (case t1_BadText => first | k_is | k_exc | rfl | decide +kernel)
    (case l1_BadText => first | k_is | k_exc | rfl | decide +kernel)
    (case c1_BadText => first | k_is | k_exc | rfl | decide +kernel)
    (case k1_BadText => first | k_is | k_exc | rfl | decide +kernel)
    (case em_WayError_BadText => first | k_is | k_exc | rfl | decide +kernel)
    (case em_BadText_BadText => first | k_is | k_exc | rfl | decide +kernel)
    (case ki_WayError_WayError => first | k_is | k_exc | rfl | decide +kernel)
    (case ki_BadText_WayError => first | k_is | k_exc | rfl | decide +kernel)
    (case hnX => first | k_is | k_exc | rfl | decide +kernel)
    (case htX => first | k_is | k_exc | rfl | decide +kernel)
    (case z_abs => first | k_is | k_exc | rfl | decide +kernel)
    (case z_bool => first | k_is | k_exc | rfl | decide +kernel)
    (case z_enumerate => first | k_is | k_exc | rfl | decide +kernel)
    (case z_int => first | k_is | k_exc | rfl | decide +kernel)
    (case z_isinstance => first | k_is | k_exc | rfl | decide +kernel)
    (case z_len => first | k_is | k_exc | rfl | decide +kernel)
    (case z_range => first | k_is | k_exc | rfl | decide +kernel)
    (case z_repr => first | k_is | k_exc | rfl | decide +kernel)
    (case z_str => first | k_is | k_exc | rfl | decide +kernel)
    (case z_tuple => first | k_is | k_exc | rfl | decide +kernel)
