import PyProof.Rows.All
import Wide.All
import OpenK.AllK
import Wide.FinOn
import HandS.ForMost
import HandS.IsInst
import HandS.TupAny
import HandS.Walk
import HandS.Style
import HandS.Conv
import HandS.Wide
import HandS.Flow
import HandS.Defaults
import KE.GoesEnum
import PySem.Challenge.RW_roomways_k02_whole_rooms_held_and_wished
import PyProof.ReprLen
import PyProof.GenCompT
import PyProof.TupleOfGen
import HandS.AnyAll
set_option Elab.async false
set_option linter.all false
set_option maxRecDepth 100000
set_option maxHeartbeats 1000000
namespace Rw
open PySem PySem.Spec PyProof.Rows L2 PySem.SeqAt

/-! ### a text beside a dict: never equal -/
theorem str_declines_dict (b : Str) (u : Tok) (l : Addr) (c : Value) (es : Array DictEntry) (n : Nat) (dd : Option Addr) (sl : Array (Option Value)) :
    Meets (Builtin.«str.__eq__» ⟨[.str b u, .ref l], []⟩) (fun _ R s => s.heap.get? l = some { cls := c, dict := dd, data := .dict es n, slots := sl } ∧ R (.ok (.ret .notImplemented)) s) :=
  .of_wp fun prog w A R s h => by
    obtain ⟨hp, g, d, tk, os⟩ := s
    obtain ⟨hl, h⟩ := h
    wp_walk using AutoSeq1.wpAny_loadPart' hl, wpAny_load hl
    exact ⟨_, rfl, h⟩
theorem dict_declines_str (l : Addr) (es : Array DictEntry) (n : Nat) (dd : Option Addr) (sl : Array (Option Value)) (b : Str) (u : Tok) :
    Meets (Builtin.«dict.__eq__» ⟨[.ref l, .str b u], []⟩) (fun _ R s => s.heap.get? l = some { cls := .type "dict", dict := dd, data := .dict es n, slots := sl } ∧ R (.ok (.ret .notImplemented)) s) :=
  .of_wp fun prog w A R s h => by
    obtain ⟨hp, g, d, tk, os⟩ := s
    obtain ⟨hl, h⟩ := h
    have f1 : isSubtype (.type "str") (.type "dict") = pure false := by rw [isSubtype_type]; kernel_rfl
    wp_walk using AutoSeq1.wpAny_loadPart' hl, wpAny_load hl
    exact ⟨_, rfl, h⟩
theorem sub_dict_str : isSubtype (.type "dict") (.type "str") = pure false := by rw [isSubtype_type]; kernel_rfl
section
variable {A : Around} {s : Shared}
theorem rc_str_dict {l : Addr} {o : Obj} {es : Array DictEntry} {n : Nat} (b : Str) (u : Tok) (ho : s.heap.get? l = some o) (hc : o.cls = .type "dict") (hd : o.data = .dict es n) (hu : A.units < cLine) : RcAt A s (.str b u) (.ref l) false := fun prog w E Q h => by
  obtain ⟨cls, dd, data, sl⟩ := o
  simp only at hc hd
  subst hc hd
  refine rc_eq_decline_or (k := false) (typeIs_str s b u) ⟨_, ho, rfl⟩ (by decide) sub_dict_str F.slot_str_eq F.slot_dict_eq_refl
    (fun _ hq => ?_) (fun _ hq => ?_) (fun _ hq => wpAny_of_eq (rfl : isSame (.str b u) (.ref l) = pure false) hq) (.inr hu) h
  · exact call_meets F.slot_str_eq (typeIs_str s b u) F.entry_str_eq (F.args_str_eq_2 _ _) (str_declines_dict b u l (.type "dict") es n dd sl) ⟨ho, hq⟩
  · exact call_meets F.slot_dict_eq_refl ⟨_, ho, rfl⟩ F.entry_dict_eq (F.args_dict_eq_2 _ _) (dict_declines_str l es n dd sl b u) ⟨ho, hq⟩
theorem eq_str_dict {l : Addr} {o : Obj} {es : Array DictEntry} {n : Nat} (b : Str) (u : Tok) (ho : s.heap.get? l = some o) (hc : o.cls = .type "dict") (hd : o.data = .dict es n) (hu : A.units < cLine) : EqAt A s (.str b u) (.ref l) false := fun prog w E Q h => by
  unfold eqBool
  refine wpAny_holding ?_
  refine wpAny_ite_split (fun hab => absurd (eq_of_beq hab) nofun) (fun _ => ?_)
  exact wpAny_bind (rc_str_dict b u ho hc hd hu prog w E _ (wpAny_truthy_bool h))
end
end Rw
namespace Rw
open PySem PySem.Spec PyProof.Rows L2 PySem.SeqAt

/-! ### a value as data, all of whose objects stand, none of them at a place that av forbids -/
mutual
inductive Rp (av : Addr → Prop) (H : Hp) : V → PyData → Prop
  | non : Rp av H .non .none
  | bl (b : Bool) : Rp av H (.bl b) (.bool b)
  | int (i : Int) : Rp av H (.int i) (.int i)
  | str (x : Str) : Rp av H (.str x) (.str x)
  | lst {a : Addr} {xs : List V} {ds : List PyData} : ¬ av a → H a = some (.lst xs) → RpAll av H xs ds → Rp av H (.ref a) (.list ds)
  | tup {a : Addr} {xs : List V} {ds : List PyData} : ¬ av a → H a = some (.tup xs) → RpAll av H xs ds → Rp av H (.ref a) (.tuple ds)
  | dct {a : Addr} {k : Str} {v : V} {d : PyData} : ¬ av a → H a = some (.dK [(.inr k, v)]) → Rp av H v d → Rp av H (.ref a) (.dict [(.str k, d)])
inductive RpAll (av : Addr → Prop) (H : Hp) : List V → List PyData → Prop
  | nil : RpAll av H [] []
  | cons {v : V} {vs : List V} {d : PyData} {ds : List PyData} : Rp av H v d → RpAll av H vs ds → RpAll av H (v :: vs) (d :: ds)
end
/-- what stood at places that av does not name stands -/
def Ext (av : Addr → Prop) (H H' : Hp) : Prop := ∀ b o, ¬ av b → H b = some o → H' b = some o
section
variable {av : Addr → Prop} {H H' : Hp}
theorem Ext.refl : Ext av H H := fun _ _ _ h => h
theorem Ext.trans {H1 H2 H3 : Hp} (a : Ext av H1 H2) (b : Ext av H2 H3) : Ext av H1 H3 := fun c o n h => b c o n (a c o n h)
theorem Ext.of_same {H1 H2 : Hp} (a : Same H1 H2) : Ext av H1 H2 := fun c o _ h => a c o h
theorem same_new {p : Addr} (h : H p = none) (o : HO) : Same H (upd H p o) := fun b u q => by
  rw [upd_ne (ne_of_none q h)]
  exact q
theorem Ext.new {p : Addr} (h : H p = none) (o : HO) : Ext av H (upd H p o) := Ext.of_same (same_new h o)
theorem Ext.put {p : Addr} (h : av p) (o : HO) : Ext av H (upd H p o) := fun b u n q => by
  rw [upd_ne (fun e => n (by rw [e]; exact h))]
  exact q
mutual
theorem Rp.mono (e : Ext av H H') : ∀ {v : V} {d : PyData}, Rp av H v d → Rp av H' v d
  | _, _, .non => .non
  | _, _, .bl b => .bl b
  | _, _, .int i => .int i
  | _, _, .str x => .str x
  | _, _, .lst n h r => .lst n (e _ _ n h) (RpAll.mono e r)
  | _, _, .tup n h r => .tup n (e _ _ n h) (RpAll.mono e r)
  | _, _, .dct n h r => .dct n (e _ _ n h) (Rp.mono e r)
theorem RpAll.mono (e : Ext av H H') : ∀ {v : List V} {d : List PyData}, RpAll av H v d → RpAll av H' v d
  | _, _, .nil => .nil
  | _, _, .cons a b => .cons (Rp.mono e a) (RpAll.mono e b)
end
theorem RpAll.len : ∀ {vs : List V} {ds : List PyData}, RpAll av H vs ds → vs.length = ds.length
  | _, _, .nil => rfl
  | _, _, .cons _ b => by rw [List.length_cons, List.length_cons, RpAll.len b]
theorem RpAll.at : ∀ {vs : List V} {ds : List PyData} {i : Nat} {v : V}, RpAll av H vs ds → vs[i]? = some v → ∃ d, ds[i]? = some d ∧ Rp av H v d
  | _, _, _, _, .nil, h => by simp at h
  | _, _, 0, _, .cons a _, h => by
    have e := Option.some.inj h
    subst e
    exact ⟨_, rfl, a⟩
  | _, _, i + 1, _, .cons _ b, h => RpAll.at (i := i) b h
theorem RpAll.app : ∀ {vs ws : List V} {ds es : List PyData}, RpAll av H vs ds → RpAll av H ws es → RpAll av H (vs ++ ws) (ds ++ es)
  | _, _, _, _, .nil, q => q
  | _, _, _, _, .cons a b, q => .cons a (RpAll.app b q)
theorem RpAll.take : ∀ {vs : List V} {ds : List PyData} (n : Nat), RpAll av H vs ds → RpAll av H (vs.take n) (ds.take n)
  | _, _, 0, _ => .nil
  | _, _, _ + 1, .nil => .nil
  | _, _, n + 1, .cons a b => .cons a (RpAll.take n b)
theorem RpAll.drop : ∀ {vs : List V} {ds : List PyData} (n : Nat), RpAll av H vs ds → RpAll av H (vs.drop n) (ds.drop n)
  | _, _, 0, q => q
  | _, _, _ + 1, .nil => .nil
  | _, _, n + 1, .cons _ b => RpAll.drop n b
theorem RpAll.set {v : V} {d : PyData} (r : Rp av H v d) : ∀ {vs : List V} {ds : List PyData} (n : Nat), RpAll av H vs ds → RpAll av H (vs.set n v) (ds.set n d)
  | _, _, _, .nil => .nil
  | _, _, 0, .cons _ b => .cons r b
  | _, _, n + 1, .cons a b => .cons a (RpAll.set r n b)
theorem RpAll.snoc {vs : List V} {ds : List PyData} {v : V} {d : PyData} (a : RpAll av H vs ds) (b : Rp av H v d) : RpAll av H (vs ++ [v]) (ds ++ [d]) := a.app (.cons b .nil)
theorem RpAll.ints : ∀ ns : List Int, RpAll av H (ns.map V.int) (ns.map PyData.int)
  | [] => .nil
  | n :: r => .cons (.int n) (RpAll.ints r)
end

/-! ### what it reads as -/
section
variable {X : Cx} {pins : List (Addr × Obj)} {σ : L2.St} {H : Hp} {s : Shared} {av : Addr → Prop}
theorem no_sys (I : Inv X pins σ H s) {o : Obj} (hk : X.K.lookup sysModules = some o) {a : Addr} {u : HO} (h : H a = some u) : a ≠ sysModules := fun e => by
  have q := (I.bs sysModules o (I.mod.kin _ _ hk)).2
  rw [← e, h] at q
  cases q
mutual
theorem Rp.reads (I : Inv X pins σ H s) : ∀ (d : PyData) (v : V) (u : Value), Rp av H v d → RelV v u → ∃ as, Reads s.heap u d as ∧ ∀ b ∈ as, ∃ o, H b = some o
  | .none, _, _, h, r => by
    cases h
    cases r
    exact ⟨_, Reads.none, fun b hb => absurd hb (by simp)⟩
  | .bool b, _, _, h, r => by
    cases h
    cases r
    exact ⟨_, Reads.bool b, fun b hb => absurd hb (by simp)⟩
  | .int i, _, _, h, r => by
    cases h
    obtain ⟨t, rfl⟩ := r
    exact ⟨_, Reads.int i t, fun b hb => absurd hb (by simp)⟩
  | .str x, _, _, h, r => by
    cases h
    obtain ⟨t, rfl⟩ := r
    exact ⟨_, Reads.str x t, fun b hb => absurd hb (by simp)⟩
  | .list ds, _, _, h, r => by
    cases h with
    | lst n hs ha =>
      cases r
      obtain ⟨its, rv, ⟨o, n, ho, hc, _, hd⟩, _⟩ := I.list (SqL.of hs)
      obtain ⟨as, hr, hk⟩ := RpAll.reads I ds _ its ha rv
      refine ⟨_, Reads.list ho hc hd hr, fun b hb => ?_⟩
      rcases List.mem_cons.mp hb with e | e
      · rw [e]
        exact ⟨_, hs⟩
      · exact hk b e
  | .tuple ds, _, _, h, r => by
    cases h with
    | tup n hs ha =>
      cases r
      obtain ⟨its, rv, ⟨o, ho, hc, n, hd⟩, _⟩ := I.tuple (SqT.of hs)
      obtain ⟨as, hr, hk⟩ := RpAll.reads I ds _ its ha rv
      exact ⟨_, Reads.tuple ho hc hd hr, hk⟩
  | .dict kds, _, _, h, r => by
    cases h with
    | @dct a k v d n hs ha =>
      cases r
      obtain ⟨_, _, vs, kv, o, es, ep, ho, hx, hd, hks, hp, _⟩ := (show ObjOk X.prog X.w H s.heap a (.dK [(.inr k, v)]) from I.hok a _ hs)
      cases vs with
      | nil => cases kv
      | cons q0 qt =>
        cases kv with
        | cons r1 rt =>
        cases rt
        obtain ⟨k2, u2⟩ := q0
        obtain ⟨e1, r2⟩ := r1
        simp only at e1 r2
        subst e1
        obtain ⟨as, hr, hk⟩ := Rp.reads I d v u2 ha r2
        generalize hl : es.toList = el at hp
        cases el with
        | nil => cases hp
        | cons e0 et =>
          cases hp with
          | cons i1 i2 i3 =>
          cases i3
          obtain ⟨t, ek⟩ := Value.isStrOf_shape (x := k) (v := e0.key) i1
          refine ⟨a :: ([] ++ []) ++ (as ++ []), Reads.dict ho hx.1 hd ?_ ?_, fun b hb => ?_⟩
          · rw [hl]
            show ReadsAll s.heap [e0.key] [.str k] ([] ++ [])
            rw [ek]
            exact .cons (.str k t) .nil
          · rw [hl]
            show ReadsAll s.heap [e0.val] [d] (as ++ [])
            rw [show e0.val = u2 from i2]
            exact .cons hr .nil
          · simp only [List.append_nil, List.cons_append, List.nil_append, List.mem_cons] at hb
            rcases hb with e | e
            · rw [e]
              exact ⟨_, hs⟩
            · exact hk b e
theorem RpAll.reads (I : Inv X pins σ H s) : ∀ (ds : List PyData) (vs : List V) (us : List Value), RpAll av H vs ds → Vals vs us → ∃ as, ReadsAll s.heap us ds as ∧ ∀ b ∈ as, ∃ o, H b = some o
  | [], _, _, h, r => by
    cases h
    cases r
    exact ⟨_, ReadsAll.nil, fun b hb => absurd hb (by simp)⟩
  | d :: ds, _, _, h, r => by
    cases h with
    | cons h1 h2 =>
      cases r with
      | cons r1 r2 =>
        obtain ⟨as, q1, k1⟩ := Rp.reads I d _ _ h1 r1
        obtain ⟨bs, q2, k2⟩ := RpAll.reads I ds _ _ h2 r2
        refine ⟨_, ReadsAll.cons q1 q2, fun b hb => ?_⟩
        rcases List.mem_append.mp hb with e | e
        · exact k1 b e
        · exact k2 b e
end
/-- repr(value) -/
def rRepr (K : PySem.W.Frag) : List V → Hp → VK → Prop := fun xs H Q => ∃ (av : Addr → Prop) (v : V) (d : PyData), xs = [v] ∧ Rp av H v d ∧ d.showable = true ∧ d.shown.length ≤ sizeLine ∧ d.depth ≤ 100 ∧ Q (.str d.shown) H
theorem call_repr (hg : X.A.guards = some []) (hu : X.A.units + 102 < cLine) (hk : ∃ o, X.K.lookup sysModules = some o) : CallR X (.builtin "repr") (rRepr X.K) := by
  intro pins s σ H xs us Q I r h
  obtain ⟨av, v, d, rfl, rp, hs, hz, hd, q⟩ := h
  obtain ⟨u, rfl, r1⟩ := vals1 r
  obtain ⟨o, hk⟩ := hk
  obtain ⟨as, rd, ht⟩ := rp.reads I d v u r1
  cases rd with
  | none => exact PySem.P.repr_of_none ⟨.str _, H, I.tok _, ⟨_, rfl⟩, q⟩
  | bool b => exact PySem.P.repr_of_bool ⟨.str _, H, I.tok _, ⟨_, rfl⟩, q⟩
  | int i t => exact PySem.P.repr_of_int (of_decide_eq_true hs) ⟨.str _, H, I.tok _, ⟨_, rfl⟩, q⟩
  | str x t => exact PySem.P.repr_of_str ⟨.str _, H, I.tok _, ⟨_, rfl⟩, q⟩ hz
  | list h1 h2 h3 h4 =>
    refine repr_of_reads' (.list h1 h2 h3 h4) hs (fun _ hm => ?_) hg (by omega) (fun _ _ e => e) (fun h' u tk hk2 => ⟨.str _, H, I.kept hk2, ⟨_, rfl⟩, q⟩) hz
    obtain ⟨w, hw⟩ := ht _ hm
    exact no_sys I hk hw rfl
  | tuple h1 h2 h3 h4 =>
    refine repr_of_reads' (.tuple h1 h2 h3 h4) hs (fun _ hm => ?_) hg (by omega) (fun _ _ e => e) (fun h' u tk hk2 => ⟨.str _, H, I.kept hk2, ⟨_, rfl⟩, q⟩) hz
    obtain ⟨w, hw⟩ := ht _ hm
    exact no_sys I hk hw rfl
  | dict h1 h2 h3 h4 h5 =>
    refine repr_of_reads' (.dict h1 h2 h3 h4 h5) hs (fun _ hm => ?_) hg (by omega) (fun _ _ e => e) (fun h' u tk hk2 => ⟨.str _, H, I.kept hk2, ⟨_, rfl⟩, q⟩) hz
    obtain ⟨w, hw⟩ := ht _ hm
    exact no_sys I hk hw rfl
end
end Rw
namespace Rw
open PySem PySem.Spec PyProof.Rows L2 PySem.SeqAt

/-! ### enumerate(a tuple) -/
abbrev tupIt (t : Addr) : Obj :=
  { cls := .type "tuple_iterator", data := .fields #[.ref t, .int 0 0] }
abbrev enumOb (i : Addr) : Obj :=
  { cls := .type "enumerate", data := .fields #[.none, .bool false, .ref i, rawInt 0, .none, .none] }
theorem enum_made (t : Addr) (items : Array Value) : Meets (Builtin.«enumerate.__new__» ⟨[.type "enumerate", .ref t], []⟩)
    (fun _ R s => s.heap.IsTuple t items ∧
      R (.ok (.ret (.ref (s.heap.push (tupIt t)).objs.size)))
        { s with heap := (s.heap.push (tupIt t)).push (enumOb s.heap.objs.size) }) := by
  refine .of_wp fun prog w A R s h => ?_
  cases s with
  | mk hp g d tk os =>
  have ht := h.1
  have hR := h.2
  have sub := sub_enumerate
  have begin_ : ∀ {A' : Around} {E : Value → Shared → Prop} {Q : Value → Shared → Prop}, Q (.ref hp.objs.size) ⟨hp.push (tupIt t), g, d, tk, os⟩ →
      wpAny (model prog w) A' (pyIter (.ref t)) Q E ⟨hp, g, d, tk, os⟩ := fun q => wpAny_pyIter_tuple ht q
  wp_walk using begin_
  refine wpAny_stack_any fun st => wpAny_pure ?_
  split
  · rename_i c _ _ _ _ _
    cases (c == Value.type "enumerate") <;> (wp_walk using begin_; exact ⟨_, rfl, hR⟩)
  · wp_walk using begin_
    exact ⟨_, rfl, hR⟩
section
variable {prog : Program} {w : World} {A : Around} {E : Value → Shared → Prop} {s : Shared}
theorem call_enum_tup {t : Addr} {items : Array Value} {Q : Value → Shared → Prop} (ht : s.heap.IsTuple t items)
    (h : ∀ h', IsEnum h' (s.heap.objs.size + 1) s.heap.objs.size 0 .none → h'.IsTupleIter s.heap.objs.size t 0 →
      (∀ b o, s.heap.get? b = some o → h'.get? b = some o) → Q (.ref (s.heap.objs.size + 1)) { s with heap := h' }) :
    wpAny (model prog w) A (call (.type "enumerate") [.ref t]) Q E s := by
  refine callType_new F.called_enumerate (by decide) (F.typeCall_enumerate_1 _) (F.newCall_enumerate_1 _)
    (fun obj => F.args_object_init_2 obj _) F.entry_enumerate_new (enum_made t items) ⟨ht, ?_⟩
  have size1 : (s.heap.push (tupIt t)).objs.size = s.heap.objs.size + 1 := Heap.size_push ..
  show _ ∧ _
  rw [size1]
  have at1 : IsEnum ((s.heap.push (tupIt t)).push (enumOb s.heap.objs.size)) (s.heap.objs.size + 1) s.heap.objs.size 0 .none := by
    rw [← size1]
    exact Heap.get?_push_size (s.heap.push (tupIt t)) (o := enumOb s.heap.objs.size) rfl
  have at0 : ((s.heap.push (tupIt t)).push (enumOb s.heap.objs.size)).IsTupleIter s.heap.objs.size t 0 :=
    ⟨_, Heap.get?_push_of_some _ (Heap.get?_push_size _ rfl), rfl, rfl⟩
  exact ⟨⟨_, at1, rfl⟩, h _ at1 at0 fun b o x => Heap.get?_push_of_some _ (Heap.get?_push_of_some _ x)⟩
end
/-- the tuple at a, each item in a new pair behind its place -/
def Itet (K : PySem.W.Frag) (a : Addr) : It where
  go i H := ∃ (xs : List V) (x : V), SqT K H a xs ∧ xs[i]? = some x
  yld i H v H' := ∃ T x, v = .ref T ∧ H T = none ∧ H' = upd H T (.tup [.int (i : Nat), x]) ∧ ∀ xs, SqT K H a xs → xs[i]? = some x
  stop i H := ∃ xs : List V, SqT K H a xs ∧ xs.length ≤ i
abbrev enSt (a e it : Addr) (i : Nat) (h : Heap) : Prop := (∃ old, IsEnum h e it ((i : Nat) : Int) old) ∧ h.IsTupleIter it a i ∧ e ≠ it ∧ e ≠ a ∧ it ≠ a
theorem turn_enumT {P : Program} {w : World} {K : PySem.W.Frag} {elts : List Expr} {kk : Nat} {tpos : Pos} (a e it : Addr) :
    Turn P w K (.Tuple elts kk tpos) (Itet K a) [e, it] e (enSt a e it) where
  mem := List.mem_cons_self ..
  obj := fun i h st b hb => by
    obtain ⟨⟨old, he⟩, ⟨o, ho, _, hd⟩, _⟩ := st
    simp only [List.mem_cons, List.not_mem_nil, or_false] at hb
    cases hb with
    | inl z => rw [z]; exact ⟨_, he, fun v q => nomatch q⟩
    | inr z => rw [z]; exact ⟨o, ho, fun v q => by rw [hd] at q; cases q⟩
  keep := fun i h h' st k => by
    obtain ⟨⟨old, he⟩, hi, rest⟩ := st
    exact ⟨⟨old, k e (by simp) _ he⟩, hi.at fun o q => k it (by simp) o q, rest⟩
  item := by
    intro X hP hw hK hc i pins s σ H E I hf st hg
    subst hP hw hK
    obtain ⟨⟨old, he⟩, hit, hne, hea, hia⟩ := st
    obtain ⟨xs, x, hq, hx⟩ := hg
    obtain ⟨its, rv, p, _⟩ := I.tuple hq
    obtain ⟨u, hu, ru⟩ := rv.get hx
    have p' : s.heap.IsTuple a its.toArray := p
    have el : e < s.heap.objs.size := Heap.lt_size he
    have il : it < s.heap.objs.size := by
      obtain ⟨_, q, _⟩ := hit
      exact Heap.lt_size q
    have lt : i < its.toArray.size := by
      have q := (List.getElem?_eq_some_iff.mp hu).1
      simpa using q
    have D := Draws.tuple (prog := X.prog) (w := X.w) (A := X.A.in1) (show X.A.in1.handled = none from I.ok.hd hc) it a (Ne.symm hia) its.toArray
    refine wpAny_pyNext_enum_itemD D he ⟨hit, p'⟩ lt hne (by simp [hne, hea]) fun y h' tk hy ho hst hT hsz hk => ?_
    have ey : y = u := by
      have q : its.toArray[i]? = some u := by simpa using hu
      exact Option.some.inj (hy.symm.trans q)
    subst ey
    refine ⟨_, rfl, wpAny_letOwnedTupleGo_enum (s := { s with heap := h', toks := tk + 1 }) ho fun h2 he2 sb => ?_⟩
    have hT2 : h2.get? s.heap.objs.size = some { cls := .type "tuple", data := .seq #[.int i tk, y] } := (sb.2 _ (Nat.ne_of_gt el)).trans hT
    have new : ObjOk X.prog X.w (upd H s.heap.objs.size (.tup [.int (i : Nat), x])) h2 s.heap.objs.size (.tup [.int (i : Nat), x]) := by
      refine ⟨by show 2 ≤ sizeLine; decide, [.int i tk, y], .cons ⟨_, rfl⟩ (.cons ru .nil), ?_⟩
      exact ⟨_, hT2, rfl, _, rfl⟩
    have turned : ∀ b ob, b ∉ [e, it] → s.heap.get? b = some ob → h2.get? b = some ob := fun b ob hb q => by
      have n1 : b ≠ e := fun z => hb (by simp [z])
      have n2 : b ≠ it := fun z => hb (by simp [z])
      exact (sb.2 b n1).trans (hk b ob n1 n2 q)
    have I1 : Inv X pins σ (upd H s.heap.objs.size (.tup [.int (i : Nat), x])) { s with heap := h2, toks := tk + 1 } := I.turnedNew (ch := [e, it]) turned hf (Nat.le_refl _) new
    refine ⟨.ref s.heap.objs.size, _, I1, rfl, ⟨_, x, rfl, I.hok.fresh (Nat.le_refl _), rfl, fun ys hy => ?_⟩, ⟨⟨y, ?_⟩, ?_, hne, hea, hia⟩, fun b hb => ?_⟩
    · rw [I.tuple_inj hy hq]
      exact hx
    · have e1 : ((i + 1 : Nat) : Int) = (i : Int) + 1 := by omega
      rw [e1]
      exact he2
    · exact hst.1.at fun o q => (sb.2 it (Ne.symm hne)).trans q
    · have lo : b < s.heap.objs.size := by
        simp only [List.mem_cons, List.not_mem_nil, or_false] at hb
        cases hb with
        | inl z => rw [z]; exact el
        | inr z => rw [z]; exact il
      rw [upd_ne (Nat.ne_of_lt lo)]
      exact (hf b hb).1
  done := by
    intro X hP hw hK hc i pins s σ H E I hf st hg
    subst hP hw hK
    obtain ⟨⟨old, he⟩, hit, hne, hea, hia⟩ := st
    obtain ⟨xs, hq, hx⟩ := hg
    obtain ⟨its, rv, p, _⟩ := I.tuple hq
    have p' : s.heap.IsTuple a its.toArray := p
    obtain ⟨f0, f1, f2, f3, f4, f5⟩ := hf it (by simp)
    have hl := rv.length
    unfold pyNext
    refine wpAny_bind (wpAny_attempt (wpAny_callSpecial?_slot (name := Str.ofString "__next__") ⟨_, he, rfl⟩ F.slot_enumerate_next ?_))
    refine wpAny_call_entry F.slot_enumerate_next ⟨_, he, rfl⟩ F.entry_enumerate_next ?_ (F.args_enumerate_next_1 _)
    show wpAny _ _ (field (.ref e) 2 >>= _) _ _ _
    refine wpAny_bind (wpAny_field he rfl (x := .ref it) rfl ?_)
    refine wpAny_bind (wpAny_nextOf_tuple_end (I.ok.hd hc) hit p' (by simp; omega) fun h' e2 he' hx' => ?_)
    obtain ⟨o2, ho2, hc2⟩ := hx'
    refine wpAny_bind (wpAny_isInstance (T := "StopIteration") (b := true) ⟨o2, ho2, hc2⟩ isSubtype_stop ?_)
    exact wpAny_pure ⟨rfl, I.turned (t' := s.toks) (fun b o hb q => he' b o hb q) f0 f1 f3 f4 f5⟩
  self := fun A i s Q E st h => by
    obtain ⟨⟨_, he⟩, _⟩ := st
    exact wpAny_pyIter_enum he h
def iEnumT (K : PySem.W.Frag) (ta : TA) : TI := fun σ H R => ta σ H fun vs H1 => ∃ a xs, vs = [.ref a] ∧ SqT K H1 a xs ∧ R (Itet K a) H1
theorem pi_enumT {X : Cx} {e : Expr} {ta : TA} {p pos tpos : Pos} {elts : List Expr} {kk : Nat} (hg : Gl X "enumerate") (hm : X.mg "enumerate" = none) (ha : PA X [e] ta)
    (hs : starEach [e] X.env = [(false, eval e X.env)] := by rfl) : PI X (.Tuple elts kk tpos) (.Call (.Name "enumerate" p) [e] [] pos) (iEnumT X.K ta) := by
  refine ⟨fun pins s σ H R I h => ?_⟩
  refine Call_ (ld_blt I hg hm boot_enumerate (PyProof.Rows.callWith_type1 ?_ hs rfl))
  refine thn (ha.run pos pins s σ H _ I h) fun us s1 ⟨vs, H1, I1, r1, a, xs, ex, hq, q⟩ => ?_
  subst ex
  obtain ⟨u, rfl, r⟩ := vals1 r1
  cases r
  obtain ⟨its, rv, p', hz⟩ := I1.tuple hq
  have p2 : s1.heap.IsTuple a its.toArray := p'
  have al : a < s1.heap.objs.size := by
    obtain ⟨_, q, _⟩ := p2
    exact Heap.lt_size q
  refine call_enum_tup p2 fun h' he hit hk => wpAny_pyIter_enum he ?_
  have I2 : Inv X pins σ H1 { s1 with heap := h' } := I1.kept (t' := s1.toks) hk
  have n1 : s1.heap.objs.size + 1 ≠ a := Nat.ne_of_gt (Nat.lt_succ_of_lt al)
  have n2 : s1.heap.objs.size ≠ a := Nat.ne_of_gt al
  refine ⟨s1.heap.objs.size + 1, [s1.heap.objs.size + 1, s1.heap.objs.size], _, _, H1, rfl, I2, turn_enumT a (s1.heap.objs.size + 1) s1.heap.objs.size, ⟨⟨.none, he⟩, hit, Nat.succ_ne_self _, n1, n2⟩, fun b hb => ?_, q⟩
  have hle : s1.heap.objs.size ≤ b := by
    simp only [List.mem_cons, List.not_mem_nil, or_false] at hb
    cases hb with
    | inl z => rw [z]; exact Nat.le_add_right _ _
    | inr z => rw [z]; exact Nat.le_refl _
  exact I1.fpOk hle (I1.hok.fresh hle)
theorem walk_enumT {K : PySem.W.Frag} {a : Addr} {xs : List V} : Walk (Itet K a) xs.length (fun H => SqT K H a xs) (YPair (fun i => some (.int (i : Nat))) (fun i => xs[i]?)) where
  goes := fun i _ hi q => ⟨xs, xs[i], q, by simp [hi]⟩
  stops := fun _ q => ⟨xs, q, Nat.le_refl _⟩
  yields := fun i H v H' _ q y => by
    obtain ⟨T, x, h1, h2, h3, h4⟩ := y
    exact ⟨T, .int (i : Nat), x, h1, h2, h3, rfl, h4 xs q⟩

/-! ### a def called by names alone -/
section
variable {X : Cx} {CX : CXT} {k : Nat} {f : Addr} {fd : FuncData} {ps ks : List Str} {sp : Sp} {E : XK} {x : Str} {p pos : Pos} {kws : List Keyword} {tk : TA} {g : List Value → List Value → List Value} {gV : List V → List V → List V}
theorem pe_callK0 (F : FnOk X.prog X.w X.K X.mg X.base CX k f fd ps sp) (hr : Room k X.A) (hg : Gl X x) (hm : X.mg x = some (.ref f)) (hk : PySem.W.keepIn X.K (.ref f) = true) (hb : KBinds X.K fd ps ks g gV) (hx : Passes CX X E) (hkw : PK X kws tk)
    (hall : (backToKw pos (keywordEach kws X.env)).all (·.1.isSome) = true := by rfl) (hks : (backToKw pos (keywordEach kws X.env)).filterMap (·.1) = ks := by rfl)
    (hdb : (x == ("__debug__" : Str)) = false := by decide) (hpl : ((backTo pos (starEach [] X.env)).any (·.1) || (backToKw pos (keywordEach kws X.env)).any (·.1.isNone)) = false := by rfl) :
    PE X (.Call (.Name x p) [] kws pos) (tCallK sp gV E tNil tk) := by
  refine ⟨fun pins s σ H Q I h => ?_⟩
  refine wpAny_Call_Name_kw (ld_glob I hg hm ?_ hdb)
  refine PySem.W.callWith_KW0 (h₀ := X.base) I.ok.mod.kin hk hall ?_ hpl
  refine thn (hkw.run pos pins s σ H _ I h) fun ws s2 ⟨zs, H2, I2, rz, q2⟩ => ⟨I2.kIn, ?_⟩
  rw [hks]
  exact run_fnk (vs := []) (us := []) F hr hb hx I2 .nil rz q2
end
end Rw
namespace Rw
open PySem PySem.Spec PyProof.Rows L2 PySem.SeqAt

/-! ### a value of any kind among texts -/
def eqS (d : PyData) (z : Str) : Bool := match d with
  | .str x => z == x
  | _ => false
def eqV2 (d : PyData) (y : Value) : Bool := match y with
  | .str z _ => eqS d z
  | _ => false
theorem strs_any (d : PyData) : ∀ (zs : List Str) (us : List Value), Vals (zs.map V.str) us → us.any (eqV2 d) = zs.any (eqS d)
  | [], _, r => by cases r; rfl
  | z :: zs, _, r => by
    cases r with
    | cons r1 r2 =>
      obtain ⟨t, rfl⟩ := r1
      rw [List.any_cons, List.any_cons, strs_any d zs _ r2]
      rfl
theorem strs_mem : ∀ {zs : List Str} {us : List Value}, Vals (zs.map V.str) us → ∀ y ∈ us, ∃ z t, y = .str z t
  | [], _, r, y, hy => by cases r; cases hy
  | z :: zs, _, r, y, hy => by
    cases r with
    | cons r1 r2 =>
      obtain ⟨t, rfl⟩ := r1
      rcases List.mem_cons.mp hy with e | e
      · exact ⟨z, t, e⟩
      · exact strs_mem r2 y e
theorem str_eqAt {A : Around} {s : Shared} {u : Value} {d : PyData} {as : List Addr} (hu : A.units < cLine) (rd : Reads s.heap u d as) (z : Str) (t : Tok) : EqAt A s (.str z t) u (eqS d z) := by
  cases rd with
  | none => exact EqAt.str_none z t
  | bool b => exact EqAt.str_bool z t b
  | int i k => exact EqAt.str_int z t i k
  | str x k => exact EqAt.str_str z t x k
  | list h1 h2 h3 h4 => exact EqAt.str_list z t ⟨_, h1, h2, _, h3⟩ hu
  | tuple h1 h2 h3 h4 => exact EqAt.str_tuple z t ⟨_, h1, h2, _, h3⟩ hu
  | dict h1 h2 h3 h4 h5 => exact eq_str_dict z t h1 h2 h3 hu
section
variable {X : Cx}
def rInS (K : PySem.W.Frag) (neg : Bool) : R2 := fun x y H Q => ∃ (av : Addr → Prop) (d : PyData) (p : Addr) (zs : List Str), Rp av H x d ∧ y = .ref p ∧ SqT K H p (zs.map V.str) ∧ Q (.bl (neg != zs.any (eqS d))) H
theorem op_inS (hu : X.A.units + 1 < cLine) : OpR X (compareOp .In) (rInS X.K false) := by
  intro pins s σ H x y v u Q I rx ry h
  obtain ⟨av, d, p, zs, hd, rfl, ht, q⟩ := h
  cases ry
  obtain ⟨as, rd, _⟩ := hd.reads I d x v rx
  obtain ⟨its, rv, ht2, _⟩ := I.tuple ht
  refine in_tupleAt (eqV2 d) ht2 (fun y hy => ?_) ?_
  · obtain ⟨z, t, rfl⟩ := strs_mem rv y (by simpa using hy)
    exact str_eqAt hu rd z t
  · refine ⟨.bl _, H, I, rfl, ?_⟩
    rw [← Array.any_toList, strs_any d zs its rv]
    simpa using q
theorem op_notInS (hu : X.A.units + 1 < cLine) : OpR X (compareOp .NotIn) (rInS X.K true) := by
  intro pins s σ H x y v u Q I rx ry h
  obtain ⟨av, d, p, zs, hd, rfl, ht, q⟩ := h
  cases ry
  obtain ⟨as, rd, _⟩ := hd.reads I d x v rx
  obtain ⟨its, rv, ht2, _⟩ := I.tuple ht
  refine notIn_tupleAt (eqV2 d) ht2 (fun y hy => ?_) ?_
  · obtain ⟨z, t, rfl⟩ := strs_mem rv y (by simpa using hy)
    exact str_eqAt hu rd z t
  · refine ⟨.bl _, H, I, rfl, ?_⟩
    rw [← Array.any_toList, strs_any d zs its rv]
    simpa using q
/-- t == () -/
def rEqNil (K : PySem.W.Frag) : R2 := fun x y H Q => ∃ (a b : Addr) (xs : List V), x = .ref a ∧ y = .ref b ∧ SqT K H a xs ∧ SqT K H b [] ∧ Q (.bl (decide (xs = []))) H
theorem op_eqNil (hu : X.A.units < cLine) : OpR X (compareOp .Eq) (rEqNil X.K) := by
  intro pins s σ H x y v u Q I rx ry h
  obtain ⟨a, b, xs, rfl, rfl, ha, hb, q⟩ := h
  cases rx
  cases ry
  obtain ⟨its, rv, h1, _⟩ := I.tuple ha
  obtain ⟨its2, rv2, h2, _⟩ := I.tuple hb
  cases rv2
  refine eq_tupleAt (e := fun _ => false) h1 h2 hu (fun j k1 k2 => absurd k2 (by simp)) ⟨.bl _, H, I, rfl, ?_⟩
  have e : ((List.range (min its.toArray.size ([] : List Value).toArray.size)).all (fun _ => false) && its.toArray.size == ([] : List Value).toArray.size) = decide (xs = []) := by
    have l := rv.length
    cases xs with
    | nil =>
      cases its with
      | nil => simp
      | cons _ _ => simp at l
    | cons _ _ =>
      cases its with
      | nil => simp at l
      | cons _ _ => simp
  rw [e]
  exact q
end

/-! ### isinstance of data -/
def clsOf : PyData → String
  | .none => "NoneType"
  | .bool _ => "bool"
  | .int _ => "int"
  | .str _ => "str"
  | .list _ => "list"
  | .tuple _ => "tuple"
  | .dict _ => "dict"
theorem Rp.ty {K : PySem.W.Frag} {av : Addr → Prop} {H : Hp} {v : V} {d : PyData} (h : Rp av H v d) : TyX K H v (.type (clsOf d)) := by
  cases h with
  | non => exact .base .non
  | bl b => exact .base (.bl b)
  | int i => exact .base (.int i)
  | str x => exact .base (.str x)
  | lst _ h _ => exact .base (.lst h)
  | tup _ h _ => exact .base (.tup h)
  | dct _ h _ => exact .base (.dK h)
def isC (n c : String) : Bool := c == n || (c == "bool" && n == "int")
def isT (n : String) (d : PyData) : Bool := isC n (clsOf d)
def clsAll : List String := ["NoneType", "bool", "int", "str", "list", "tuple", "dict"]
theorem clsOf_mem (d : PyData) : clsOf d ∈ clsAll := by
  cases d <;> simp [clsOf, clsAll]
theorem kit_all : ∀ c ∈ clsAll, ∀ n ∈ ["tuple", "int", "bool", "str", "list"], kitB c n = some (isC n c) := by decide +kernel
theorem kit_isT {K : PySem.W.Frag} (d : PyData) (n : String) (hn : n ∈ ["tuple", "int", "bool", "str", "list"]) : PySem.W.kitOne K (.type (clsOf d)) (.type n) = some (isT n d) :=
  kit_ty (kit_all _ (clsOf_mem d) n hn)
section
variable {X : Cx}
def rIsD (K : PySem.W.Frag) (n : String) : List V → Hp → VK → Prop := fun xs H Q => ∃ (av : Addr → Prop) (x : V) (d : PyData), xs = [x, .ty n] ∧ Rp av H x d ∧ Q (.bl (isT n d)) H
theorem call_isD {n : String} (hn : n ∈ ["tuple", "int", "bool", "str", "list"]) : CallR X (.builtin "isinstance") (rIsD X.K n) := by
  intro pins s σ H xs us Q I r h
  obtain ⟨av, x, d, rfl, hd, q⟩ := h
  exact call_isi pins s σ H _ us Q I r ⟨x, .ty n, _, _, _, rfl, .ty n, hd.ty, kit_isT d n hn, q⟩
end
end Rw
namespace Rw
open PySem L2
def top (i : Nat) : Stmt := PySem.Challenge.pw_roomways_k02_whole_rooms_held_and_wished.main.body.getD i (.Pass ⟨0, 0, 0, 0⟩)
abbrev sDeck : Stmt := top 5
abbrev sDraw : Stmt := top 6
abbrev sPick : Stmt := top 7

/-! ### the deck -/
def deckKV (gl : Addr) (sd tn : Int) : List (Key × V) := [(.inr "great", .ref gl), (.inr "seal", .int sd), (.inr "turn", .int tn)]
structure DeckAt (dk gl : Addr) (H : Hp) : Prop where
  ex : ∃ (great : List Int) (sd tn : Int), H dk = some (.dK (deckKV gl sd tn)) ∧ H gl = some (.lst (great.map V.int)) ∧ great.length ≤ 63
/-- the places of a deck -/
def avD (dk gl : Addr) : Addr → Prop := fun b => b = dk ∨ b = gl
theorem k_gs : ¬ (Sum.inr ("great" : Str) : Key) = Sum.inr ("seal" : Str) := by decide +kernel
theorem k_gt : ¬ (Sum.inr ("great" : Str) : Key) = Sum.inr ("turn" : Str) := by decide +kernel
theorem k_st : ¬ (Sum.inr ("seal" : Str) : Key) = Sum.inr ("turn" : Str) := by decide +kernel
theorem deck_great (gl : Addr) (s t : Int) : valV (deckKV gl s t) (Sum.inr ("great" : Str)) = some (.ref gl) := valV_pos rfl
theorem deck_seal (gl : Addr) (s t : Int) : valV (deckKV gl s t) (Sum.inr ("seal" : Str)) = some (.int s) := by
  unfold deckKV
  rw [valV_neg k_gs, valV_pos rfl]
theorem deck_turn (gl : Addr) (s t : Int) : valV (deckKV gl s t) (Sum.inr ("turn" : Str)) = some (.int t) := by
  unfold deckKV
  rw [valV_neg k_gt, valV_neg k_st, valV_pos rfl]
theorem deck_put (gl : Addr) (s t u : Int) : putK (deckKV gl s t) (Sum.inr ("turn" : Str)) (.int u) = deckKV gl s u := by
  unfold putK
  rw [valV_any, deck_turn, if_pos (show (some (V.int t)).isSome = true from rfl)]
  unfold deckKV
  simp only [List.map_cons, List.map_nil, if_neg k_gt, if_neg k_st]
  rfl
theorem deck_merge (gl : Addr) (s t : Int) : mergeK [] (deckKV gl s t) = deckKV gl s t := by
  have n1 : ¬ (Sum.inr ("seal" : Str) : Key) = Sum.inr ("great" : Str) := fun e => k_gs e.symm
  have n2 : ¬ (Sum.inr ("turn" : Str) : Key) = Sum.inr ("great" : Str) := fun e => k_gt e.symm
  have n3 : ¬ (Sum.inr ("turn" : Str) : Key) = Sum.inr ("seal" : Str) := fun e => k_st e.symm
  unfold mergeK deckKV
  simp only [List.foldl_cons, List.foldl_nil, putK, List.any_nil, List.any_cons, List.nil_append, List.cons_append, decide_eq_false k_gs, decide_eq_false k_gt, decide_eq_false k_st, Bool.or_false, Bool.false_eq_true, if_false]
theorem DeckAt.ne {dk gl : Addr} {H : Hp} (h : DeckAt dk gl H) : dk ≠ gl := by
  obtain ⟨_, _, _, h1, h2, _⟩ := h.ex
  exact ne_of h1 h2 (by intro q; cases q)
theorem DeckAt.same {dk gl : Addr} {H H' : Hp} (h : DeckAt dk gl H) (e : Same H H') : DeckAt dk gl H' := by
  obtain ⟨g, s, t, h1, h2, h3⟩ := h.ex
  exact ⟨g, s, t, e _ _ h1, e _ _ h2, h3⟩
theorem DeckAt.new {dk gl : Addr} {H : Hp} (h : DeckAt dk gl H) {p : Addr} (n : H p = none) : ¬ avD dk gl p := by
  obtain ⟨g, s, t, h1, h2, _⟩ := h.ex
  rintro (e | e)
  · rw [e, h1] at n
    cases n
  · rw [e, h2] at n
    cases n

/-- the built-in names that are used stand for themselves -/
structure Blt (mg : Str → Option Value) : Prop where
  abs : mg "abs" = none
  int : mg "int" = none
  bool : mg "bool" = none
  str : mg "str" = none
  len : mg "len" = none
  isi : mg "isinstance" = none
  enu : mg "enumerate" = none
  rng : mg "range" = none
  list : mg "list" = none
  tup : mg "tuple" = none
  repr : mg "repr" = none

def spDeck (K : PySem.W.Frag) : Sp := fun vs H Q _ => ∃ (a : Addr) (ns : List Int), vs = [.ref a] ∧ SqL K H a (ns.map V.int) ∧ ns.length ≤ 63 ∧ ∀ (dk gl : Addr) (H' : Hp), Same H H' → DeckAt dk gl H' → Q (.ref dk) H'
def spDraw : Sp := fun vs H Q _ => ∃ (dk gl : Addr) (many : Int), vs = [.ref dk, .int many] ∧ DeckAt dk gl H ∧ many < 1000000 ∧ ∀ (r : Int) (H' : Hp), Ext (avD dk gl) H H' → DeckAt dk gl H' → 0 ≤ r → (r < many ∨ (r = 0 ∧ many < 2)) → Q (.int r) H'

section
variable {P : Program} {w : World} {K : PySem.W.Frag} {mg : Str → Option Value} {base : Heap}
theorem scDeck : FnScope ["script", "cells", "seal", "cell", "own"] ["script"] (defScope sDeck) := ⟨rfl, rfl, rfl, by decide +kernel, rfl, by decide +kernel, by decide +kernel⟩
theorem mem_ints {ns : List Int} {i : Nat} {x : V} (h : (ns.map V.int)[i]? = some x) : ∃ n, ns[i]? = some n ∧ x = .int n := by
  rw [List.getElem?_map] at h
  cases e : ns[i]? with
  | none =>
    rw [e] at h
    cases h
  | some n =>
    rw [e] at h
    exact ⟨n, rfl, (Option.some.inj h).symm⟩
theorem sz {n : Nat} (h : n ≤ 100000) : n ≤ sizeLine := Nat.le_trans h (by decide)
theorem szlt {n : Nat} (h : n ≤ 100000) : n < sizeLine := Nat.lt_of_le_of_lt h (by decide)
theorem cut_ints (ns : List Int) (lo hi : Option Int) : cutV (ns.map V.int) lo hi = ((ns.drop (HT.sIx (ns.map V.int).length 0 lo)).take (HT.sIx (ns.map V.int).length (ns.map V.int).length hi - HT.sIx (ns.map V.int).length 0 lo)).map V.int := by
  unfold cutV
  rw [List.map_take, List.map_drop]
theorem cut_ints_ex (ns : List Int) (lo hi : Option Int) : ∃ ms : List Int, cutV (ns.map V.int) lo hi = ms.map V.int ∧ ms.length ≤ ns.length := by
  refine ⟨_, cut_ints ns lo hi, ?_⟩
  rw [List.length_take, List.length_drop]
  omega
theorem snoc_ints {H : Hp} {D : Addr} {cs : List Int} {z : Int} {n : Nat} (h : cs.length ≤ n) : ∃ es : List Int, upd H D (.lst (cs.map V.int ++ [V.int z])) D = some (.lst (es.map V.int)) ∧ es.length ≤ n + 1 := by
  refine ⟨cs ++ [z], ?_, ?_⟩
  · rw [upd_same, List.map_append]
    rfl
  · rw [List.length_append, List.length_singleton]
    omega
theorem same_upd {H0 H : Hp} {D : Addr} (h : Same H0 H) (hD : H0 D = none) (o : HO) : Same H0 (upd H D o) := fun b u e => by
  rw [upd_ne (ne_of_none e hD)]
  exact h _ _ e
theorem ok_deck {f : Addr} {fd : FuncData} (F : Fun K "_law_deck" "_law_deck" sDeck f fd) (B : Blt mg) : FnOk P w K mg base CX0 1 f fd ["script"] (spDeck K) := by
  refine F.ok scDeck (fun vs H Q E h => ?_) (fun cdv A outer s H vs Q E hr h => ?_)
  · obtain ⟨a, ns, rfl, _⟩ := h
    rfl
  obtain ⟨a, ns, rfl, hS, hlen, q⟩ := h
  have nd := scDeck.nd
  refine ⟨_, pss_cons (ps_par (i := 1) (j := 2) (by rfl) nd rfl rfl (by decide) rfl rfl (pa_cons
      (pe_lc (own := [("own", 4)]) (g := gName 4) (tt := tYes) rfl nd (pi_list (pe_slice sl_list (pv 0) po_none (po_some pe_int))) (blkOk_by (N := ["script", "cells", "seal", "cell", "own"]) (sc := defScope sDeck) (by decide +kernel))
        (fun _ _ _ _ _ => pg_name (i := 4) nd rfl (Or.inl rfl)) (fun _ _ _ _ _ => pts_nil)
        (fun _ _ _ _ _ => pe_op op_add (pe_op op_mul pe_int (pe_callB call_abs (by rfl) B.abs (by decide +kernel) (pa_cons (pv 4) pa_nil))) (pe_callTy call_int1 (by rfl) B.int (by decide +kernel) (pa_cons (pe_cmpR op_lt (pv 4) pe_int (nomark _)) pa_nil))))
      (pa_cons (pe_op op_add pe_int (pe_op op_mul pe_int (pe_callB call_len_seq (by rfl) B.len PySem.boot_len (pa_cons (pv 0) pa_nil)))) pa_nil)) (by rfl))
    (pss_cons (ps_for PassesOwn.never rfl (pi_list (pv 1)) (pg_name (i := 3) nd rfl (Or.inl rfl))
      (pss_one (ps_set (i := 2) nd rfl (Or.inl rfl) (pe_op op_mod (pe_callTy call_int1 (by rfl) B.int (by decide +kernel) (pa_cons (pe_op op_add (pe_op op_add (pe_op op_mul (pv 2) pe_int) (pv 3)) pe_int) pa_nil)) pe_int))))
    (pss_one (ps_ret (pe_disp (pps_cons pe_str (pe_revL (pe_lc (own := [("cell", 3)]) (g := gName 3) (tt := _) rfl nd (pi_list (pv 1)) (blkOk_by (N := ["script", "cells", "seal", "cell", "own"]) (sc := defScope sDeck) (by decide +kernel))
        (fun _ _ _ _ _ => pg_name (i := 3) nd rfl (Or.inl rfl)) (fun _ _ _ _ _ => pts_one (pt_cmpR op_ge (pv 3) (pe_op op_pow pe_int pe_int) (nomark _))) (fun _ _ _ _ _ => pv 3)))
      (pps_cons pe_str (pv 2) (pps_cons pe_str pe_int pps_nil))) (by rfl) (by rfl) (fun z => by cases z) (by decide))))), ?_⟩
  obtain ⟨ms, ecut, lcut⟩ := cut_ints_ex ns none (some 63)
  -- cells
  refine ⟨_, rfl, 63, rfl, a, _, rfl, hS, fun p hp => ⟨p, rfl, ⟨_, SqL.of upd_same⟩, fun D hD => ?_⟩⟩
  rw [ecut] at hD ⊢
  have s1 : Same H (upd H p (.lst (ms.map V.int))) := same_new hp _
  have hD0 : H D = none := s1.free hD
  refine lc_list (K := K) (a := p) (xs := ms.map V.int) (fun i H' => Same (upd H p (.lst (ms.map V.int))) H' ∧ ∃ cs : List Int, H' D = some (.lst (cs.map V.int)) ∧ cs.length ≤ i) ?_ ?_ ?_ ?_
  · exact ⟨same_new hD _, [], upd_same, Nat.le_refl _⟩
  · rintro i H' _ ⟨e, _⟩
    exact SqL.of (e _ _ upd_same)
  · rintro i x H' hi ⟨e, cs, hcs, lcs⟩
    obtain ⟨n, hn, rfl⟩ := mem_ints hi
    have hi2 : i < ms.length := (List.getElem?_eq_some_iff.mp hn).1
    refine ⟨rfl, ?_⟩
    -- kept
    refine iteT (B := True) ?_
    refine ⟨_, rfl, n, rfl, _, _, rfl, rfl, .inl ⟨by decide, by decide⟩, _, rfl, _, _, rfl, rfl, .inr ⟨_, rfl, _, _, rfl, rfl, _, hcs, szlt (by rw [List.length_map]; omega), ?_⟩⟩
    exact ⟨same_upd e hD _, snoc_ints lcs⟩
  rintro H1 ⟨e1, cs, hcs, lcs⟩
  rw [List.length_map] at lcs
  have e01 : Same H H1 := s1.trans e1
  refine ⟨_, rfl, a, _, rfl, .inl (e01.seq hS), _, _, rfl, rfl, .inl ⟨by decide, by decide⟩, _, _, rfl, rfl, _, _, rfl, ?_⟩
  -- the loop
  refine ⟨_, rfl, D, rfl, ⟨_, SqL.of hcs⟩, for_list (K := K) (a := D) (xs := cs.map V.int) (fun i σ H' => H' = H1 ∧ ∃ (z : Int) (v : Option V), σ = [some (.ref a), some (.ref D), some (.int z), v, none]) ⟨rfl, _, _, rfl⟩ (fun i σ H' _ ⟨e, _⟩ => by rw [e]; exact SqL.of hcs) ?_ ?_⟩
  · rintro i x σ H' hi ⟨rfl, z, v, rfl⟩
    obtain ⟨n, hn, rfl⟩ := mem_ints hi
    refine ⟨_, rfl, _, _, rfl, rfl, .inr ⟨by decide, by decide⟩, _, rfl, _, _, rfl, rfl, _, _, rfl, rfl, .inl ⟨_, rfl, _, _, rfl, rfl, (by show (0 : Int) < 4294967291; decide), rfl, _, _, rfl⟩⟩
  · rintro σ H' ⟨rfl, z, v, rfl⟩
    -- the dict
    intro dk hdk
    have e02 : Same H (upd H' dk (.dK [])) := e01.trans (same_new hdk _)
    refine ⟨_, rfl, D, rfl, ⟨_, SqL.of (same_new hdk _ _ _ hcs)⟩, fun L hL => ?_⟩
    have hD2 := same_new hdk (.dK []) _ _ hcs
    have e03 : Same H (upd (upd H' dk (.dK [])) L (.lst [])) := e02.trans (same_new hL _)
    refine lc_list (K := K) (a := D) (xs := cs.map V.int) (fun i H2 => Same (upd H' dk (.dK [])) H2 ∧ ∃ gs : List Int, H2 L = some (.lst (gs.map V.int)) ∧ gs.length ≤ i) ?_ ?_ ?_ ?_
    · exact ⟨same_new hL _, [], upd_same, Nat.le_refl _⟩
    · rintro i H2 _ ⟨e, _⟩
      exact SqL.of (e _ _ hD2)
    · rintro i x H2 hi ⟨e, gs, hgs, lgs⟩
      obtain ⟨n, hn, rfl⟩ := mem_ints hi
      have hi2 : i < cs.length := (List.getElem?_eq_some_iff.mp hn).1
      refine ⟨rfl, ?_⟩
      refine ⟨_, rfl, 10, 18, rfl, rfl, ⟨by decide, by decide, by decide⟩, _, _, rfl, rfl, _, rfl, ?_⟩
      refine ite2 (fun _ => ?_) (fun _ => ?_)
      · exact ⟨_, rfl, _, hgs, szlt (by rw [List.length_map]; omega), same_upd e hL _, snoc_ints lgs⟩
      · exact ⟨e, gs, hgs, by omega⟩
    rintro H3 ⟨e3, gs, hgs, lgs⟩
    rw [List.length_map] at lgs
    refine ⟨L, _, rfl, SqL.of hgs, fun G hG => ?_⟩
    have e04 : Same H3 (upd H3 G (.lst (gs.map V.int).reverse)) := same_new hG _
    have hdk0 : H' dk = none := hdk
    refine ⟨_, rfl, e04 _ _ (e3 _ _ upd_same), deckKV G z 0, rfl, (by show 3 ≤ 15; decide), ?_⟩
    have dG : dk ≠ G := ne_of_none (e3 _ _ upd_same) hG
    refine q dk G _ (fun b o e => ?_) ⟨gs.reverse, z, 0, ?_, ?_, ?_⟩
    · have ne : b ≠ dk := ne_of_none (e01 _ _ e) hdk0
      rw [upd_ne ne]
      exact e04 _ _ (e3 _ _ (e02 _ _ e))
    · rw [upd_same, deck_merge]
    · rw [upd_ne dG.symm, upd_same, List.map_reverse]
    · rw [List.length_reverse]
      omega
end
end Rw
namespace Rw
open PySem L2
theorem dget_of {H : Hp} {a : Addr} {kvs : List (Key × V)} {k : Key} {v : V} (h : H a = some (.dK kvs)) (e : valV kvs k = some v) : DGet H a (kV k) (some v) := by
  rw [← e]
  exact DGet.k h
theorem dp_ints {K : PySem.W.Frag} {H : Hp} : ∀ ns : List Int, DpAll K H (ns.map V.int) (ns.map PyData.int)
  | [] => .nil
  | n :: r => .cons (.int n) (dp_ints r)
theorem lay_ints : ∀ ns : List Int, PyData.canLayAll0 (ns.map PyData.int) = true
  | [] => rfl
  | n :: r => by
    rw [List.map_cons]
    simp only [PyData.canLayAll0, PyData.canLay0, lay_ints r, Bool.and_self]
theorem depth_ints : ∀ ns : List Int, PyData.depthAll (ns.map PyData.int) = 0
  | [] => rfl
  | n :: r => by
    rw [List.map_cons]
    simp only [PyData.depthAll, PyData.depth, depth_ints r, Nat.max_self]
theorem shaped_ints (ns : List Int) : SeqAt.shaped (.list (ns.map PyData.int)) = true := by
  show (PyData.canLay0 (.list (ns.map PyData.int)) && decide (PyData.depth (.list (ns.map PyData.int)) ≤ 64)) = true
  rw [Bool.and_eq_true]
  refine ⟨lay_ints ns, decide_eq_true ?_⟩
  simp only [PyData.depth, depth_ints]
  omega
theorem eqv_ints : ∀ ns ms : List Int, PyData.eqv (.list (ns.map PyData.int)) (.list (ms.map PyData.int)) = decide (ns = ms) := by
  have all : ∀ ns ms : List Int, PyData.eqvAll (ns.map PyData.int) (ms.map PyData.int) = decide (ns = ms) := by
    intro ns
    induction ns with
    | nil =>
      intro ms
      cases ms with
      | nil => rfl
      | cons m r => rfl
    | cons n r ih =>
      intro ms
      cases ms with
      | nil => rfl
      | cons m t =>
        rw [List.map_cons, List.map_cons, PyData.eqvAll, ih t, PyData.eqv]
        by_cases e1 : n = m
        · subst e1
          simp
        · simp [e1]
  intro ns ms
  rw [PyData.eqv]
  exact all ns ms
theorem last_ints {g : List Int} (h : g ≠ []) : ∃ c : Int, (g.map V.int)[(g.map V.int).length - 1]? = some (.int c) ∧ (g.map V.int).dropLast = (g.dropLast).map V.int := by
  have hl : g.length - 1 < g.length := by
    have := List.length_pos_iff.mpr h
    omega
  refine ⟨g[g.length - 1], ?_, ?_⟩
  · rw [List.length_map, List.getElem?_map, List.getElem?_eq_getElem hl]
    rfl
  · rw [List.map_dropLast]
section
variable {P : Program} {w : World} {K : PySem.W.Frag} {mg : Str → Option Value} {base : Heap}
theorem scDraw : FnScope ["deck", "many", "cell", "one", "two"] ["deck", "many"] (defScope sDraw) := ⟨rfl, rfl, rfl, by decide +kernel, rfl, by decide +kernel, by decide +kernel⟩
theorem ok_draw {f : Addr} {fd : FuncData} (F : Fun K "_law_draw" "_law_draw" sDraw f fd) (B : Blt mg) : FnOk P w K mg base CX0 1 f fd ["deck", "many"] spDraw := by
  refine F.ok scDraw (fun vs H Q E h => ?_) (fun cdv A outer s H vs Q E hr h => ?_)
  · obtain ⟨_, _, _, rfl, _⟩ := h
    rfl
  obtain ⟨dk, gl, many, rfl, hD, hmany, q⟩ := h
  have nd := scDraw.nd
  have hu := hu_of hr
  have hu64 : (A.deeper (PyProof.Rows.envOfC "_law_draw" (defScope sDraw) s.heap.objs.size f cdv)).units + 64 < cLine := by
    have := hr.un
    omega
  refine ⟨_, pss_cons (ps_if (pt_cmpR op_lt (pv 1) pe_int (nomark _)) (pss_one (ps_ret pe_int)) pss_nil)
    (pss_cons (ps_if (pt_cmpR (op_neD hu64) (pe_dget hu (pv 0) pe_str (fun _ _ => rfl)) (pe_lst pa_nil) (nomark _))
      (pss_cons (ps_set (i := 2) nd rfl (Or.inl rfl) (pe_bm0 PySem.F.plainAttrs_list PySem.F.slot_list_pop PySem.F.type_list_pop mt_pop (pe_dget hu (pv 0) pe_str (fun _ _ => rfl))))
      (pss_cons (ps_if (pt_cmpR op_ge (pv 2) (pv 1) (nomark _)) (pss_one (ps_expr (pe_bm PySem.F.plainAttrs_list PySem.F.slot_list_append PySem.F.type_list_append mt_append (pe_dget hu (pv 0) pe_str (fun _ _ => rfl)) (pa_cons (pe_op op_fdivN (pv 2) (pv 1)) pa_nil)))) pss_nil)
      (pss_one (ps_ret (pe_op op_modN (pe_callTy call_int1 (by rfl) B.int (by decide +kernel) (pa_cons (pv 2) pa_nil)) (pv 1)))))) pss_nil)
    (pss_cons (ps_dput hu (pv 0) pe_str (pe_op op_add (pe_dget hu (pv 0) pe_str (fun _ _ => rfl)) pe_int) rfl)
    (pss_cons (ps_set (i := 3) nd rfl (Or.inl rfl) (pe_op op_mod (pe_callTy call_int1 (by rfl) B.int (by decide +kernel) (pa_cons (pe_op op_add (pe_dget hu (pv 0) pe_str (fun _ _ => rfl)) (pe_op op_mul (pe_dget hu (pv 0) pe_str (fun _ _ => rfl)) pe_int)) pa_nil)) pe_int))
    (pss_cons (ps_set (i := 4) nd rfl (Or.inl rfl) (pe_op op_mod (pe_callTy call_int1 (by rfl) B.int (by decide +kernel) (pa_cons (pe_op op_add (pe_op op_add (pe_op op_mul (pv 3) (pv 3)) (pe_op op_mul (pe_dget hu (pv 0) pe_str (fun _ _ => rfl)) pe_int)) pe_int) pa_nil)) pe_int))
    (pss_one (ps_ret (pe_op op_modN (pe_callTy call_int1 (by rfl) B.int (by decide +kernel) (pa_cons (pe_op op_fdiv (pe_op op_mod (pe_callTy call_int1 (by rfl) B.int (by decide +kernel) (pa_cons (pe_op op_add (pe_op op_mul (pv 4) (pv 4)) (pv 3)) pa_nil)) pe_int) pe_int) pa_nil)) (pv 1)))))))), ?_⟩
  obtain ⟨great, sd, tn, h1, h2, h3⟩ := hD.ex
  have gk : ∀ {H' : Hp}, H' dk = some (.dK (deckKV gl sd tn)) → DGet H' dk (kV (Sum.inr "great")) (some (.ref gl)) := fun e => dget_of e (deck_great _ _ _)
  refine ⟨_, rfl, _, _, rfl, rfl, _, rfl, ?_⟩
  refine ite2 (fun c => ?_) (fun c => ?_)
  · exact q 0 H Ext.refl hD (Int.le_refl 0) (.inr ⟨rfl, of_decide_eq_true c⟩)
  have hm : 2 ≤ many := by
    have c2 := of_decide_eq_false (Bool.eq_false_iff.mpr c)
    omega
  refine ⟨_, rfl, dk, _, rfl, gk h1, Nat.zero_le _, fun l hl => ?_⟩
  have s1 : Same H (upd H l (.lst [])) := same_new hl _
  have hl2 : upd H l (.lst []) l = some (.lst []) := upd_same
  refine ⟨.list (great.map PyData.int), .list (([] : List Int).map PyData.int), .lst (SqL.of (s1 _ _ h2)) (dp_ints great), .lst (SqL.of upd_same) .nil, shaped_ints great, shaped_ints [], _, rfl, ?_⟩
  rw [eqv_ints]
  have f1 := s1 _ _ h1
  have f2 := s1 _ _ h2
  have D1 : DeckAt dk gl (upd H l (.lst [])) := hD.same s1
  have E1 : Ext (avD dk gl) H (upd H l (.lst [])) := Ext.of_same s1
  generalize upd H l (.lst []) = H1 at f1 f2 D1 E1
  refine ite2 (fun c => ?_) (fun c => ?_)
  · have hg : great ≠ [] := by simpa using c
    obtain ⟨cell, hc, hdl⟩ := last_ints hg
    have ng := D1.ne
    refine ⟨_, rfl, dk, _, rfl, gk f1, .inl ⟨rfl, _, SqL.of f2⟩, gl, _, _, rfl, rfl, f2, hc, ?_⟩
    rw [hdl]
    have f3 : upd H1 gl (.lst (great.dropLast.map V.int)) dk = some (.dK (deckKV gl sd tn)) := by
      rw [upd_ne ng]
      exact f1
    have l3 : great.dropLast.length ≤ 62 := by
      rw [List.length_dropLast]
      omega
    have E2 : Ext (avD dk gl) H (upd H1 gl (.lst (great.dropLast.map V.int))) := E1.trans (Ext.put (.inr rfl) _)
    have D2 : DeckAt dk gl (upd H1 gl (.lst (great.dropLast.map V.int))) := ⟨_, _, _, f3, upd_same, by omega⟩
    have f4 : upd H1 gl (.lst (great.dropLast.map V.int)) gl = some (.lst (great.dropLast.map V.int)) := upd_same
    generalize upd H1 gl (.lst (great.dropLast.map V.int)) = H2 at f3 f4 E2 D2
    have fin : ∀ H3, Ext (avD dk gl) H H3 → DeckAt dk gl H3 → Q (.int (cell.fmod many)) H3 := fun H3 e d => by
      have p0 : 0 ≤ cell.fmod many := Int.fmod_nonneg_of_pos cell (by omega)
      have p1 : cell.fmod many < many := Int.fmod_lt_of_pos cell (by omega)
      exact q _ H3 e d p0 (.inl p1)
    refine ⟨_, rfl, _, rfl, _, _, rfl, rfl, _, rfl, ?_⟩
    refine ite2 (fun _ => ?_) (fun _ => ?_)
    · refine ⟨_, rfl, dk, _, rfl, gk f3, .inl ⟨rfl, _, SqL.of f4⟩, _, rfl, _, rfl, _, _, rfl, rfl, ⟨by omega, by omega⟩, gl, _, _, rfl, rfl, f4, szlt (by rw [List.length_map]; omega), ?_⟩
      refine ⟨_, rfl, .inl ⟨_, rfl, _, rfl, _, _, rfl, rfl, by omega, ?_⟩⟩
      refine fin _ (E2.trans (Ext.put (.inr rfl) _)) ⟨great.dropLast ++ [cell.fdiv many], sd, tn, ?_, ?_, ?_⟩
      · rw [upd_ne ng]
        exact f3
      · rw [upd_same, List.map_append]
        rfl
      · rw [List.length_append, List.length_singleton]
        omega
    · exact ⟨_, rfl, .inl ⟨_, rfl, _, rfl, _, _, rfl, rfl, by omega, fin _ E2 D2⟩⟩
  · -- the second way: a mixed number
    have ng := D1.ne
    have gt : ∀ {H' : Hp} {z : Int}, H' dk = some (.dK (deckKV gl sd z)) → DGet H' dk (kV (Sum.inr "turn")) (some (.int z)) := fun e => dget_of e (deck_turn _ _ _)
    have gs : ∀ {H' : Hp} {z : Int}, H' dk = some (.dK (deckKV gl sd z)) → DGet H' dk (kV (Sum.inr "seal")) (some (.int sd)) := fun e => dget_of e (deck_seal _ _ _)
    have put : DPut H1 dk (kV (Sum.inr "turn")) (.int (tn + 1)) (upd H1 dk (.dK (deckKV gl sd (tn + 1)))) := by
      have p := DPut.k (k := Sum.inr "turn") (v := .int (tn + 1)) f1 (by show 3 < sizeLine; decide)
      rw [deck_put] at p
      exact p
    refine ⟨_, rfl, dk, _, rfl, gt f1, _, _, rfl, rfl, _, rfl, dk, _, rfl, put, ?_⟩
    have f3 : upd H1 dk (.dK (deckKV gl sd (tn + 1))) dk = some (.dK (deckKV gl sd (tn + 1))) := upd_same
    have f4 : upd H1 dk (.dK (deckKV gl sd (tn + 1))) gl = some (.lst (great.map V.int)) := by
      rw [upd_ne ng.symm]
      exact f2
    have E2 : Ext (avD dk gl) H (upd H1 dk (.dK (deckKV gl sd (tn + 1)))) := E1.trans (Ext.put (.inl rfl) _)
    generalize upd H1 dk (.dK (deckKV gl sd (tn + 1))) = H2 at f3 f4 E2
    have D2 : DeckAt dk gl H2 := ⟨great, sd, tn + 1, f3, f4, h3⟩
    have b1 : ∀ z : Int, -(2 ^ 64) < z % 4294967291 ∧ z % 4294967291 < 2 ^ 64 := fun z => by
      have k1 := Int.emod_nonneg z (b := 4294967291) (by decide)
      have k2 := Int.emod_lt_of_pos z (b := 4294967291) (by decide)
      omega
    have b2 : ∀ z : Int, -(2 ^ 64) < z % 4294967279 ∧ z % 4294967279 < 2 ^ 64 := fun z => by
      have k1 := Int.emod_nonneg z (b := 4294967279) (by decide)
      have k2 := Int.emod_lt_of_pos z (b := 4294967279) (by decide)
      omega
    refine ⟨_, rfl, dk, _, rfl, gs f3, _, rfl, dk, _, rfl, gt f3, _, _, rfl, rfl, .inr ⟨by decide, by decide⟩, _, _, rfl, rfl, .inl ⟨_, rfl, _, _, rfl, rfl, (by show (0 : Int) < 4294967291; decide), ?_⟩⟩
    refine ⟨_, rfl, _, rfl, _, _, rfl, rfl, .inl (b1 _), _, rfl, dk, _, rfl, gt f3, _, _, rfl, rfl, .inr ⟨by decide, by decide⟩, _, _, rfl, rfl, _, _, rfl, rfl, .inl ⟨_, rfl, _, _, rfl, rfl, (by show (0 : Int) < 4294967279; decide), ?_⟩⟩
    refine ⟨_, rfl, _, rfl, _, _, rfl, rfl, .inl (b2 _), _, rfl, _, _, rfl, rfl, .inl ⟨_, rfl, _, _, rfl, rfl, (by show (0 : Int) < 4294967231; decide), _, _, rfl, rfl, ⟨by decide, by decide⟩, .inl ⟨_, rfl, _, rfl, _, _, rfl, rfl, by omega, ?_⟩⟩⟩
    have p0 : ∀ z : Int, 0 ≤ z.fmod many := fun z => Int.fmod_nonneg_of_pos z (by omega)
    have p1 : ∀ z : Int, z.fmod many < many := fun z => Int.fmod_lt_of_pos z (by omega)
    exact q _ H2 E2 D2 (p0 _) (.inl (p1 _))
end
end Rw
namespace Rw
open PySem L2

/-! ### data that can be shown: short leaves, not too deep, not too heavy -/
structure Nc (k : Nat) (d : PyData) : Prop where
  sh : d.leavesShort 25 = true
  sw : d.showable = true
  dp : d.depth ≤ k
structure NcAll (k : Nat) (ds : List PyData) : Prop where
  sh : PyData.leavesShortAll 25 ds = true
  sw : PyData.showableAll ds = true
  dp : PyData.depthAll ds ≤ k
theorem Nc.up {k j : Nat} {d : PyData} (h : Nc k d) (e : k ≤ j) : Nc j d := ⟨h.sh, h.sw, Nat.le_trans h.dp e⟩
theorem NcAll.up {k j : Nat} {d : List PyData} (h : NcAll k d) (e : k ≤ j) : NcAll j d := ⟨h.sh, h.sw, Nat.le_trans h.dp e⟩
theorem Nc.non {k : Nat} : Nc k .none := ⟨rfl, rfl, Nat.zero_le _⟩
theorem Nc.bl {k : Nat} (b : Bool) : Nc k (.bool b) := ⟨rfl, rfl, Nat.zero_le _⟩
theorem Nc.int {k : Nat} {i : Int} (h : i.natAbs < 10 ^ 20) : Nc k (.int i) := by
  refine ⟨?_, ?_, Nat.zero_le _⟩
  · have e := int_text_length_le10 (k := 20) (by decide) h
    have e2 : (PyData.shown (.int i)).length ≤ 25 := by
      show (Str.ofString (toString i)).length ≤ 25
      rw [ofString_length]
      omega
    simp only [PyData.leavesShort, decide_eq_true e2]
  · have l : i.natAbs.log2 < 1920 := by
      by_cases h0 : i.natAbs = 0
      · rw [h0]
        decide
      · have q : i.natAbs.log2 < 69 := (Nat.log2_lt h0).mpr (Nat.lt_trans h (by decide))
        omega
    simp only [PyData.showable, decide_eq_true l]
theorem Nc.str {k : Nat} {x : Str} (h : (x.cps.toList.all fun c => decide (c < 16 ^ 8)) = true) : Nc k (.str x) := ⟨h, rfl, Nat.zero_le _⟩
theorem NcAll.nil {k : Nat} : NcAll k [] := ⟨rfl, rfl, Nat.zero_le _⟩
theorem NcAll.cons {k : Nat} {d : PyData} {ds : List PyData} (a : Nc k d) (b : NcAll k ds) : NcAll k (d :: ds) := by
  refine ⟨?_, ?_, ?_⟩
  · simp only [PyData.leavesShortAll, a.sh, b.sh, Bool.and_self]
  · simp only [PyData.showableAll, a.sw, b.sw, Bool.and_self]
  · simp only [PyData.depthAll]
    exact Nat.max_le.mpr ⟨a.dp, b.dp⟩
theorem NcAll.parts {k : Nat} {d : PyData} {ds : List PyData} (h : NcAll k (d :: ds)) : Nc k d ∧ NcAll k ds := by
  have h1 : d.leavesShort 25 = true ∧ PyData.leavesShortAll 25 ds = true := by
    have q := h.sh
    simpa only [PyData.leavesShortAll, Bool.and_eq_true] using q
  have h2 : d.showable = true ∧ PyData.showableAll ds = true := by
    have q := h.sw
    simpa only [PyData.showableAll, Bool.and_eq_true] using q
  have h3 : d.depth ≤ k ∧ PyData.depthAll ds ≤ k := by
    have q := h.dp
    simp only [PyData.depthAll] at q
    exact Nat.max_le.mp q
  exact ⟨⟨h1.1, h2.1, h3.1⟩, ⟨h1.2, h2.2, h3.2⟩⟩
theorem NcAll.iff {k : Nat} : ∀ {ds : List PyData}, NcAll k ds ↔ ∀ d ∈ ds, Nc k d
  | [] => ⟨fun _ d h => absurd h (by simp), fun _ => NcAll.nil⟩
  | d :: ds => by
    constructor
    · intro h x hx
      rcases List.mem_cons.mp hx with e | e
      · rw [e]
        exact h.parts.1
      · exact NcAll.iff.mp h.parts.2 x e
    · intro h
      exact .cons (h d List.mem_cons_self) (NcAll.iff.mpr fun x hx => h x (List.mem_cons_of_mem _ hx))
theorem Nc.tup {k : Nat} {ds : List PyData} (h : NcAll k ds) : Nc (k + 1) (.tuple ds) := by
  refine ⟨?_, ?_, ?_⟩
  · simp only [PyData.leavesShort, h.sh]
  · simp only [PyData.showable, h.sw]
  · simp only [PyData.depth]
    have := h.dp
    omega
theorem Nc.lst {k : Nat} {ds : List PyData} (h : NcAll k ds) : Nc (k + 1) (.list ds) := by
  refine ⟨?_, ?_, ?_⟩
  · simp only [PyData.leavesShort, h.sh]
  · simp only [PyData.showable, h.sw]
  · simp only [PyData.depth]
    have := h.dp
    omega
theorem Nc.dct {k : Nat} {x : Str} {d : PyData} (hx : Nc k (.str x)) (h : Nc k d) : Nc (k + 1) (.dict [(.str x, d)]) := by
  refine ⟨?_, ?_, ?_⟩
  · simp only [PyData.leavesShort, PyData.leavesShortKv, h.sh, Bool.and_true]
    exact hx.sh
  · simp only [PyData.showable, PyData.showableKv, h.sw, Bool.and_self]
  · simp only [PyData.depth, PyData.depthKv]
    have := h.dp
    omega
theorem Nc.of_tup {k : Nat} {ds : List PyData} (h : Nc k (.tuple ds)) : NcAll (k - 1) ds ∧ 1 ≤ k := by
  have h1 := h.sh
  have h2 := h.sw
  have h3 := h.dp
  simp only [PyData.leavesShort] at h1
  simp only [PyData.showable] at h2
  simp only [PyData.depth] at h3
  exact ⟨⟨h1, h2, by omega⟩, by omega⟩
theorem NcAll.app {k : Nat} {ds es : List PyData} (a : NcAll k ds) (b : NcAll k es) : NcAll k (ds ++ es) := NcAll.iff.mpr fun d hd => by
  rcases List.mem_append.mp hd with e | e
  · exact NcAll.iff.mp a d e
  · exact NcAll.iff.mp b d e
theorem NcAll.sub {k : Nat} {ds es : List PyData} (a : NcAll k ds) (h : ∀ d ∈ es, d ∈ ds) : NcAll k es := NcAll.iff.mpr fun d hd => NcAll.iff.mp a d (h d hd)
theorem NcAll.set {k : Nat} {ds : List PyData} {d : PyData} (a : NcAll k ds) (b : Nc k d) (i : Nat) : NcAll k (ds.set i d) := NcAll.iff.mpr fun x hx => by
  rcases List.mem_or_eq_of_mem_set hx with e | e
  · exact NcAll.iff.mp a x e
  · rw [e]
    exact b
theorem wA_app : ∀ ds es : List PyData, PyData.weightAll (ds ++ es) = PyData.weightAll ds + PyData.weightAll es
  | [], es => by simp [PyData.weightAll]
  | d :: ds, es => by
    rw [List.cons_append]
    simp only [PyData.weightAll, wA_app ds es]
    omega
theorem wA_mem : ∀ {ds : List PyData} {d : PyData}, d ∈ ds → d.weight + 1 ≤ PyData.weightAll ds
  | e :: ds, d, h => by
    simp only [PyData.weightAll]
    rcases List.mem_cons.mp h with q | q
    · rw [q]
      omega
    · have := wA_mem q
      omega
theorem wA_take (n : Nat) (ds : List PyData) : PyData.weightAll (ds.take n) ≤ PyData.weightAll ds := by
  have h := wA_app (ds.take n) (ds.drop n)
  rw [List.take_append_drop] at h
  omega
theorem wA_drop (n : Nat) (ds : List PyData) : PyData.weightAll (ds.drop n) ≤ PyData.weightAll ds := by
  have h := wA_app (ds.take n) (ds.drop n)
  rw [List.take_append_drop] at h
  omega
theorem wA_set : ∀ (ds : List PyData) (i : Nat) (d : PyData), PyData.weightAll (ds.set i d) ≤ PyData.weightAll ds + d.weight + 1
  | [], _, _ => by simp [PyData.weightAll]
  | e :: ds, 0, d => by
    rw [List.set_cons_zero]
    simp only [PyData.weightAll]
    omega
  | e :: ds, i + 1, d => by
    rw [List.set_cons_succ]
    simp only [PyData.weightAll]
    have := wA_set ds i d
    omega
theorem wA_len : ∀ ds : List PyData, ds.length ≤ PyData.weightAll ds
  | [] => Nat.zero_le _
  | d :: ds => by
    simp only [PyData.weightAll, List.length_cons]
    have := wA_len ds
    omega
theorem w_int {i : Int} (h : i.natAbs < 10 ^ 20) : (PyData.int i).weight ≤ 70 := by
  simp only [PyData.weight]
  split
  · omega
  · rename_i h0
    have n0 : i.natAbs ≠ 0 := by
      intro e
      apply h0
      simp [Int.natAbs_eq_zero.mp e]
    have : i.natAbs.log2 < 69 := (Nat.log2_lt n0).mpr (Nat.lt_trans h (by decide))
    omega
theorem Nc.fits {k : Nat} {d : PyData} (h : Nc k d) (w : d.weight ≤ 500000) : d.shown.length ≤ sizeLine := by
  have e := PyData.shown_le 25 (by decide) d h.sh
  rw [sizeLine_eq]
  omega
end Rw
namespace Rw
open PySem L2
/-! ### a def of the text, by its name -/
structure Def (K : PySem.W.Frag) (mg : Str → Option Value) (x : Str) (st : Stmt) (ps : List Str) : Prop where
  ex : ∃ (f : Addr) (fd : FuncData), Fun K x x st f fd ∧ mg x = some (.ref f) ∧ Binds K fd ps []
structure Dfn (P : Program) (w : World) (K : PySem.W.Frag) (mg : Str → Option Value) (base : Heap) (x : Str) (ps : List Str) (k : Nat) (sp : Sp) : Prop where
  ex : ∃ (f : Addr) (fd : FuncData), FnOk P w K mg base CX0 k f fd ps sp ∧ mg x = some (.ref f) ∧ PySem.W.keepIn K (.ref f) = true ∧ Binds K fd ps []
theorem Def.ok {P : Program} {w : World} {K : PySem.W.Frag} {mg : Str → Option Value} {base : Heap} {x : Str} {st : Stmt} {ps : List Str} {k : Nat} {sp : Sp} (D : Def K mg x st ps)
    (h : ∀ (f : Addr) (fd : FuncData), Fun K x x st f fd → FnOk P w K mg base CX0 k f fd ps sp) : Dfn P w K mg base x ps k sp := by
  obtain ⟨f, fd, F, m, b⟩ := D.ex
  exact ⟨f, fd, h f fd F, m, F.kp, b⟩
theorem Dfn.mono {P : Program} {w : World} {K : PySem.W.Frag} {mg : Str → Option Value} {base : Heap} {x : Str} {ps : List Str} {j k : Nat} {sp : Sp} (D : Dfn P w K mg base x ps j sp) (h : j ≤ k) : Dfn P w K mg base x ps k sp := by
  obtain ⟨f, fd, F, m, c, b⟩ := D.ex
  exact ⟨f, fd, F.mono h, m, c, b⟩
section
variable {X : Cx} {k : Nat} {x : Str} {ps : List Str} {sp : Sp} {e : Expr} {es : List Expr} {t : TA} {p pos : Pos}
theorem pe_own (D : Dfn X.prog X.w X.K X.mg X.base x ps k sp) (hr : Room k X.A) (ha : PA X (e :: es) t) (hg : Gl X x := by rfl) (hdb : (x == ("__debug__" : Str)) = false := by decide)
    (he : starEach (e :: es) X.env = (false, eval e X.env) :: starEach es X.env := by rfl) (hpl : (backTo pos (starEach es X.env)).any (·.1) = false := by rfl) : PE X (.Call (.Name x p) (e :: es) [] pos) (tCall sp [] E0 t) := by
  obtain ⟨f, fd, F, m, c, b⟩ := D.ex
  exact pe_call F hr hg m c b .nil pass0 ha hdb he hpl
end

theorem bt_int : bootBuiltins ("int" : Str) = some (.type "int") := by decide +kernel
theorem bt_bool : bootBuiltins ("bool" : Str) = some (.type "bool") := by decide +kernel
theorem bt_str : bootBuiltins ("str" : Str) = some (.type "str") := by decide +kernel
theorem bt_tuple : bootBuiltins ("tuple" : Str) = some (.type "tuple") := by decide +kernel
theorem bt_list : bootBuiltins ("list" : Str) = some (.type "list") := by decide +kernel
theorem bt_isi : bootBuiltins ("isinstance" : Str) = some (.builtin "isinstance") := by decide +kernel
theorem bt_repr : bootBuiltins ("repr" : Str) = some (.builtin "repr") := by decide +kernel
section
variable {X : Cx} {x : Str} {pos p1 p2 : Pos} {n : String} {e : Expr} {te : TE}
theorem pe_ty (hm : X.mg x = none) (hv : bootBuiltins x = some (.type n)) (hg : Gl X x := by rfl) (hn : x ≠ "__name__" := by decide) (hd : (x == ("__debug__" : Str)) = false := by decide) : PE X (.Name x pos) (tC (.ty n)) := pe_bltn hg hm hv (show RelV (.ty n) (.type n) from rfl) hn hd
/-- isinstance(e, T) -/
theorem pe_isi (hn : n ∈ ["tuple", "int", "bool", "str", "list"]) (he : PE X e te) (hi : X.mg ("isinstance" : Str) = none) (hm : X.mg x = none) (hv : bootBuiltins x = some (.type n)) (hg : Gl X ("isinstance" : Str) := by rfl) (hg2 : Gl X x := by rfl) (hn2 : x ≠ "__name__" := by decide) (hd2 : (x == ("__debug__" : Str)) = false := by decide)
    (hs : starEach [e, .Name x p2] X.env = (false, eval e X.env) :: starEach [.Name x p2] X.env := by rfl) (hp : (backTo pos (starEach [.Name x p2] X.env)).any (·.1) = false := by rfl) : PE X (.Call (.Name ("isinstance" : Str) p1) [e, .Name x p2] [] pos) (tCB (rIsD X.K n) (tCons te (tCons (tC (.ty n)) tNil))) :=
  pe_callB (call_isD hn) hg hi bt_isi (pa_cons he (pa_cons (pe_ty hm hv hg2 hn2 hd2) pa_nil) hs) (by decide) (by decide) hs hp
end

/-! ### small things about values -/
def isIntB : PyData → Bool
  | .int _ => true
  | _ => false
def wholeB (l m : Int) : PyData → Bool
  | .int i => decide (l ≤ i) && decide (i ≤ m)
  | _ => false
theorem isT_int (d : PyData) : (isT "int" d && !isT "bool" d) = isIntB d := by
  cases d <;> (simp only [isT, clsOf, isIntB]; decide)
theorem int_of {d : PyData} (h : isIntB d = true) : ∃ i, d = .int i := by
  cases d <;> first | exact ⟨_, rfl⟩ | cases h
theorem isT_tup {d : PyData} : isT "tuple" d = true ↔ ∃ ds, d = .tuple ds := by
  cases d with
  | tuple ds => exact ⟨fun _ => ⟨ds, rfl⟩, fun _ => (by decide : isC "tuple" "tuple" = true)⟩
  | none => exact ⟨fun h => absurd h (by decide), fun ⟨_, e⟩ => by cases e⟩
  | bool b => exact ⟨fun h => absurd (show isC "tuple" "bool" = true from h) (by decide), fun ⟨_, e⟩ => by cases e⟩
  | int i => exact ⟨fun h => absurd (show isC "tuple" "int" = true from h) (by decide), fun ⟨_, e⟩ => by cases e⟩
  | str x => exact ⟨fun h => absurd (show isC "tuple" "str" = true from h) (by decide), fun ⟨_, e⟩ => by cases e⟩
  | list l => exact ⟨fun h => absurd (show isC "tuple" "list" = true from h) (by decide), fun ⟨_, e⟩ => by cases e⟩
  | dict l => exact ⟨fun h => absurd (show isC "tuple" "dict" = true from h) (by decide), fun ⟨_, e⟩ => by cases e⟩
theorem Rp.get_int {av : Addr → Prop} {H : Hp} {v : V} {i : Int} (h : Rp av H v (.int i)) : v = .int i := by
  cases h
  rfl
theorem Rp.get_str {av : Addr → Prop} {H : Hp} {v : V} {i : Str} (h : Rp av H v (.str i)) : v = .str i := by
  cases h
  rfl
theorem Rp.get_bl {av : Addr → Prop} {H : Hp} {v : V} {i : Bool} (h : Rp av H v (.bool i)) : v = .bl i := by
  cases h
  rfl
theorem Rp.get_non {av : Addr → Prop} {H : Hp} {v : V} (h : Rp av H v .none) : v = .non := by
  cases h
  rfl
theorem Rp.get_tup {av : Addr → Prop} {H : Hp} {v : V} {ds : List PyData} (h : Rp av H v (.tuple ds)) : ∃ a xs, v = .ref a ∧ ¬ av a ∧ H a = some (.tup xs) ∧ RpAll av H xs ds := by
  cases h with
  | tup n h r => exact ⟨_, _, rfl, n, h, r⟩

def spInteger : Sp := fun vs H Q _ => ∃ (av : Addr → Prop) (v : V) (d : PyData), vs = [v] ∧ Rp av H v d ∧ Q (.bl (isIntB d)) H
def spBelow : Sp := fun vs H Q _ => ∃ (av : Addr → Prop) (v : V) (d : PyData) (m : Int), vs = [v, .int m] ∧ Rp av H v d ∧ Q (.bl (wholeB 0 (m - 1) d)) H
def spWhole : Sp := fun vs H Q _ => ∃ (av : Addr → Prop) (v : V) (d : PyData) (l m : Int), vs = [v, .int l, .int m] ∧ Rp av H v d ∧ Q (.bl (wholeB l m d)) H
def tupOf (n : Int) : PyData → Bool
  | .tuple ds => decide ((ds.length : Int) = n)
  | _ => false
def spTupleOf : Sp := fun vs H Q _ => ∃ (av : Addr → Prop) (v : V) (d : PyData) (n : Int), vs = [v, .int n] ∧ Rp av H v d ∧ Q (.bl (tupOf n d)) H
end Rw
namespace Rw
open PySem L2
theorem iteY {c A B : Prop} [Decidable c] (hc : c) (h : A) : if c then A else B := by
  rw [if_pos hc]
  exact h
theorem iteZ {c A B : Prop} [Decidable c] (hc : ¬ c) (h : B) : if c then A else B := by
  rw [if_neg hc]
  exact h
/-- a value of the data d, new or old -/
def Gives (d : PyData) (H : Hp) (Q : VK) : Prop := ∀ (v : V) (H' : Hp), Same H H' → Rp (fun b => ∃ o, H b = some o) H' v d → Q v H'
theorem inV_ints (r : Int) : ∀ rs : List Int, inV (.int r) (rs.map V.int) = decide (r ∈ rs)
  | [] => rfl
  | a :: rs => by
    have ih := inV_ints r rs
    unfold inV at ih ⊢
    rw [List.map_cons, List.any_cons, ih]
    show ((a == r) || decide (r ∈ rs)) = decide (r ∈ a :: rs)
    by_cases e : a = r
    · subst e
      simp
    · have e2 : ¬ r = a := fun z => e z.symm
      have e3 : (a == r) = false := beq_eq_false_iff_ne.mpr e
      rw [e3, Bool.false_or]
      by_cases h : r ∈ rs
      · rw [decide_eq_true h, decide_eq_true (List.mem_cons_of_mem _ h)]
      · rw [decide_eq_false h, decide_eq_false]
        intro z
        rcases List.mem_cons.mp z with y | y
        · exact e2 y
        · exact h y
theorem flat_ints : ∀ rs : List Int, (rs.map V.int).all flatV = true
  | [] => rfl
  | a :: rs => by
    rw [List.map_cons, List.all_cons, flat_ints rs]
    rfl
theorem Rp.weak {av av' : Addr → Prop} {H : Hp} (e : ∀ b, av' b → av b) {v : V} {d : PyData} (h : Rp av H v d) : Rp av' H v d := by
  induction h using Rp.rec (motive_2 := fun vs ds _ => RpAll av' H vs ds) with
  | non => exact .non
  | bl b => exact .bl b
  | int i => exact .int i
  | str x => exact .str x
  | lst n h _ r => exact .lst (fun z => n (e _ z)) h r
  | tup n h _ r => exact .tup (fun z => n (e _ z)) h r
  | dct n h _ r => exact .dct (fun z => n (e _ z)) h r
  | nil => exact .nil
  | cons _ _ a b => exact .cons a b
theorem Gives.ext {d : PyData} {H H' : Hp} {Q : VK} (g : Gives d H Q) (s : Same H H') : Gives d H' Q := fun v H2 s2 r => g v H2 (s.trans s2) (r.weak fun b ⟨o, h⟩ => ⟨o, s _ _ h⟩)
theorem Gives.pair {x : Str} {i : Int} {H H3 : Hp} {Q : VK} (g : Gives (.tuple [.str x, .int i]) H Q) (s : Same H H3) {p : Addr} (hp : H3 p = none) : Q (.ref p) (upd H3 p (.tup [.str x, .int i])) := by
  refine g _ _ (s.trans (same_new hp _)) (.tup ?_ upd_same (.cons (.str _) (.cons (.int _) .nil)))
  rintro ⟨o, ho⟩
  rw [s _ _ ho] at hp
  cases hp
end Rw
namespace Rw
open PySem L2
abbrev sSame : Stmt := top 8
def spPick : Sp := fun vs H Q _ => ∃ (dk gl l : Addr) (xs : List V), vs = [.ref dk, .ref l] ∧ DeckAt dk gl H ∧ H l = some (.lst xs) ∧ ¬ avD dk gl l ∧ 0 < xs.length ∧ xs.length < 1000 ∧ ∀ (v : V) (H' : Hp), v ∈ xs → Ext (avD dk gl) H H' → DeckAt dk gl H' → Q v H'
mutual
def plainT : PyData → Bool
  | .list _ => false
  | .dict _ => false
  | .tuple ds => plainAll ds
  | .none => true
  | .bool _ => true
  | .int _ => true
  | .str _ => true
def plainAll : List PyData → Bool
  | [] => true
  | d :: ds => plainT d && plainAll ds
end
theorem plain_mem : ∀ {ds : List PyData} {d : PyData}, plainAll ds = true → d ∈ ds → plainT d = true
  | e :: ds, d, h, hd => by
    have h' : plainT e = true ∧ plainAll ds = true := by simpa only [plainAll, Bool.and_eq_true] using h
    rcases List.mem_cons.mp hd with q | q
    · rw [q]
      exact h'.1
    · exact plain_mem h'.2 q
theorem depth_mem : ∀ {ds : List PyData} {d : PyData}, d ∈ ds → d.depth ≤ PyData.depthAll ds
  | e :: ds, d, hd => by
    simp only [PyData.depthAll]
    rcases List.mem_cons.mp hd with q | q
    · rw [q]
      exact Nat.le_max_left _ _
    · exact Nat.le_trans (depth_mem q) (Nat.le_max_right _ _)
def spSame (n : Nat) : Sp := fun vs H Q _ => ∃ (av av' : Addr → Prop) (x y : V) (d : PyData), vs = [x, y] ∧ Rp av H x d ∧ Rp av' H y d ∧ plainT d = true ∧ d.depth < n ∧ ∀ H', Same H H' → Q (.bl true) H'
section
variable {P : Program} {w : World} {K : PySem.W.Frag} {mg : Str → Option Value} {base : Heap} {f : Addr} {fd : FuncData}
theorem scPick : FnScope ["deck", "items"] ["deck", "items"] (defScope sPick) := ⟨rfl, rfl, rfl, by decide +kernel, rfl, by decide +kernel, by decide +kernel⟩
theorem ok_pick (F : Fun K "_law_pick" "_law_pick" sPick f fd) (B : Blt mg) (DD : Dfn P w K mg base "_law_draw" ["deck", "many"] 1 spDraw) : FnOk P w K mg base CX0 2 f fd ["deck", "items"] spPick := by
  refine F.ok scPick (fun vs H Q E h => ?_) (fun cdv A outer s H vs Q E hr h => ?_)
  · obtain ⟨_, _, _, _, rfl, _⟩ := h
    rfl
  obtain ⟨dk, gl, l, xs, rfl, hD, hl, nl, h0, h1, q⟩ := h
  refine ⟨_, pss_one (ps_ret (pe_ix ix_list (pv 1) (pe_own DD hr (pa_cons (pv 0) (pa_cons (pe_callB call_len_seq (by rfl) B.len PySem.boot_len (pa_cons (pv 1) pa_nil)) pa_nil))) (fun _ _ => rfl))), ?_⟩
  refine ⟨_, rfl, _, rfl, _, rfl, l, xs, rfl, .inl (SqL.of hl), dk, gl, _, rfl, hD, by omega, fun r H' e d r0 r1 => ?_⟩
  have rl : r < (xs.length : Int) := by
    rcases r1 with z | z
    · exact z
    · omega
  have rn : r.toNat < xs.length := by omega
  exact ⟨l, xs, r, xs[r.toNat], rfl, rfl, SqL.of (e _ _ nl hl), at_of (j := r.toNat) (by omega) (List.getElem?_eq_getElem rn), q _ _ (List.getElem_mem rn) e d⟩
theorem scSame : FnScope ["found", "due", "spot", "own"] ["found", "due"] (defScope sSame) := ⟨rfl, rfl, rfl, by decide +kernel, rfl, by decide +kernel, by decide +kernel⟩
theorem ok_same {n : Nat} (F : Fun K "_law_same" "_law_same" sSame f fd) (B : Blt mg) (DS : Dfn P w K mg base "_law_same" ["found", "due"] n (spSame n)) : FnOk P w K mg base CX0 (n + 1) f fd ["found", "due"] (spSame (n + 1)) := by
  refine F.ok scSame (fun vs H Q E h => ?_) (fun cdv A outer s H vs Q E hr h => ?_)
  · obtain ⟨_, _, _, _, _, rfl, _⟩ := h
    rfl
  obtain ⟨av, av', x, y, d, rfl, hx, hy, hp, hdp, q⟩ := h
  have nd := scSame.nd
  refine ⟨_, pss_cons (ps_if (pt_val (pe_isi (n := "tuple") (by simp) (pv 1) B.isi B.tup bt_tuple))
      (pss_cons (ps_if (PW.pt (pw_or (pt_not (pt_val (pe_isi (n := "tuple") (by simp) (pv 0) B.isi B.tup bt_tuple))) (pw_or1 (pt_cmpR op_ne (pe_callB call_len_seq (by rfl) B.len PySem.boot_len (pa_cons (pv 0) pa_nil)) (pe_callB call_len_seq (by rfl) B.len PySem.boot_len (pa_cons (pv 1) pa_nil)) (nomark _))))) (pss_one (ps_ret pe_bl)) pss_nil)
      (pss_cons (ps_for PassesOwn.never rfl (pi_enumT (by rfl) B.enu (pa_cons (pv 1) pa_nil)) (pg_tup rfl (pgs_cons (pg_name (i := 2) nd rfl (Or.inl rfl)) (pgs_cons (pg_name (i := 3) nd rfl (Or.inl rfl)) pgs_nil)))
        (pss_one (ps_if (pt_not (pt_val (pe_own DS hr (pa_cons (pe_ix ix_tup (pv 0) (pv 2) (fun _ _ => rfl)) (pa_cons (pv 3) pa_nil))))) (pss_one (ps_ret pe_bl)) pss_nil)))
      (pss_one (ps_ret pe_bl)))) pss_nil)
    (pss_cons (ps_if (pt_cmpR op_isN (pv 1) pe_non (nomark _)) (pss_one (ps_ret (pe_cmpR op_isN (pv 0) pe_non (nomark _)))) pss_nil)
    (pss_cons (ps_if (pt_val (pe_isi (n := "bool") (by simp) (pv 1) B.isi B.bool bt_bool)) (pss_one (ps_ret (pe_ifExp (pt_val (pv 1)) (pe_cmpR op_isBl (pv 0) pe_bl (nomark _)) (pe_cmpR op_isBl (pv 0) pe_bl (nomark _))))) pss_nil)
    (pss_cons (ps_if (pt_val (pe_isi (n := "int") (by simp) (pv 1) B.isi B.int bt_int)) (pss_one (ps_ret (pe_and (pe_isi (n := "int") (by simp) (pv 0) B.isi B.int bt_int) (pe_and (pe_not (pe_isi (n := "bool") (by simp) (pv 0) B.isi B.bool bt_bool)) (pe_one (pe_cmpR op_eq (pv 0) (pv 1) (nomark _))))))) pss_nil)
    (pss_one (ps_ret (pe_and (pe_isi (n := "str") (by simp) (pv 0) B.isi B.str bt_str) (pe_one (pe_cmpR op_eq (pv 0) (pv 1) (nomark _))))))))), ?_⟩
  have true_ : Q (.bl true) H := q _ (Same.refl _)
  refine ⟨_, rfl, av', y, d, rfl, hy, _, rfl, ?_⟩
  cases d with
  | tuple ds =>
    refine iteY (by show isC "tuple" "tuple" = true; decide) ?_
    obtain ⟨a, xs, rfl, _, ha, hxs⟩ := hx.get_tup
    obtain ⟨b, ys, rfl, _, hb, hys⟩ := hy.get_tup
    have l1 := hxs.len
    have l2 := hys.len
    have hp2 : plainAll ds = true := by simpa only [plainT] using hp
    have hd2 : PyData.depthAll ds < n := by
      simp only [PyData.depth] at hdp
      omega
    refine ⟨_, rfl, av, _, .tuple ds, rfl, hx, _, rfl, ?_⟩
    refine iteZ (by show ¬ (!isC "tuple" "tuple") = true; decide) ?_
    refine ⟨_, rfl, a, xs, rfl, .inr (SqT.of ha), _, rfl, b, ys, rfl, .inr (SqT.of hb), rfl, _, rfl, ?_⟩
    refine iteZ (by simp [l1, l2]) ?_
    refine ⟨_, rfl, b, ys, rfl, SqT.of hb, for_it (walk_enumT (K := K) (a := b) (xs := ys)) (fun i σ H' => ∃ (v2 v3 : Option V), σ = [some (.ref a), some (.ref b), v2, v3] ∧ Same H H') ⟨none, none, rfl, Same.refl _⟩ ?_ ?_ ?_⟩
    · rintro i σ H' _ ⟨_, _, _, s1⟩
      exact SqT.of (s1 _ _ hb)
    · rintro i x σ H1 H2 hi ⟨v2, v3, rfl, s1⟩ ⟨T, x1, y, rfl, hT, rfl, e1, hy1⟩
      cases (Option.some.inj e1)
      obtain ⟨d, hdi, hry⟩ := hys.at hy1
      have hix : i < xs.length := by
        have := (List.getElem?_eq_some_iff.mp hdi).1
        omega
      have hx1 : xs[i]? = some xs[i] := List.getElem?_eq_getElem hix
      obtain ⟨d2, hdi2, hrx⟩ := hxs.at hx1
      have ed : d2 = d := Option.some.inj (hdi2.symm.trans hdi)
      subst ed
      have hmem : d2 ∈ ds := List.mem_of_getElem? hdi
      have s2 : Same H (upd H1 T (.tup [.int (i : Nat), y])) := s1.trans (same_new hT _)
      refine ⟨T, _, rfl, SqT.of upd_same, rfl, _, _, rfl, _, _, rfl, rfl, ?_⟩
      generalize upd H1 T (.tup [.int (i : Nat), y]) = H3 at s2
      refine ⟨_, rfl, _, rfl, a, _, _, _, rfl, rfl, SqT.of (s2 _ _ ha), atI_nat hx1, _, rfl, av, av', _, y, d2, rfl, hrx.mono (Ext.of_same s2), hry.mono (Ext.of_same s2), plain_mem hp2 hmem, Nat.lt_of_le_of_lt (depth_mem hmem) hd2, fun H4 s3 => ⟨_, rfl, ?_⟩⟩
      refine iteF (A := True) ?_
      exact ⟨_, _, rfl, s2.trans s3⟩
    · rintro σ H' ⟨_, _, rfl, s1⟩
      exact q _ s1
  | none =>
    cases hx.get_non
    cases hy.get_non
    refine iteZ (by decide) ?_
    refine ⟨_, rfl, rfl, _, rfl, ?_⟩
    refine iteY (by decide) ?_
    exact ⟨_, rfl, rfl, true_⟩
  | bool b =>
    cases hx.get_bl
    cases hy.get_bl
    refine iteZ (by show ¬ isC "tuple" "bool" = true; decide) ?_
    refine ⟨_, rfl, rfl, _, rfl, ?_⟩
    refine iteZ (by simp) ?_
    refine ⟨_, rfl, av', _, _, rfl, hy, _, rfl, ?_⟩
    refine iteY (by show isC "bool" "bool" = true; decide) ?_
    refine ⟨_, rfl, _, rfl, ?_⟩
    cases b with
    | true =>
      refine iteY rfl ?_
      exact ⟨_, rfl, _, _, rfl, rfl, true_⟩
    | false =>
      refine iteZ (by decide) ?_
      exact ⟨_, rfl, _, _, rfl, rfl, true_⟩
  | int i =>
    cases hx.get_int
    cases hy.get_int
    refine iteZ (by show ¬ isC "tuple" "int" = true; decide) ?_
    refine ⟨_, rfl, rfl, _, rfl, ?_⟩
    refine iteZ (by simp) ?_
    refine ⟨_, rfl, av', _, _, rfl, hy, _, rfl, ?_⟩
    refine iteZ (by show ¬ isC "bool" "int" = true; decide) ?_
    refine ⟨_, rfl, av', _, _, rfl, hy, _, rfl, ?_⟩
    refine iteY (by show isC "int" "int" = true; decide) ?_
    refine ⟨_, rfl, av, _, _, rfl, hx, _, rfl, ?_⟩
    refine iteY (by show isC "int" "int" = true; decide) ?_
    refine ⟨_, rfl, av, _, _, rfl, hx, _, rfl, _, rfl, ?_⟩
    refine iteY (by show (!isC "bool" "int") = true; decide) ?_
    refine ⟨_, rfl, _, rfl, rfl, ?_⟩
    have e : decide (V.int i = V.int i) = true := decide_eq_true rfl
    show Q (.bl (decide (V.int i = V.int i))) H
    rw [e]
    exact true_
  | str z =>
    cases hx.get_str
    cases hy.get_str
    refine iteZ (by show ¬ isC "tuple" "str" = true; decide) ?_
    refine ⟨_, rfl, rfl, _, rfl, ?_⟩
    refine iteZ (by simp) ?_
    refine ⟨_, rfl, av', _, _, rfl, hy, _, rfl, ?_⟩
    refine iteZ (by show ¬ isC "bool" "str" = true; decide) ?_
    refine ⟨_, rfl, av', _, _, rfl, hy, _, rfl, ?_⟩
    refine iteZ (by show ¬ isC "int" "str" = true; decide) ?_
    refine ⟨_, rfl, av, _, _, rfl, hx, _, rfl, ?_⟩
    refine iteY (by show isC "str" "str" = true; decide) ?_
    refine ⟨_, rfl, _, rfl, rfl, ?_⟩
    have e : decide (V.str z = V.str z) = true := decide_eq_true rfl
    show Q (.bl (decide (V.str z = V.str z))) H
    rw [e]
    exact true_
  | list l => cases hp
  | dict l => cases hp
theorem none_ok {ps : List Str} {sp : Sp} (no : ∀ vs H Q E, ¬ sp vs H Q E) : FnOk P w K mg base CX0 0 f fd ps sp :=
  ⟨fun vs H Q E h => absurd h (no vs H Q E), fun A outer s H args us vs Q E _ _ _ _ h => absurd h (no vs H Q E)⟩
theorem same_all (D : Def K mg "_law_same" sSame ["found", "due"]) (B : Blt mg) : ∀ n : Nat, Dfn P w K mg base "_law_same" ["found", "due"] n (spSame n)
  | 0 => by
    obtain ⟨f, fd, F, m, b⟩ := D.ex
    refine ⟨f, fd, none_ok fun vs H Q E h => ?_, m, F.kp, b⟩
    obtain ⟨_, _, _, _, _, _, _, _, _, h0, _⟩ := h
    omega
  | n + 1 => D.ok fun f fd F => ok_same F B (same_all D B n)
end
end Rw
namespace Rw
open PySem L2
def wAny : Nat → Nat
  | 0 => 70
  | k + 1 => 3 * (wAny k + 1) + 10
theorem wAny_mono : ∀ k, 70 ≤ wAny k
  | 0 => Nat.le_refl _
  | k + 1 => by
    have := wAny_mono k
    show 70 ≤ 3 * (wAny k + 1) + 10
    omega
theorem RpAll.weak2 {av av' : Addr → Prop} {H : Hp} (e : ∀ b, av' b → av b) : ∀ {vs : List V} {ds : List PyData}, RpAll av H vs ds → RpAll av' H vs ds
  | _, _, .nil => .nil
  | _, _, .cons a b => .cons (a.weak e) (RpAll.weak2 e b)
/-- something stands there -/
def dom (H : Hp) : Addr → Prop := fun b => ∃ o, H b = some o
theorem dom_ext {dk gl : Addr} {H H1 : Hp} (e : Ext (avD dk gl) H H1) (D : DeckAt dk gl H1) {b : Addr} (h : dom H b) : dom H1 b := by
  obtain ⟨g, s, t, h1, h2, _⟩ := D.ex
  obtain ⟨o, h⟩ := h
  by_cases c : avD dk gl b
  · rcases c with z | z
    · exact ⟨_, z ▸ h1⟩
    · exact ⟨_, z ▸ h2⟩
  · exact ⟨o, e _ _ c h⟩
theorem dom_deck {dk gl : Addr} {H : Hp} (D : DeckAt dk gl H) {b : Addr} (h : avD dk gl b) : dom H b := by
  obtain ⟨g, s, t, h1, h2, _⟩ := D.ex
  rcases h with z | z
  · exact ⟨_, z ▸ h1⟩
  · exact ⟨_, z ▸ h2⟩
theorem not_dom {H : Hp} {p : Addr} (h : H p = none) : ¬ dom H p := fun ⟨o, e⟩ => by
  rw [h] at e
  cases e
theorem ext_upd {av : Addr → Prop} {H0 H : Hp} {L : Addr} (e : Ext av H0 H) (h : H0 L = none) (o : HO) : Ext av H0 (upd H L o) := fun b u n q => by
  rw [upd_ne (ne_of_none q h)]
  exact e b u n q
theorem DeckAt.put {dk gl : Addr} {H : Hp} (D : DeckAt dk gl H) {L : Addr} (n : ¬ avD dk gl L) (o : HO) : DeckAt dk gl (upd H L o) := by
  obtain ⟨g, s, t, h1, h2, h3⟩ := D.ex
  refine ⟨g, s, t, ?_, ?_, h3⟩
  · rw [upd_ne fun e => n (.inl e.symm)]
    exact h1
  · rw [upd_ne fun e => n (.inr e.symm)]
    exact h2
/-- some new value is given: data that can be shown, of depth k and weight n at most -/
def GivesNew (dk gl : Addr) (k n : Nat) (H : Hp) (Q : VK) : Prop := ∀ (v : V) (d : PyData) (H' : Hp), Ext (avD dk gl) H H' → DeckAt dk gl H' → Rp (dom H) H' v d → Nc k d → d.weight ≤ n → Q v H'
theorem GivesNew.ext {dk gl : Addr} {k n : Nat} {H H1 : Hp} {Q : VK} (g : GivesNew dk gl k n H Q) (e : Ext (avD dk gl) H H1) (D : DeckAt dk gl H1) : GivesNew dk gl k n H1 Q := fun v d H' e2 hD r c w => g v d H' (e.trans e2) hD (r.weak fun _ h => dom_ext e D h) c w
theorem GivesNew.less {dk gl : Addr} {k n k' n' : Nat} {H : Hp} {Q : VK} (g : GivesNew dk gl k n H Q) (hk : k' ≤ k) (hn : n' ≤ n) : GivesNew dk gl k' n' H Q := fun v d H' e2 hD r c w => g v d H' e2 hD r (c.up hk) (Nat.le_trans w hn)
def spAny (n : Nat) : Sp := fun vs H Q _ => ∃ (dk gl : Addr) (deep : Int), vs = [.ref dk, .int deep] ∧ DeckAt dk gl H ∧ 0 ≤ deep ∧ deep < (n : Int) ∧ GivesNew dk gl (2 * deep.toNat) (wAny deep.toNat) H Q
def nsAny : List Int := [-1, 0, 1, 2, 4, 5, 6, 23, 24, 1000000000000000007]
def zsAny : List Str := ["in", "out", "", "-", "stand", "bow", "even", "rest", "go", "plain", "way +0 -0"]
theorem nsAny_ok : ∀ i ∈ nsAny, i.natAbs < 10 ^ 20 := by decide +kernel
def zOk (z : Str) : Bool := (z.cps.toList.all fun c => decide (c < 16 ^ 8)) && decide (z.cps.size ≤ 70)
theorem zsAny_ok : ∀ z ∈ zsAny, zOk z = true := by decide +kernel
theorem Nc.ofZ {k : Nat} {z : Str} (h : zOk z = true) : Nc k (.str z) ∧ (PyData.str z).weight ≤ 70 := by
  have h' : (z.cps.toList.all fun c => decide (c < 16 ^ 8)) = true ∧ z.cps.size ≤ 70 := by
    have q : ((z.cps.toList.all fun c => decide (c < 16 ^ 8)) && decide (z.cps.size ≤ 70)) = true := h
    simpa only [Bool.and_eq_true, decide_eq_true_eq] using q
  refine ⟨.str h'.1, ?_⟩
  simp only [PyData.weight]
  exact h'.2
theorem mem_strs {zs : List Str} {v : V} (h : v ∈ zs.map V.str) : ∃ z ∈ zs, v = .str z := by
  obtain ⟨z, hz, e⟩ := List.mem_map.mp h
  exact ⟨z, hz, e.symm⟩
theorem mem_intsV {zs : List Int} {v : V} (h : v ∈ zs.map V.int) : ∃ z ∈ zs, v = .int z := by
  obtain ⟨z, hz, e⟩ := List.mem_map.mp h
  exact ⟨z, hz, e.symm⟩
end Rw
section
namespace Rw
open PySem L2
abbrev sWay : Stmt := top 9
abbrev sLong : Stmt := top 10
def stepD (p : Bool × Int) : PyData := .tuple [.str (if p.1 then "in" else "out"), .int p.2]
def stk : List Int → List (Bool × Int) → Option (List Int)
  | rs, [] => some rs
  | rs, (true, r) :: t => stk (rs ++ [r]) t
  | rs, (false, _) :: t => if rs = [] then none else stk rs.dropLast t
theorem stk_app : ∀ (a b : List (Bool × Int)) (rs : List Int), stk rs (a ++ b) = (stk rs a).bind fun r => stk r b
  | [], _, _ => rfl
  | (true, r) :: a, b, rs => stk_app a b (rs ++ [r])
  | (false, _) :: a, b, rs => by
    show (if rs = [] then none else stk rs.dropLast (a ++ b)) = (if rs = [] then none else stk rs.dropLast a).bind _
    split
    · rfl
    · exact stk_app a b rs.dropLast
structure WayOk (st : List (Bool × Int)) : Prop where
  len : st.length ≤ 28
  rooms : ∀ p ∈ st, 0 ≤ p.2 ∧ p.2 < 1000
  runs : ∃ rs, stk [] st = some rs
def GivesWay (dk gl : Addr) (H : Hp) (Q : VK) : Prop := ∀ (v : V) (st : List (Bool × Int)) (H' : Hp), Ext (avD dk gl) H H' → DeckAt dk gl H' → Rp (dom H) H' v (.tuple (st.map stepD)) → WayOk st → Q v H'
def spWay : Sp := fun vs H Q _ => ∃ (dk gl : Addr) (rooms most : Int), vs = [.ref dk, .int rooms, .int most] ∧ DeckAt dk gl H ∧ 1 ≤ rooms ∧ rooms ≤ 900 ∧ 2 ≤ most ∧ most ≤ 24 ∧ GivesWay dk gl H Q
/-- within the loop of _law_way: the steps so far at SL, what is held at IL -/
structure WayAt (dk gl SL IL : Addr) (H H' : Hp) (rs : List Int) (sv : List V) (sd : List PyData) : Prop where
  ex : Ext (avD dk gl) H H'
  de : DeckAt dk gl H'
  st : H' SL = some (.lst sv)
  il : H' IL = some (.lst (rs.map V.int))
  rp : RpAll (fun b => dom H b ∨ b = SL ∨ b = IL) H' sv sd
theorem WayAt.ext {dk gl SL IL : Addr} {H H1 H2 : Hp} {rs : List Int} {sv : List V} {sd : List PyData} (w : WayAt dk gl SL IL H H1 rs sv sd) (hD : DeckAt dk gl H) (nS : ¬ avD dk gl SL) (nI : ¬ avD dk gl IL) (e : Ext (avD dk gl) H1 H2) (D : DeckAt dk gl H2) : WayAt dk gl SL IL H H2 rs sv sd where
  ex := w.ex.trans e
  de := D
  st := e _ _ nS w.st
  il := e _ _ nI w.il
  rp := w.rp.mono fun b o n h => e b o (fun z => n (.inl (dom_deck hD z))) h
theorem WayAt.putI {dk gl SL IL : Addr} {H H1 : Hp} {rs : List Int} {sv : List V} {sd : List PyData} (w : WayAt dk gl SL IL H H1 rs sv sd) (hI : H IL = none) (ne : SL ≠ IL) (nI : ¬ avD dk gl IL) (ts : List Int) : WayAt dk gl SL IL H (upd H1 IL (.lst (ts.map V.int))) ts sv sd where
  ex := ext_upd w.ex hI _
  de := w.de.put nI _
  st := by rw [upd_ne ne]; exact w.st
  il := upd_same
  rp := w.rp.mono (Ext.put (.inr (.inr rfl)) _)
theorem WayAt.putS {dk gl SL IL : Addr} {H H1 : Hp} {rs : List Int} {sv : List V} {sd : List PyData} (w : WayAt dk gl SL IL H H1 rs sv sd) (hS : H SL = none) (ne : SL ≠ IL) (nS : ¬ avD dk gl SL) {v : V} {d : PyData} (r : Rp (fun b => dom H b ∨ b = SL ∨ b = IL) H1 v d) : WayAt dk gl SL IL H (upd H1 SL (.lst (sv ++ [v]))) rs (sv ++ [v]) (sd ++ [d]) where
  ex := ext_upd w.ex hS _
  de := w.de.put nS _
  st := upd_same
  il := by rw [upd_ne ne.symm]; exact w.il
  rp := (w.rp.snoc r).mono (Ext.put (.inr (.inl rfl)) _)
def rOk (x : Int) : Prop := 0 ≤ x ∧ x < 1000
/-- ahead of a turn of the loop of _law_way -/
def WayW (dk gl SL IL : Addr) (H : Hp) (rooms most r : Int) (m : Nat) (σ : L2.St) (H' : Hp) : Prop := ∃ (c : Int) (rs : List Int) (sv : List V) (st : List (Bool × Int)) (v6 v7 : Option V), σ = [some (.ref dk), some (.int rooms), some (.int most), some (.int c), some (.ref SL), some (.ref IL), v6, v7] ∧
  0 ≤ c ∧ m = 2 * c.toNat + rs.length ∧ (sv.length : Int) + 2 * c + (rs.length : Int) = 2 * (1 + r) ∧ WayAt dk gl SL IL H H' rs sv (st.map stepD) ∧ stk [] st = some rs ∧ (∀ p ∈ st, 0 ≤ p.2 ∧ p.2 < 1000) ∧ ∀ x ∈ rs, rOk x
theorem pair_ok {z : Str} {x : Int} (hz : zOk z = true) (hx : rOk x) : Nc 1 (.tuple [.str z, .int x]) ∧ (PyData.tuple [.str z, .int x]).weight ≤ 142 := by
  have sm : x.natAbs < 10 ^ 20 := by
    have ten20 : (10 : Nat) ^ 20 = 100000000000000000000 := by decide
    obtain ⟨a, b⟩ := hx
    omega
  obtain ⟨n1, n2⟩ := Nc.ofZ (k := 0) hz
  refine ⟨Nc.tup (.cons n1 (.cons (.int sm) .nil)), ?_⟩
  have n3 := w_int sm
  simp only [PyData.weight, PyData.weightAll] at n2 n3 ⊢
  omega
theorem z_in : zOk "in" = true := by decide +kernel
theorem z_out : zOk "out" = true := by decide +kernel
theorem at_last (rs : List Int) (z : Int) : atI ((rs ++ [z]).map V.int) (-1) = some (.int z) := by
  unfold atI ixN
  rw [if_neg (by decide), List.length_map, List.length_append, List.length_singleton, if_pos (by omega)]
  have e : ((-1 : Int) + ((rs.length + 1 : Nat) : Int)).toNat = rs.length := by omega
  rw [e]
  show ((rs ++ [z]).map V.int)[rs.length]? = _
  rw [List.getElem?_map, List.getElem?_append_right (Nat.le_refl _), Nat.sub_self]
  rfl
theorem WayAt.new {dk gl SL IL : Addr} {H H1 : Hp} {rs : List Int} {sv : List V} {sd : List PyData} (w : WayAt dk gl SL IL H H1 rs sv sd) {p : Addr} (hp : H1 p = none) : ¬ (dom H p ∨ p = SL ∨ p = IL) := by
  rintro (z | z | z)
  · exact not_dom hp (dom_ext w.ex w.de z)
  · rw [z, w.st] at hp
    cases hp
  · rw [z, w.il] at hp
    cases hp
set_option hygiene false
local macro_rules | `(tactic| walk_at "way then") => `(tactic| (
  obtain ⟨c9, hc9, hdl⟩ := last_ints hr1
  have lpos : 0 < rs.length := List.length_pos_iff.mpr hr1
  have c9in : c9 ∈ rs := by
    obtain ⟨y, hy, ey⟩ := List.mem_map.mp (List.mem_of_getElem? hc9)
    cases ey
    exact hy
  refine ⟨_, rfl, .inl ⟨rfl, _, SqL.of Wx.st⟩, _, rfl, .inl ⟨rfl, _, SqL.of Wx.il⟩, IL, _, _, rfl, rfl, Wx.il, hc9, (by show 2 ≤ sizeLine; decide), ?_⟩
  rw [hdl]
  intro p9 hp9
  have W9 := Wx.putI hI0 ne nI rs.dropLast
  have s9 := same_new hp9 (.tup [.str "out", .int c9])
  have W10 := W9.ext hD nS nI (Ext.of_same s9) (W9.de.same s9)
  refine ⟨SL, _, _, rfl, rfl, W10.st, szlt (by omega), ?_⟩
  have W11 := W10.putS hS0 ne nS (.tup (W9.new hp9) upd_same (.cons (.str _) (.cons (.int _) .nil)))
  have es : st.map stepD ++ [PyData.tuple [.str "out", .int c9]] = (st ++ [(false, c9)]).map stepD := by
    rw [List.map_append]
    rfl
  rw [es] at W11
  refine ⟨_, ?_, c, rs.dropLast, _, st ++ [(false, c9)], _, _, rfl, c0, rfl, ?_, W11, ?_, ?_, fun x hx => hrs x ((List.dropLast_sublist _).subset hx)⟩
  · rw [List.length_dropLast]
    omega
  · rw [List.length_dropLast, List.length_append, List.length_singleton]
    omega
  · rw [stk_app, wd]
    exact if_neg hr1
  · intro p hp
    rcases List.mem_append.mp hp with y | y
    · exact nc p y
    · rw [List.mem_singleton.mp y]
      exact hrs c9 c9in))
local macro_rules | `(tactic| walk_at "way else") => `(tactic| (
  refine ⟨_, rfl, .inl ⟨rfl, _, SqL.of Wx.il⟩, _, rfl, _, rfl, dk, gl, L, fs.map V.int, rfl, Wx.de, hFx, nL, by rw [List.length_map]; exact f0, by rw [List.length_map]; omega, fun v9 H9 hv9 e9 D9 => ?_⟩
  obtain ⟨z9, hz9, rfl⟩ := mem_intsV hv9
  have W9 := Wx.ext hD nS nI e9 D9
  refine ⟨IL, _, _, rfl, rfl, W9.il, szlt (by rw [List.length_map]; omega), ?_⟩
  have eL : (rs.map V.int ++ [V.int z9]) = (rs ++ [z9]).map V.int := by
    rw [List.map_append]
    rfl
  rw [eL]
  have W10 := W9.putI hI0 ne nI (rs ++ [z9])
  generalize upd H9 IL (.lst ((rs ++ [z9]).map V.int)) = H10 at W10
  refine ⟨_, rfl, .inl ⟨rfl, _, SqL.of W10.st⟩, _, rfl, _, rfl, IL, _, _, _, rfl, rfl, SqL.of W10.il, at_last rs z9, (by show 2 ≤ sizeLine; decide), fun p9 hp9 => ?_⟩
  have s9 := same_new hp9 (.tup [.str "in", .int z9])
  have W11 := W10.ext hD nS nI (Ext.of_same s9) (W10.de.same s9)
  refine ⟨SL, _, _, rfl, rfl, W11.st, szlt (by omega), ?_⟩
  refine ⟨_, rfl, _, _, rfl, rfl, ?_⟩
  have W12 := W11.putS hS0 ne nS (.tup (W10.new hp9) upd_same (.cons (.str _) (.cons (.int _) .nil)))
  have es : st.map stepD ++ [PyData.tuple [.str "in", .int z9]] = (st ++ [(true, z9)]).map stepD := by
    rw [List.map_append]
    rfl
  rw [es] at W12
  refine ⟨_, ?_, c - 1, rs ++ [z9], _, st ++ [(true, z9)], _, _, rfl, by omega, rfl, ?_, W12, ?_, ?_, ?_⟩
  · rw [List.length_append, List.length_singleton]
    omega
  · rw [List.length_append, List.length_singleton, List.length_append, List.length_singleton]
    omega
  · rw [stk_app, wd]
    rfl
  · intro p hp
    rcases List.mem_append.mp hp with y | y
    · exact nc p y
    · rw [List.mem_singleton.mp y]
      exact hfs z9 hz9
  · intro x hx
    rcases List.mem_append.mp hx with y | y
    · exact hrs x y
    · rw [List.mem_singleton.mp y]
      exact hfs z9 hz9))
local macro_rules | `(tactic| walk_at "way body") => `(tactic| (
  refine ⟨fun σ2 H2 => ∃ m', m' < 2 * c.toNat + rs.length ∧ WayW dk gl SL IL H rooms most r m' σ2 H2, fun _ _ h => h, ?_⟩
  refine ⟨_, rfl, _, rfl, by omega, by omega, fun L hL => ?_⟩
  have nL : ¬ avD dk gl L := Wc.de.new hL
  refine lc_range (lo := 0) (n := rooms.toNat) (fun i H2 => Same Hc H2 ∧ ∃ fs : List Int, H2 L = some (.lst (fs.map V.int)) ∧ (∀ x ∈ fs, rOk x) ∧ fs.length ≤ i ∧ (rs = [] → fs.length = i)) ?_ ?_ ?_
  · exact ⟨same_new hL _, [], upd_same, fun x hx => absurd hx (by simp), Nat.le_refl _, fun _ => rfl⟩
  · rintro i H2 hi ⟨s5, fs, hF, hfs, lf, lf2⟩
    refine ⟨rfl, ?_⟩
    refine ⟨_, rfl, _, rfl, IL, _, rfl, .inl (SqL.of (s5 _ _ Wc.il)), rfl, flat_ints rs, _, rfl, ?_⟩
    have eN : (if true then !inV (V.int (0 + (i : Nat))) (rs.map V.int) else inV (V.int (0 + (i : Nat))) (rs.map V.int)) = !decide ((0 + (i : Nat) : Int) ∈ rs) := by
      rw [if_pos rfl, inV_ints]
    refine ite2 (fun cN => ?_) (fun cN => ?_)
    · refine ⟨_, rfl, _, hF, szlt (by rw [List.length_map]; omega), same_upd s5 hL _, fs ++ [(0 + (i : Nat) : Int)], ?_, ?_, ?_, ?_⟩
      · rw [upd_same, List.map_append]
        rfl
      · intro x hx
        rcases List.mem_append.mp hx with y | y
        · exact hfs x y
        · rw [List.mem_singleton.mp y]
          exact ⟨by omega, by omega⟩
      · rw [List.length_append, List.length_singleton]
        omega
      · intro y
        rw [List.length_append, List.length_singleton, lf2 y]
    · refine ⟨s5, fs, hF, hfs, by omega, fun y => ?_⟩
      subst y
      exact absurd (eN.trans (by simp)) cN
  rintro H3 ⟨s5, fs, hF, hfs, lf, lf2⟩
  have W3 := Wc.ext hD nS nI (Ext.of_same s5) (Wc.de.same s5)
  have lfs : fs.length ≤ 900 := by omega
  refine ⟨_, rfl, Nat.zero_le _, fun p1 hp1 => ?_⟩
  have s6 := same_new hp1 (.lst [])
  refine ⟨.list (rs.map PyData.int), .list (([] : List Int).map PyData.int), .lst (SqL.of (s6 _ _ W3.il)) (dp_ints _), .lst (SqL.of upd_same) .nil, shaped_ints _, shaped_ints [], _, rfl, ?_⟩
  rw [eqv_ints]
  have hF6 := s6 _ _ hF
  have W6 := W3.ext hD nS nI (Ext.of_same s6) (W3.de.same s6)
  generalize upd H3 p1 (.lst []) = H6 at W6 hF6
  refine (if hr1 : rs = [] then ?_ else ?_)
  · refine iteZ (by simp [hr1]) ?_
    refine iteF (A := True) ?_
    have f0 : 0 < fs.length := by
      have := lf2 hr1
      omega
    have cp : 0 < c := go.resolve_right (fun z => z hr1)
    have Wx := W6
    have hFx := hF6
    generalize H6 = Hx at Wx hFx
    walk_at "way else"
  · refine iteY (by simp [hr1]) ?_
    refine ⟨_, rfl, rfl, _, rfl, ?_⟩
    refine (if hc1 : c = 0 then ?_ else ?_)
    · refine iteY (by simp [hc1]) ?_
      refine iteT (B := True) ?_
      have Wx := W6
      generalize H6 = Hx at Wx
      walk_at "way then"
    · refine iteZ (by simp [hc1]) ?_
      have cp : 0 < c := by omega
      refine ⟨_, rfl, Nat.zero_le _, fun p2 hp2 => ?_⟩
      have s7 := same_new hp2 (.lst [])
      refine ⟨.list (fs.map PyData.int), .list (([] : List Int).map PyData.int), .lst (SqL.of (s7 _ _ hF6)) (dp_ints _), .lst (SqL.of upd_same) .nil, shaped_ints _, shaped_ints [], _, rfl, ?_⟩
      rw [eqv_ints]
      have hF7 := s7 _ _ hF6
      have W7 := W6.ext hD nS nI (Ext.of_same s7) (W6.de.same s7)
      generalize upd H6 p2 (.lst []) = H7 at W7 hF7
      refine (if hf1 : fs = [] then ?_ else ?_)
      · refine iteY (by simp [hf1]) ?_
        refine iteT (B := True) ?_
        have Wx := W7
        generalize H7 = Hx at Wx
        walk_at "way then"
      · refine iteZ (by simp [hf1]) ?_
        have f0 : 0 < fs.length := List.length_pos_iff.mpr hf1
        refine ⟨_, rfl, dk, gl, 5, rfl, W7.de, by decide, fun z8 H8 e8 D8 _ _ => ⟨_, _, rfl, rfl, _, rfl, ?_⟩⟩
        have Wx := W7.ext hD nS nI e8 D8
        have hFx := e8 _ _ nL hF7
        generalize H8 = Hx at Wx hFx
        refine ite2 (fun _ => ?_) (fun _ => ?_)
        · walk_at "way then"
        · walk_at "way else"))
section
variable {P : Program} {w : World} {K : PySem.W.Frag} {mg : Str → Option Value} {base : Heap} {f : Addr} {fd : FuncData}
theorem scWay : FnScope ["deck", "rooms", "most", "count", "steps", "inside", "free", "room"] ["deck", "rooms", "most"] (defScope sWay) := ⟨rfl, rfl, rfl, by decide +kernel, rfl, by decide +kernel, by decide +kernel⟩
theorem ok_way (F : Fun K "_law_way" "_law_way" sWay f fd) (B : Blt mg) (DD : Dfn P w K mg base "_law_draw" ["deck", "many"] 1 spDraw) (DP : Dfn P w K mg base "_law_pick" ["deck", "items"] 2 spPick) : FnOk P w K mg base CX0 3 f fd ["deck", "rooms", "most"] spWay := by
  refine F.ok scWay (fun vs H Q E h => ?_) (fun cdv A outer s H vs Q E hr h => ?_)
  · obtain ⟨_, _, _, _, rfl, _⟩ := h
    rfl
  obtain ⟨dk, gl, rooms, most, rfl, hD, m0, m1, m2, m3, q⟩ := h
  have nd := scWay.nd
  have hu64 : (A.deeper (PyProof.Rows.envOfC "_law_way" (defScope sWay) s.heap.objs.size f cdv)).units + 64 < cLine := by
    have := hr.un
    omega
  have hr1 : Room 1 (A.deeper (PyProof.Rows.envOfC "_law_way" (defScope sWay) s.heap.objs.size f cdv)) := hr.mono (by omega)
  refine ⟨_, pss_cons (ps_asg (pe_tup (pa_cons (pe_op op_add pe_int (pe_own DD hr1 (pa_cons (pv 0) (pa_cons (pe_op op_fdiv (pv 2) pe_int) pa_nil)))) (pa_cons (pe_lst pa_nil) (pa_cons (pe_lst pa_nil) pa_nil))))
      (pg_tup rfl (pgs_cons (pg_name (i := 3) nd rfl (Or.inl rfl)) (pgs_cons (pg_name (i := 4) nd rfl (Or.inl rfl)) (pgs_cons (pg_name (i := 5) nd rfl (Or.inr rfl)) pgs_nil)))))
    (pss_cons (ps_while PassesOwn.never (PW.pt (pw_or (pt_cmpR op_gt (pv 3) pe_int (nomark _)) (pw_or1 (pt_cmpR (op_neD hu64) (pv 5) (pe_lst pa_nil) (nomark _)))))
      (pss_cons (ps_setLc (i := 6) (own := [("room", 7)]) (g := gName 7) (tt := _) (by rfl) nd rfl rfl (sw_true rfl rfl rfl (by decide +kernel)) (pi_range1 (by rfl) B.rng (pa_cons (pv 1) pa_nil))
        (blkOk_by (N := ["deck", "rooms", "most", "count", "steps", "inside", "free", "room"]) (sc := defScope sWay) (by decide +kernel)) (fun _ _ _ _ _ => pg_name (i := 7) nd rfl (Or.inl rfl)) (fun _ _ _ _ _ => pts_one (pt_cmpR (r := rIn K true) op_notIn_seq (pv 7) (pv 5) (by rfl))) (fun _ _ _ _ _ => pv 7))
      (pss_one (ps_if (PW.pt (pw_and (pt_cmpR (op_neD hu64) (pv 5) (pe_lst pa_nil) (nomark _)) (pw_and1 (PW.pt (pw_or (pt_cmpR op_eq (pv 3) pe_int (nomark _)) (pw_or (pt_cmpR (op_eqD hu64) (pv 6) (pe_lst pa_nil) (nomark _)) (pw_or1 (pt_cmpR op_lt (pe_own DD hr1 (pa_cons (pv 0) (pa_cons pe_int pa_nil))) pe_int (nomark _)))))))))
        (pss_one (ps_expr (pe_bm PySem.F.plainAttrs_list PySem.F.slot_list_append PySem.F.type_list_append mt_append (pv 4) (pa_cons (pe_tup (pa_cons pe_str (pa_cons (pe_bm0 PySem.F.plainAttrs_list PySem.F.slot_list_pop PySem.F.type_list_pop mt_pop (pv 5)) pa_nil))) pa_nil))))
        (pss_cons (ps_expr (pe_bm PySem.F.plainAttrs_list PySem.F.slot_list_append PySem.F.type_list_append mt_append (pv 5) (pa_cons (pe_own DP hr (pa_cons (pv 0) (pa_cons (pv 6) pa_nil))) pa_nil)))
        (pss_cons (ps_expr (pe_bm PySem.F.plainAttrs_list PySem.F.slot_list_append PySem.F.type_list_append mt_append (pv 4) (pa_cons (pe_tup (pa_cons pe_str (pa_cons (pe_ix ix_list (pv 5) (pe_un un_neg pe_int) (fun _ _ => rfl)) pa_nil))) pa_nil)))
        (pss_one (ps_set (i := 3) nd rfl (Or.inl rfl) (pe_op op_sub (pv 3) pe_int)))))))))
    (pss_one (ps_ret (pe_callTy call_tuple_of (by rfl) B.tup (by decide +kernel) (pa_cons (pv 4) pa_nil))))), ?_⟩
  refine ⟨_, rfl, _, rfl, _, _, rfl, rfl, ⟨by decide, by decide⟩, dk, gl, _, rfl, hD, by omega, fun r H1 e1 D1 r0 r1 => ?_⟩
  refine ⟨_, _, rfl, rfl, Nat.zero_le _, fun SL hSL => ⟨Nat.zero_le _, fun IL hIL => ⟨(by show 3 ≤ sizeLine; decide), fun T hT => ?_⟩⟩⟩
  have nS : ¬ avD dk gl SL := D1.new hSL
  have D1a := D1.same (same_new hSL (.lst []))
  have nI : ¬ avD dk gl IL := D1a.new hIL
  have ne : SL ≠ IL := ne_of_none upd_same hIL
  have sN : ∀ {p : Addr}, ¬ avD dk gl p → H1 p = none → H p = none := fun {p} n h => by
    cases z : H p with
    | none => rfl
    | some o =>
      rw [e1 _ _ n z] at h
      cases h
  have hS0 : H SL = none := sN nS hSL
  have hI1 : H1 IL = none := by
    have := hIL
    rw [upd_ne ne.symm] at this
    exact this
  have hI0 : H IL = none := sN nI hI1
  have W0 : WayAt dk gl SL IL H (upd (upd (upd H1 SL (.lst [])) IL (.lst [])) T (.tup [.int (1 + r), .ref SL, .ref IL])) [] [] [] := by
    have s3 := same_new hT (.tup [.int (1 + r), .ref SL, .ref IL])
    refine ⟨(ext_upd (ext_upd e1 hS0 _) hI0 _).trans (Ext.of_same s3), (D1a.put nI _).same s3, s3 _ _ ?_, s3 _ _ upd_same, .nil⟩
    rw [upd_ne ne]
    exact upd_same
  refine ⟨T, _, rfl, SqT.of upd_same, rfl, _, _, rfl, _, _, rfl, _, _, rfl, rfl, ?_⟩
  generalize upd (upd (upd H1 SL (.lst [])) IL (.lst [])) T (.tup [.int (1 + r), .ref SL, .ref IL]) = H2 at W0
  have hr12 : r < 12 := by omega
  refine ⟨WayW dk gl SL IL H rooms most r, ⟨2 * (1 + r).toNat, 1 + r, [], [], [], none, none, rfl, by omega, rfl, by simp, W0, rfl, fun p hp => absurd hp (by simp), fun x hx => absurd hx (by simp)⟩, ?_⟩
  rintro m σ H' ⟨c, rs, sv, st, v6, v7, rfl, c0, rfl, hsum, W1, wd, nc, hrs⟩
  have lsv : sv.length ≤ 24 := by omega
  have lrs : rs.length ≤ 24 := by omega
  refine ⟨_, rfl, _, _, rfl, rfl, _, rfl, ?_⟩
  by_cases hc : 0 < c
  · refine iteY (decide_eq_true hc) ?_
    refine iteT (B := True) ?_
    have Wc := W1
    generalize H' = Hc at Wc
    have go : 0 < c ∨ rs ≠ [] := .inl hc
    walk_at "way body"
  · refine iteZ (fun z => hc (of_decide_eq_true z)) ?_
    refine ⟨_, rfl, Nat.zero_le _, fun p0 hp0 => ?_⟩
    have s4 := same_new hp0 (.lst [])
    refine ⟨.list (rs.map PyData.int), .list (([] : List Int).map PyData.int), .lst (SqL.of (s4 _ _ W1.il)) (dp_ints _), .lst (SqL.of upd_same) .nil, shaped_ints _, shaped_ints [], _, rfl, ?_⟩
    rw [eqv_ints]
    have Wc := W1.ext hD nS nI (Ext.of_same s4) (W1.de.same s4)
    generalize upd H' p0 (.lst []) = Hc at Wc
    by_cases hr0 : rs = []
    · have hc0 : c = 0 := by omega
      subst hr0
      refine iteZ (by simp) ?_
      refine ⟨_, rfl, SL, sv, rfl, .inl ⟨SqL.of Wc.st, fun p hp => ?_⟩⟩
      have s5 := same_new hp (.tup sv)
      have W5 := Wc.ext hD nS nI (Ext.of_same s5) (Wc.de.same s5)
      have ls : st.length = sv.length := by
        have := W5.rp.len
        rw [List.length_map] at this
        exact this.symm
      exact q _ st _ W5.ex W5.de (.tup (fun z => Wc.new hp (.inl z)) upd_same (W5.rp.weak2 fun b z => .inl z)) ⟨by omega, nc, _, wd⟩
    · refine iteY (by simp [hr0]) ?_
      have go : 0 < c ∨ rs ≠ [] := .inr hr0
      walk_at "way body"
end
end Rw
end
section
namespace Rw
open PySem L2
def spLong : Sp := fun vs H Q _ => ∃ (dk gl : Addr) (rooms pairs : Int), vs = [.ref dk, .int rooms, .int pairs] ∧ DeckAt dk gl H ∧ 1 ≤ rooms ∧ rooms ≤ 900 ∧ 0 ≤ pairs ∧ pairs ≤ 13 ∧ GivesWay dk gl H Q
theorem free_of {dk gl : Addr} {H H1 : Hp} (e1 : Ext (avD dk gl) H H1) {p : Addr} (n : ¬ avD dk gl p) (h : H1 p = none) : H p = none := by
  cases z : H p with
  | none => rfl
  | some o =>
    rw [e1 _ _ n z] at h
    cases h
set_option hygiene false
local macro_rules | `(tactic| walk_at "long rest") => `(tactic| (
  refine ⟨(by show 0 ≤ sizeLine; decide), fun FL hFL => ?_⟩
  have nF : ¬ avD dk gl FL := Dx.new hFL
  have hF0 : H FL = none := free_of ex nF hFL
  have neF : FL ≠ Lx := fun e => by
    rw [e, hx] at hFL
    cases hFL
  have W0 : WayAt dk gl FL Lx H (upd Hx FL (.lst [])) xs [] [] := ⟨ex.trans (Ext.new hFL _), Dx.put nF _, upd_same, by rw [upd_ne neF.symm]; exact hx, .nil⟩
  generalize upd Hx FL (.lst []) = H5 at W0
  refine ⟨_, rfl, Lx, rfl, ⟨_, SqL.of W0.il⟩, for_list (K := K) (a := Lx) (xs := xs.map V.int) (fun i σ H' => ∃ (v6 v7 v8 : Option V) (sv : List V) (st : List (Bool × Int)), σ = [some (.ref dk), some (.int rooms), some (.int pairs), some (.ref Lx), some (.int ar), some (.ref FL), v6, v7, v8] ∧ WayAt dk gl FL Lx H H' xs sv (st.map stepD) ∧ (∀ rs, stk rs st = some rs) ∧ (∀ p ∈ st, 0 ≤ p.2 ∧ p.2 < 1000) ∧ sv.length = 2 * i)
    ⟨_, _, _, [], [], rfl, W0, fun _ => rfl, fun p hp => absurd hp (by simp), rfl⟩ ?_ ?_ ?_⟩
  · rintro i σ H' _ ⟨v6, v7, v8, sv, st, rfl, W1, wd, nc, ls⟩
    exact SqL.of W1.il
  · rintro i x σ H' hi ⟨v6, v7, v8, sv, st, rfl, W1, wd, nc, ls⟩
    obtain ⟨z, hz, rfl⟩ := mem_ints hi
    have hil : i < xs.length := (List.getElem?_eq_some_iff.mp hz).1
    have hzr := hrs z (List.mem_of_getElem? hz)
    obtain ⟨n1, n2⟩ := pair_ok z_in hzr
    obtain ⟨n3, n4⟩ := pair_ok z_out hzr
    refine ⟨_, rfl, .inl ⟨rfl, _, SqL.of W1.st⟩, _, rfl, (by show 2 ≤ sizeLine; decide), fun p1 hp1 => ?_⟩
    have s1 := same_new hp1 (.tup [.str "in", .int z])
    have W2 := W1.ext hD nF nL (Ext.of_same s1) (W1.de.same s1)
    have hc1 : upd H' p1 (.tup [.str "in", .int z]) p1 = some (.tup [.str "in", .int z]) := upd_same
    have n1' := W1.new hp1
    generalize upd H' p1 (.tup [.str "in", .int z]) = H2 at W2 hc1
    refine ⟨_, rfl, (by show 2 ≤ sizeLine; decide), fun p2 hp2 => ?_⟩
    have s2 := same_new hp2 (.tup [.str "out", .int z])
    have W3 := W2.ext hD nF nL (Ext.of_same s2) (W2.de.same s2)
    have hc1 := s2 _ _ hc1
    have neP : FL ≠ p2 := ne_of_none W2.st hp2
    have hc2 : upd H2 p2 (.tup [.str "out", .int z]) p2 = some (.tup [.str "out", .int z]) := upd_same
    have n2' := W2.new hp2
    generalize upd H2 p2 (.tup [.str "out", .int z]) = H3 at W3 hc1 hc2
    refine ⟨(by show 2 ≤ sizeLine; decide), fun p3 hp3 => ?_⟩
    have s3 := same_new hp3 (.lst [.ref p1, .ref p2])
    have W4 := W3.ext hD nF nL (Ext.of_same s3) (W3.de.same s3)
    have hc1 := s3 _ _ hc1
    have hc2 := s3 _ _ hc2
    have hc3 : upd H3 p3 (.lst [.ref p1, .ref p2]) p3 = some (.lst [.ref p1, .ref p2]) := upd_same
    generalize upd H3 p3 (.lst [.ref p1, .ref p2]) = H4 at W4 hc1 hc2 hc3
    refine ⟨FL, p3, sv, _, rfl, rfl, W4.st, hc3, (sz (by show sv.length + 2 ≤ _; omega)), ?_⟩
    have W5 := W4.putS hF0 neF nF (.tup n1' hc1 (.cons (.str _) (.cons (.int _) .nil)))
    have hc2' := hc2
    rw [← upd_ne (H := H4) (o := .lst (sv ++ [V.ref p1])) neP.symm] at hc2'
    have W6 := W5.putS hF0 neF nF (.tup n2' hc2' (.cons (.str _) (.cons (.int _) .nil)))
    rw [upd_upd, List.append_assoc, List.append_assoc] at W6
    have es : (st.map stepD ++ ([PyData.tuple [.str "in", .int z]] ++ [PyData.tuple [.str "out", .int z]])) = (st ++ [(true, z), (false, z)]).map stepD := by
      rw [List.map_append]
      rfl
    rw [es] at W6
    refine ⟨_, _, _, _, st ++ [(true, z), (false, z)], rfl, W6, fun rs => ?_, ?_, ?_⟩
    · rw [stk_app, wd rs]
      show (if rs ++ [z] = [] then none else stk (rs ++ [z]).dropLast []) = some rs
      rw [if_neg (by simp), List.dropLast_concat]
      rfl
    · intro p hp
      rcases List.mem_append.mp hp with y | y
      · exact nc p y
      · rcases List.mem_cons.mp y with e | e
        · rw [e]
          exact hzr
        · rw [List.mem_singleton.mp e]
          exact hzr
    · show (sv ++ [_, _]).length = _
      rw [List.length_append]
      simp only [List.length_cons, List.length_nil]
      omega
  rintro σ H6 ⟨v6, v7, v8, sv, st, rfl, W6, wd, nc, ls⟩
  rw [List.length_map] at ls
  have finish : ∀ (S2 : Addr) (H7 : Hp) (tv : List V) (tt : List (Bool × Int)), Ext (avD dk gl) H H7 → DeckAt dk gl H7 → H7 S2 = some (.lst tv) → RpAll (dom H) H7 tv (tt.map stepD) → WayOk tt → ∀ p, H7 p = none → Q (.ref p) (upd H7 p (.tup tv)) := fun S2 H7 tv tt e7 D7 h7 r7 ok p hp => by
    have s5 := same_new hp (.tup tv)
    exact q _ tt _ (e7.trans (Ext.of_same s5)) (D7.same s5) (.tup (fun z => not_dom hp (dom_ext e7 D7 z)) upd_same (r7.mono (Ext.of_same s5))) ok
  have lst : st.length = sv.length := by
    have := W6.rp.len
    rw [List.length_map] at this
    exact this.symm
  have ok6 : WayOk st := ⟨by omega, nc, _, wd []⟩
  refine ⟨_, rfl, _, rfl, _, _, rfl, rfl, _, rfl, ?_⟩
  by_cases b1 : ar < rooms
  case neg =>
    refine iteZ (by simpa using b1) ?_
    refine iteF (A := True) ?_
    exact ⟨_, rfl, FL, sv, rfl, .inl ⟨SqL.of W6.st, finish FL _ sv st W6.ex W6.de W6.st (W6.rp.weak2 fun b z => .inl z) ok6⟩⟩
  refine iteY (by simpa using b1) ?_
  refine ⟨_, rfl, _, _, rfl, rfl, _, rfl, ?_⟩
  by_cases b2 : 1 < rooms
  case neg =>
    refine iteZ (by simpa using b2) ?_
    exact ⟨_, rfl, FL, sv, rfl, .inl ⟨SqL.of W6.st, finish FL _ sv st W6.ex W6.de W6.st (W6.rp.weak2 fun b z => .inl z) ok6⟩⟩
  refine iteY (by simpa using b2) ?_
  obtain ⟨n1, n2⟩ := pair_ok z_in (show rOk ar from ⟨a0, by omega⟩)
  obtain ⟨n3, n4⟩ := pair_ok z_out (show rOk ar from ⟨a0, by omega⟩)
  have e6 := W6.ex
  have D6 := W6.de
  have hf6 := W6.st
  have r6 : RpAll (dom H) H6 sv (st.map stepD) := W6.rp.weak2 fun b z => .inl z
  refine ⟨_, rfl, (by show 2 ≤ sizeLine; decide), fun p1 hp1 => ?_⟩
  have s1 := same_new hp1 (.tup [.str "in", .int ar])
  have q1 : Rp (dom H) (upd H6 p1 (.tup [.str "in", .int ar])) (.ref p1) (.tuple [.str "in", .int ar]) := .tup (fun z => not_dom hp1 (dom_ext e6 D6 z)) upd_same (.cons (.str _) (.cons (.int _) .nil))
  replace e6 := e6.trans (Ext.of_same s1)
  replace D6 := D6.same s1
  replace hf6 := s1 _ _ hf6
  replace r6 := r6.mono (Ext.of_same s1)
  generalize upd H6 p1 (.tup [.str "in", .int ar]) = H7 at e6 D6 hf6 r6 q1
  refine ⟨(by show 1 ≤ sizeLine; decide), fun l1 hl1 => ?_⟩
  replace s1 := same_new hl1 (.lst [.ref p1])
  have k1 : upd H7 l1 (.lst [.ref p1]) l1 = some (.lst [.ref p1]) := upd_same
  replace e6 := e6.trans (Ext.of_same s1)
  replace D6 := D6.same s1
  replace hf6 := s1 _ _ hf6
  replace r6 := r6.mono (Ext.of_same s1)
  replace q1 := q1.mono (Ext.of_same s1)
  generalize upd H7 l1 (.lst [.ref p1]) = H8 at e6 D6 hf6 r6 q1 k1
  refine ⟨_, rfl, l1, FL, _, sv, rfl, rfl, k1, hf6, (sz (by show 1 + sv.length ≤ _; omega)), fun l2 hl2 => ?_⟩
  replace s1 := same_new hl2 (.lst ([.ref p1] ++ sv))
  have k2 : upd H8 l2 (.lst ([.ref p1] ++ sv)) l2 = some (.lst ([.ref p1] ++ sv)) := upd_same
  replace e6 := e6.trans (Ext.of_same s1)
  replace D6 := D6.same s1
  replace r6 := r6.mono (Ext.of_same s1)
  replace q1 := q1.mono (Ext.of_same s1)
  generalize upd H8 l2 (.lst ([.ref p1] ++ sv)) = H9 at e6 D6 r6 q1 k2
  refine ⟨_, rfl, (by show 2 ≤ sizeLine; decide), fun p2 hp2 => ?_⟩
  replace s1 := same_new hp2 (.tup [.str "out", .int ar])
  have q2 : Rp (dom H) (upd H9 p2 (.tup [.str "out", .int ar])) (.ref p2) (.tuple [.str "out", .int ar]) := .tup (fun z => not_dom hp2 (dom_ext e6 D6 z)) upd_same (.cons (.str _) (.cons (.int _) .nil))
  replace e6 := e6.trans (Ext.of_same s1)
  replace D6 := D6.same s1
  replace k2 := s1 _ _ k2
  replace r6 := r6.mono (Ext.of_same s1)
  replace q1 := q1.mono (Ext.of_same s1)
  generalize upd H9 p2 (.tup [.str "out", .int ar]) = H10 at e6 D6 r6 q1 q2 k2
  refine ⟨(by show 1 ≤ sizeLine; decide), fun l3 hl3 => ?_⟩
  replace s1 := same_new hl3 (.lst [.ref p2])
  have k3 : upd H10 l3 (.lst [.ref p2]) l3 = some (.lst [.ref p2]) := upd_same
  replace e6 := e6.trans (Ext.of_same s1)
  replace D6 := D6.same s1
  replace k2 := s1 _ _ k2
  replace r6 := r6.mono (Ext.of_same s1)
  replace q1 := q1.mono (Ext.of_same s1)
  replace q2 := q2.mono (Ext.of_same s1)
  generalize upd H10 l3 (.lst [.ref p2]) = H11 at e6 D6 r6 q1 q2 k2 k3
  refine ⟨l2, l3, _, _, rfl, rfl, k2, k3, (sz (by show ([V.ref p1] ++ sv).length + 1 ≤ _; rw [List.length_append, List.length_singleton]; omega)), fun l4 hl4 => ?_⟩
  replace s1 := same_new hl4 (.lst ([.ref p1] ++ sv ++ [.ref p2]))
  have k4 : upd H11 l4 (.lst ([.ref p1] ++ sv ++ [.ref p2])) l4 = some (.lst ([.ref p1] ++ sv ++ [.ref p2])) := upd_same
  replace e6 := e6.trans (Ext.of_same s1)
  replace D6 := D6.same s1
  replace r6 := r6.mono (Ext.of_same s1)
  replace q1 := q1.mono (Ext.of_same s1)
  replace q2 := q2.mono (Ext.of_same s1)
  generalize upd H11 l4 (.lst ([.ref p1] ++ sv ++ [.ref p2])) = H12 at e6 D6 r6 q1 q2 k4
  have es : ([PyData.tuple [.str "in", .int ar]] ++ st.map stepD ++ [PyData.tuple [.str "out", .int ar]]) = ((true, ar) :: st ++ [(false, ar)]).map stepD := by
    rw [List.map_append]
    rfl
  have r12 := ((RpAll.cons q1 .nil).app r6).snoc q2
  rw [es] at r12
  refine ⟨_, rfl, l4, _, rfl, .inl ⟨SqL.of k4, finish l4 _ _ _ e6 D6 k4 r12 ⟨?_, ?_, [], ?_⟩⟩⟩
  · rw [List.length_append, List.length_cons, List.length_singleton]
    omega
  · intro p hp
    rcases List.mem_append.mp hp with y | y
    · rcases List.mem_cons.mp y with e | e
      · rw [e]
        exact ⟨a0, by show ar < 1000; omega⟩
      · exact nc p e
    · rw [List.mem_singleton.mp y]
      exact ⟨a0, by show ar < 1000; omega⟩
  · rw [stk_app]
    show (stk [ar] st).bind _ = _
    rw [wd]
    rfl))
section
variable {P : Program} {w : World} {K : PySem.W.Frag} {mg : Str → Option Value} {base : Heap} {f : Addr} {fd : FuncData}
theorem scLong : FnScope ["deck", "rooms", "pairs", "inner", "around", "found", "room", "turn", "own"] ["deck", "rooms", "pairs"] (defScope sLong) := ⟨rfl, rfl, rfl, by decide +kernel, rfl, by decide +kernel, by decide +kernel⟩
theorem ok_long (F : Fun K "_law_long_way" "_law_long_way" sLong f fd) (B : Blt mg) (DD : Dfn P w K mg base "_law_draw" ["deck", "many"] 1 spDraw) : FnOk P w K mg base CX0 2 f fd ["deck", "rooms", "pairs"] spLong := by
  refine F.ok scLong (fun vs H Q E h => ?_) (fun cdv A outer s H vs Q E hr h => ?_)
  · obtain ⟨_, _, _, _, rfl, _⟩ := h
    rfl
  obtain ⟨dk, gl, rooms, pairs, rfl, hD, m0, m1, m2, m3, q⟩ := h
  have nd := scLong.nd
  have hu64 : (A.deeper (PyProof.Rows.envOfC "_law_long_way" (defScope sLong) s.heap.objs.size f cdv)).units + 64 < cLine := by
    have := hr.un
    omega
  refine ⟨_, pss_cons (ps_setLc (i := 3) (own := [("turn", 7)]) (g := gName 7) (tt := tYes) (by rfl) nd rfl rfl (sw_true rfl rfl rfl (by decide +kernel)) (pi_range1 (by rfl) B.rng (pa_cons (pv 2) pa_nil))
        (blkOk_by (N := ["deck", "rooms", "pairs", "inner", "around", "found", "room", "turn", "own"]) (sc := defScope sLong) (by decide +kernel)) (fun _ _ _ _ _ => pg_name (i := 7) nd rfl (Or.inl rfl)) (fun _ _ _ _ _ => pts_nil) (fun _ _ _ _ _ => pe_own DD hr (pa_cons (pv 0) (pa_cons (pv 1) pa_nil))))
    (pss_cons (ps_set (i := 4) nd rfl (Or.inr rfl) (pe_own DD hr (pa_cons (pv 0) (pa_cons (pe_op op_add (pv 1) pe_int) pa_nil))))
    (pss_cons (ps_if (PW.pt (pw_and (pt_cmpR op_lt (pv 4) (pv 1) (nomark _)) (pw_and1 (pt_cmpR op_gt (pv 1) pe_int (nomark _)))))
      (pss_one (ps_setLc (i := 3) (own := [("own", 8)]) (g := gName 8) (tt := tYes) (by rfl) nd rfl rfl (sw_true rfl rfl rfl (by decide +kernel)) (pi_list (pe_slice sl_list (pv 3) (po_some pe_int) po_none))
        (blkOk_by (N := ["deck", "rooms", "pairs", "inner", "around", "found", "room", "turn", "own"]) (sc := defScope sLong) (by decide +kernel)) (fun _ _ _ _ _ => pg_name (i := 8) nd rfl (Or.inl rfl)) (fun _ _ _ _ _ => pts_nil) (fun _ _ _ _ _ =>
          pe_ifExp (pt_cmpR op_ne (pv 8) (pv 4) (nomark _)) (pv 8) (pe_op op_mod (pe_callTy call_int1 (by rfl) B.int (by decide +kernel) (pa_cons (pe_op op_add (pv 8) pe_int) pa_nil)) (pv 1))))) pss_nil)
    (pss_cons (ps_set (i := 5) nd rfl (Or.inl rfl) (pe_lst pa_nil))
    (pss_cons (ps_for PassesOwn.never rfl (pi_list (pv 3)) (pg_name (i := 6) nd rfl (Or.inl rfl))
      (pss_one (ps_expr (pe_bm PySem.F.plainAttrs_list PySem.F.slot_list_extend PySem.F.type_list_extend mt_extend (pv 5) (pa_cons (pe_lst (pa_cons (pe_tup (pa_cons pe_str (pa_cons (pv 6) pa_nil))) (pa_cons (pe_tup (pa_cons pe_str (pa_cons (pv 6) pa_nil))) pa_nil))) pa_nil)))))
    (pss_cons (ps_if (PW.pt (pw_and (pt_cmpR op_lt (pv 4) (pv 1) (nomark _)) (pw_and1 (pt_cmpR op_gt (pv 1) pe_int (nomark _)))))
      (pss_one (ps_set (i := 5) nd rfl (Or.inl rfl) (pe_op op_cat (pe_op op_cat (pe_lst (pa_cons (pe_tup (pa_cons pe_str (pa_cons (pv 4) pa_nil))) pa_nil)) (pv 5)) (pe_lst (pa_cons (pe_tup (pa_cons pe_str (pa_cons (pv 4) pa_nil))) pa_nil))))) pss_nil)
    (pss_one (ps_ret (pe_callTy call_tuple_of (by rfl) B.tup (by decide +kernel) (pa_cons (pv 5) pa_nil))))))))), ?_⟩
  refine ⟨_, rfl, _, rfl, by omega, by omega, fun L hL => ?_⟩
  have nL : ¬ avD dk gl L := hD.new hL
  refine lc_range (lo := 0) (n := pairs.toNat) (fun i H' => Ext (avD dk gl) H H' ∧ DeckAt dk gl H' ∧ ∃ rs : List Int, H' L = some (.lst (rs.map V.int)) ∧ (∀ x ∈ rs, rOk x) ∧ rs.length = i) ?_ ?_ ?_
  · exact ⟨Ext.new hL _, hD.same (same_new hL _), [], upd_same, fun x hx => absurd hx (by simp), rfl⟩
  · rintro i H1 hi ⟨e1, D1, rs, hx, hrs, lr⟩
    refine ⟨rfl, ?_⟩
    refine iteT (B := True) ?_
    refine ⟨_, rfl, _, rfl, dk, gl, rooms, rfl, D1, by omega, fun z H2 e2 D2 z0 z1 => ?_⟩
    have hx2 := e2 _ _ nL hx
    refine ⟨_, hx2, szlt (by rw [List.length_map]; omega), ext_upd (e1.trans e2) hL _, D2.put nL _, rs ++ [z], ?_, ?_, ?_⟩
    · rw [upd_same, List.map_append]
      rfl
    · intro x hx
      rcases List.mem_append.mp hx with y | y
      · exact hrs x y
      · rw [List.mem_singleton.mp y]
        exact ⟨z0, by omega⟩
    · rw [List.length_append, List.length_singleton]
      omega
  rintro H1 ⟨e1, D1, rs, hx, hrs, lr⟩
  refine ⟨_, rfl, _, rfl, _, _, rfl, rfl, dk, gl, _, rfl, D1, by omega, fun ar H2 e2 D2 a0 a1 => ?_⟩
  have hx2 := e2 _ _ nL hx
  have e12 := e1.trans e2
  have lrs : rs.length ≤ 13 := by omega
  clear hx e1 e2 D1
  refine ⟨_, rfl, _, rfl, _, _, rfl, rfl, _, rfl, ?_⟩
  by_cases c1 : ar < rooms
  case neg =>
    refine iteZ (by simpa using c1) ?_
    refine iteF (A := True) ?_
    have ex := e12
    have Dx := D2
    have hx := hx2
    have go : True := True.intro
    generalize H2 = Hx at ex Dx hx
    generalize L = Lx at nL hx
    generalize rs = xs at hx hrs lrs
    walk_at "long rest"
  refine iteY (by simpa using c1) ?_
  refine ⟨_, rfl, _, _, rfl, rfl, _, rfl, ?_⟩
  by_cases c2 : 1 < rooms
  case neg =>
    refine iteZ (by simpa using c2) ?_
    have ex := e12
    have Dx := D2
    have hx := hx2
    generalize H2 = Hx at ex Dx hx
    generalize L = Lx at nL hx
    generalize rs = xs at hx hrs lrs
    walk_at "long rest"
  refine iteY (by simpa using c2) ?_
  obtain ⟨ms, ecut, lcut, hms⟩ : ∃ ms : List Int, cutV (rs.map V.int) (some 1) none = ms.map V.int ∧ ms.length ≤ rs.length ∧ ∀ x ∈ ms, rOk x := by
    refine ⟨_, cut_ints rs (some 1) none, ?_, fun x hx => hrs x (List.mem_of_mem_drop (List.mem_of_mem_take hx))⟩
    rw [List.length_take, List.length_drop]
    omega
  refine ⟨_, rfl, 1, rfl, L, _, rfl, SqL.of hx2, fun p hp => ⟨p, rfl, ⟨_, SqL.of upd_same⟩, fun D hDD => ?_⟩⟩
  rw [ecut] at hDD ⊢
  have s1 := same_new hp (.lst (ms.map V.int))
  have D3 := D2.same s1
  have nD : ¬ avD dk gl D := D3.new hDD
  have e13 := e12.trans (Ext.of_same s1)
  refine lc_list (K := K) (a := p) (xs := ms.map V.int) (fun i H' => Same (upd H2 p (.lst (ms.map V.int))) H' ∧ ∃ cs : List Int, H' D = some (.lst (cs.map V.int)) ∧ cs.length ≤ i ∧ ∀ x ∈ cs, rOk x) ?_ ?_ ?_ ?_
  · exact ⟨same_new hDD _, [], upd_same, Nat.le_refl _, fun x hx => absurd hx (by simp)⟩
  · rintro i H' _ ⟨e, _⟩
    exact SqL.of (e _ _ upd_same)
  · rintro i x H' hi ⟨e, cs, hcs, lcs, hcr⟩
    obtain ⟨n, hn, rfl⟩ := mem_ints hi
    have hi2 : i < ms.length := (List.getElem?_eq_some_iff.mp hn).1
    obtain ⟨n0, n1⟩ := hms n (List.mem_of_getElem? hn)
    refine ⟨rfl, ?_⟩
    refine iteT (B := True) ?_
    refine ⟨_, rfl, _, rfl, rfl, _, rfl, ?_⟩
    have fin : ∀ z : Int, rOk z → ∀ y : Int, y ∈ cs ++ [z] → rOk y := fun z hz y hy => by
      rcases List.mem_append.mp hy with w | w
      · exact hcr y w
      · rw [List.mem_singleton.mp w]
        exact hz
    refine ite2 (fun _ => ?_) (fun _ => ?_)
    · refine ⟨_, rfl, _, hcs, szlt (by rw [List.length_map]; omega), same_upd e hDD _, cs ++ [n], by rw [upd_same, List.map_append]; rfl, by rw [List.length_append, List.length_singleton]; omega, fin _ ⟨n0, n1⟩⟩
    · refine ⟨_, rfl, _, _, rfl, rfl, .inl ⟨_, rfl, _, rfl, _, _, rfl, rfl, by omega, _, hcs, szlt (by rw [List.length_map]; omega), same_upd e hDD _, cs ++ [(n + 1) % rooms], by rw [upd_same, List.map_append]; rfl, by rw [List.length_append, List.length_singleton]; omega, fin _ ⟨Int.emod_nonneg _ (by omega), ?_⟩⟩⟩
      have := Int.emod_lt_of_pos (n + 1) (show 0 < rooms by omega)
      omega
  rintro H3 ⟨e3, cs, hcs, lcs, hcr⟩
  rw [List.length_map] at lcs
  have ex : Ext (avD dk gl) H H3 := e13.trans (Ext.of_same e3)
  have Dx := D3.same e3
  have hx := hcs
  have lxs : cs.length ≤ 13 := by omega
  clear nL lrs hrs
  have nL := nD
  have hrs := hcr
  have lrs := lxs
  generalize H3 = Hx at ex Dx hx
  generalize D = Lx at nL hx
  generalize cs = xs at hx hrs lrs
  walk_at "long rest"
end
end Rw
end
/-! a generator expression whose target is any tuple of names and tuples -/
namespace Rw
open PySem
open Sem (wp)
section
variable {prog : Program} {w : World}
/-- what the target's storing, the tests and the element do in a turn: Bd i m says what the names hold in the i-th -/
structure Turns (prog : Program) (w : World) (ce : Env) (tg : List Expr) (kt : Nat) (pt : Pos) (ifs : List Expr) (elt : Expr) (fp wr : List Addr) (Pt : Nat → Array Value → Prop) (Bd : Nat → (Str → Option Value) → Prop) (pz : Nat → Bool) (F : Nat → Value → Prop) (ref : Heap) : Prop where
  put : ∀ (B : Around) (E1 : Value → Shared → Prop) i T vals (u : Shared) m (Q1 : Unit → Shared → Prop), B.handled = none → Pt i vals → u.heap.IsTuple T vals → u.heap.Ns ce.locals m → (∀ b ∈ fp, b ∉ wr → ∀ o, ref.get? b = some o → u.heap.get? b = some o) →
    (∀ h2 m2 tk, h2.Ns ce.locals m2 → Bd i m2 → (∀ b o, b ≠ ce.locals → u.heap.get? b = some o → h2.get? b = some o) → Q1 () { u with heap := h2, toks := tk }) → wpAny (model prog w) B (assign (.Tuple tg kt pt) ce (.ref T)) Q1 E1 u
  test : ∀ (B : Around) E1 i (u : Shared) m, B.handled = none → u.heap.Ns ce.locals m → Bd i m → (∀ b ∈ fp, b ∉ wr → ∀ o, ref.get? b = some o → u.heap.get? b = some o) →
    wpAny (model prog w) B (forIn ifs true fun c r => if r = true then do let ok ← isTrue c ce (eval c ce); pure (ForInStep.yield ok) else pure (ForInStep.yield r)) (fun ok u2 => ok = pz i ∧ Keeps u u2) E1 u
  give : ∀ (B : Around) E1 i (u : Shared) m, B.handled = none → pz i = true → u.heap.Ns ce.locals m → Bd i m → (∀ b ∈ fp, b ∉ wr → ∀ o, ref.get? b = some o → u.heap.get? b = some o) → wpAny (model prog w) B (eval elt ce) (fun y u2 => F i y ∧ Keeps u u2) E1 u
section
variable {A : Around} {elt src : Expr} {tg : List Expr} {kt : Nat} {pt pos : Pos} {ifs : List Expr} {sc : Scope} {I : Addr} {fp wr : List Addr} {n : Nat} {Pt : Nat → Array Value → Prop} {St : Nat → Heap → Prop} {Mid : Nat → Addr → Heap → Prop} {Bd : Nat → (Str → Option Value) → Prop} {ce : Env}
theorem gen_turns (free : A.handled = none) (W : ∀ B : Around, B.handled = none → WalksU prog w B I fp wr n Pt St Mid) (pz : Nat → Bool) (F : Nat → Value → Prop) (ref : Heap) (plain : ce.scope.isCoroutine = false) (out : ce.locals ∉ fp)
    (T : Turns prog w ce tg kt pt ifs elt fp wr Pt Bd pz F ref) : ∀ (left i : Nat) (u0 u : Shared) (m : Str → Option Value), n - i = left → i ≤ n → St i u.heap → u.heap.Ns ce.locals m → GenSince ce.locals wr u0 u → (∀ b ∈ fp, b ∉ wr → ∀ o, ref.get? b = some o → u.heap.get? b = some o) →
      Seg (model prog w) A (fun k v0 r v1 => r = .ok .next ∧ (k = 0 ∧ GenSince ce.locals wr v0 v1)) (genProto ce.locals fp wr pz n F) (passing pz n i).length u0 (.compLoop (.GeneratorExp elt [⟨.Tuple tg kt pt, src, ifs, 0⟩] sc pos) 0 (.ref I) .none ce)
        ((model prog w).den (.compLoop (.GeneratorExp elt [⟨.Tuple tg kt pt, src, ifs, 0⟩] sc pos) 0 (.ref I) .none ce)) [] u := by
  have free2 : (A.over (.compLoop (.GeneratorExp elt [⟨.Tuple tg kt pt, src, ifs, 0⟩] sc pos) 0 (.ref I) .none ce) []).handled = none := free
  have outW : ce.locals ∉ wr := fun z => out ((W A free).sub _ z)
  intro left
  induction left with
  | zero =>
    intro i u0 u m e1 e2 at_ nsl since kept
    obtain rfl : i = n := by omega
    refine (show Seg _ A _ _ _ u0 _ ((compTurn (.GeneratorExp elt [⟨.Tuple tg kt pt, src, ifs, 0⟩] sc pos) 0 (.ref I) .none ce).onRaise (leaving ce)) [] u from ?_)
    rw [compTurn_gen, Sem.onRaise_eq_wrap]
    refine seg_bind_wrap (wpAny_standAt (seg_bind_wrap ((W _ free2).done u _ _ at_ fun h2 tk more => seg_end (.ok .next) ⟨rfl, ?_, since.step fun b o _ nw e => more b o nw e⟩)))
    rw [passing_end]
    all_goals rfl
  | succ left more =>
    intro i u0 u m e1 e2 at_ nsl since kept
    have lt : i < n := by omega
    refine (show Seg _ A _ _ _ u0 _ ((compTurn (.GeneratorExp elt [⟨.Tuple tg kt pt, src, ifs, 0⟩] sc pos) 0 (.ref I) .none ce).onRaise (leaving ce)) [] u from ?_)
    rw [compTurn_gen, Sem.onRaise_eq_wrap]
    refine seg_bind_wrap (wpAny_standAt (seg_bind_wrap ((W _ free2).item i u _ _ lt at_ fun X vals h1 tk1 hp hT mid k1 => ?_)))
    refine seg_bind_wrap ((W _ free2).go _ _ _ i X _ _ _ mid fun h2 at2 k2 => ?_)
    have tup2 : h2.IsTuple X vals := by
      obtain ⟨o, look, rest⟩ := hT
      exact ⟨o, k2 _ o ((W _ free2).apart i X _ mid) look, rest⟩
    have both : ∀ b o, b ∉ wr → u.heap.get? b = some o → h2.get? b = some o := fun b o nb e => k2 b o nb (k1 b o nb e)
    refine seg_bind_wrap (T.put _ _ i X vals { u with heap := h2, toks := tk1 } m _ free2 hp tup2 (nsl.at' fun o e => both _ o outW e) (fun b hb nb o e => both b o nb (kept b hb nb o e)) fun h3 m3 tk3 ns3 bd3 k3 => ?_)
    have at3 : St (i + 1) h3 := (W A free).frame _ _ _ at2 fun b hb o e => k3 b o (fun z => out (z ▸ hb)) e
    have kept3 : ∀ b ∈ fp, b ∉ wr → ∀ o, ref.get? b = some o → h3.get? b = some o := fun b hb nb o e => k3 b o (fun z => out (z ▸ hb)) (both b o nb (kept b hb nb o e))
    refine seg_bind_wrap (wpAny_mono (T.test _ _ i { u with heap := h3, toks := tk3 } m3 free2 ns3 bd3 kept3) (fun ok u4 r4 => ?_) fun _ _ z => z)
    obtain ⟨rfl, h4, tk4, rfl, k4⟩ := r4
    have at4 : St (i + 1) h4 := (W A free).frame _ _ _ at3 fun b _ o e => k4 b o e
    have ns4 := ns3.keeps k4
    have kept4 : ∀ b ∈ fp, b ∉ wr → ∀ o, ref.get? b = some o → h4.get? b = some o := fun b hb nb o e => k4 b o (kept3 b hb nb o e)
    have since4 : GenSince ce.locals wr u0 { u with heap := h4, toks := tk4 } := since.step fun b o nl nb e => k4 b o (k3 b o nl (both b o nb e))
    cases yes : pz i with
    | false =>
      rw [passing_false lt yes]
      simp only [Bool.false_eq_true, if_false]
      exact seg_again rfl (more (i + 1) u0 _ _ (by omega) lt at4 ns4 since4 kept4)
    | true =>
      rw [passing_true lt yes, List.length_cons]
      simp only [if_true]
      have gives : ∀ v, yieldOut ce v = yieldValue v := fun v => by simp only [yieldOut, plain, Bool.false_eq_true, if_false]
      simp only [gives]
      rw [Sem.bind_eq_wrap', Sem.bind_eq_wrap', Sem.wrap_wrap, Sem.wrap_wrap]
      refine seg_wrap (wpAny_mono (T.give _ _ i { u with heap := h4, toks := tk4 } m3 free2 yes ns4 bd3 kept4) (fun y u5 r5 => ?_) fun _ _ z => z)
      obtain ⟨isF, h5, tk5, rfl, k5⟩ := r5
      refine seg_at (seg_yield rfl rfl rfl ⟨⟨i, passing_here lt yes, isF⟩, since4.step fun b o _ _ e => k5 b o e, fun v alive => ?_⟩)
      exact seg_again rfl (more (i + 1) v v m3 (by omega) lt ((W A free).frame _ _ _ at4 fun b hb o e => alive b (List.mem_cons_of_mem _ hb) o (k5 b o e)) ((ns4.keeps k5).at' fun o e => alive _ (List.mem_cons_self ..) o e) (GenSince.refl _ _ _)
        fun b hb nb o e => alive b (List.mem_cons_of_mem _ hb) o (k5 b o (kept4 b hb nb o e)))
end
end
end Rw
namespace Rw
open PySem
open Sem (wp)
section
variable {prog : Program} {w : World} {A : Around} {elt src : Expr} {tg : List Expr} {kt : Nat} {pt pos : Pos} {ifs : List Expr} {sc : Scope} {I : Addr} {fp wr : List Addr} {n : Nat} {Pt : Nat → Array Value → Prop} {St : Nat → Heap → Prop} {Mid : Nat → Addr → Heap → Prop} {Bd : Nat → (Str → Option Value) → Prop} {ce : Env}
theorem gen_begin (free : A.handled = none) (W : ∀ B : Around, B.handled = none → WalksU prog w B I fp wr n Pt St Mid) (pz : Nat → Bool) (F : Nat → Value → Prop) (ref : Heap) (plain : ce.scope.isCoroutine = false) (out : ce.locals ∉ fp)
    (T : Turns prog w ce tg kt pt ifs elt fp wr Pt Bd pz F ref) (u0 u : Shared) (m : Str → Option Value) (at_ : St 0 u.heap) (nsl : u.heap.Ns ce.locals m) (since : GenSince ce.locals wr u0 u) (kept : ∀ b ∈ fp, b ∉ wr → ∀ o, ref.get? b = some o → u.heap.get? b = some o) :
      Seg (model prog w) A (fun k v0 r v1 => r = .ok .next ∧ (k = 0 ∧ GenSince ce.locals wr v0 v1)) (genProto ce.locals fp wr pz n F) (passing pz n 0).length u0 (.compStart (.GeneratorExp elt [⟨.Tuple tg kt pt, src, ifs, 0⟩] sc pos) 0 (.ref I) .none ce)
        ((model prog w).den (.compStart (.GeneratorExp elt [⟨.Tuple tg kt pt, src, ifs, 0⟩] sc pos) 0 (.ref I) .none ce)) [] u := by
  have free2 : (A.over (.compStart (.GeneratorExp elt [⟨.Tuple tg kt pt, src, ifs, 0⟩] sc pos) 0 (.ref I) .none ce) []).handled = none := free
  have go := gen_turns (src := src) (sc := sc) (pos := pos) free W pz F ref plain out T n 0 u0 u m (Nat.sub_zero _) (Nat.zero_le _) at_ nsl since kept
  refine (show Seg _ A _ _ _ u0 _ ((compStart (.GeneratorExp elt [⟨.Tuple tg kt pt, src, ifs, 0⟩] sc pos) 0 (.ref I) .none ce).onRaise (leaving ce)) [] u from ?_)
  unfold compStart
  rw [Sem.onRaise_eq_wrap]
  refine (show Seg _ A _ _ _ u0 _ ((ask >>= _).wrap _ _ _ _) [] u from seg_bind_wrap (wpAny_askSetting ?_))
  split
  · exact seg_again rfl go
  · refine seg_bind_wrap (wpAny_rule ?_)
    refine (show Seg _ A _ _ _ u0 _ ((standAt src.pos >>= _).wrap _ _ _ _) [] u from ?_)
    exact seg_bind_wrap (wpAny_standAt (seg_bind_wrap ((W _ free2).self 0 u _ _ at_ (seg_again rfl go))))
theorem gen_fresh {a : Addr} {g : Nat} (free : A.handled = none) (W : ∀ B : Around, B.handled = none → WalksU prog w B I fp wr n Pt St Mid) (pz : Nat → Bool) (F : Nat → Value → Prop) (plain : ce.scope.isCoroutine = false) (out : ce.locals ∉ fp) {u : Shared} {m : Str → Option Value}
    (T : Turns prog w ce tg kt pt ifs elt fp wr Pt Bd pz F u.heap) (isG : u.heap.IsGen a g) (st : u.gens[g]? = some (.fresh (.compStart (.GeneratorExp elt [⟨.Tuple tg kt pt, src, ifs, 0⟩] sc pos) 0 (.ref I) .none ce))) (at_ : St 0 u.heap) (nsl : u.heap.Ns ce.locals m) (nl : u.heap.NoLimit) :
    GenAt prog w A a g ce.locals fp wr pz n F 0 u :=
  ⟨isG, nl, _, st, fun v alive => ⟨rfl, gen_begin (A := A.in1) free W pz F u.heap plain out T v v m ((W A free).frame _ _ _ at_ fun b hb o e => alive b (List.mem_cons_of_mem _ hb) o e) (nsl.at' fun o e => alive _ (List.mem_cons_self ..) o e) (GenSince.refl _ _ _)
    fun b hb _ o e => alive b (List.mem_cons_of_mem _ hb) o e⟩⟩
end
section
variable {prog : Program} {w : World} {A : Around} {E : Value → Shared → Prop} {s : Shared}
/-- the generator made in s4: g at a, to be walked -/
def Made (prog : Program) (w : World) (A : Around) (wr : List Addr) (pz : Nat → Bool) (n : Nat) (F : Nat → Value → Prop) (s4 : Shared) (a : Addr) (s5 : Shared) : Prop :=
  WalksS prog w A.in4 a (a :: s4.heap.objs.size :: List.range s4.heap.objs.size) (s4.heap.objs.size :: wr) (GenOnlyQ s4.gens.size) (passing pz n 0).length (fun j y => ∃ i, (passing pz n 0)[j]? = some i ∧ F i y) (GenAt prog w A.in4 a s4.gens.size s4.heap.objs.size (List.range s4.heap.objs.size) wr pz n F) ∧
    GenAt prog w A.in4 a s4.gens.size s4.heap.objs.size (List.range s4.heap.objs.size) wr pz n F 0 s5
theorem gen_made {env : Env} {elt src : Expr} {tg : List Expr} {kt : Nat} {pt pos : Pos} {ifs : List Expr} {sc : Scope} {cl : List (Str × Addr)} {Q : Value → Shared → Prop} (free : A.handled = none) (plain : sc.isCoroutine = false) (clos : closureFor sc env = pure cl) (noCell : ∀ y ∈ sc.names, y.2 ≠ .cell)
    (dot : sc.names.lookup (".0" : Str) = some NameKind.local) (kind : sc.kind = .function) (room : A.depth < recursionLimit)
    (h : wpAny (model prog w) A (eval src env) (fun xv s1 => wpAny (model prog w) A (pyIter xv) (fun it s2 => s2.heap.NoLimit ∧ wpAny (model prog w) A (genexprCode env pos (env.qual ++ "<genexpr>") sc) (fun code s3 => wpAny (model prog w) A (builtinsFor env.globals env.builtins) (fun bi s4 =>
      ∃ I fp wr n Pt St Mid Bd pz F, it = .ref I ∧ (∀ B : Around, B.handled = none → WalksU prog w B I fp wr n Pt St Mid) ∧ St 0 s4.heap ∧ (∀ b ∈ fp, b < s4.heap.objs.size) ∧ s4.heap.NoLimit ∧ cStatics ∉ wr ∧
        (∀ ref : Heap, (∀ b o, s4.heap.get? b = some o → ref.get? b = some o) → Turns prog w (genEnv sc cl s4.heap.objs.size code bi env) tg kt pt ifs elt (List.range s4.heap.objs.size) wr Pt Bd pz F ref) ∧
        (∀ a h5 tk gs, gs.bare = true → s4.heap.objs.size < a → h5.objs.size = a + 1 → (∀ b o, s4.heap.get? b = some o → h5.get? b = some o) → Made prog w A wr pz n F s4 a { s4 with gens := s4.gens.push gs, toks := tk, heap := h5 } →
          Q (.ref a) { s4 with gens := s4.gens.push gs, toks := tk, heap := h5 })) E s3) E s2) E s1) E s) (hs : ∀ x, genFold src env x = pure x) :
    wpAny (model prog w) A (eval (.GeneratorExp elt [⟨.Tuple tg kt pt, src, ifs, 0⟩] sc pos) env) Q E s := by
  refine wpAny_GeneratorExp_make plain clos noCell dot kind room (wpAny_mono h (fun xv s1 q1 => wpAny_mono q1 (fun it s2 q2 => ⟨q2.1, wpAny_mono q2.2 (fun code s3 q3 => wpAny_mono q3 (fun bi s4 q4 => ?_) fun _ _ z => z) fun _ _ z => z⟩) fun _ _ z => z) fun _ _ z => z) hs
  obtain ⟨I, fp, wr, n, Pt, St, Mid, Bd, pz, F, rfl, W, at_, low, nl, nst, turns, back⟩ := q4
  have statLow : cStatics < s4.heap.objs.size := by
    obtain ⟨_, z, _⟩ := nl
    exact z.lt
  intro h5 ns5 same5
  have size5 : h5.objs.size = s4.heap.objs.size + 1 := by rw [same5.1, Heap.size_push]
  have old5 : ∀ b o, s4.heap.get? b = some o → h5.get? b = some o := fun b o e => same5.extBut b o (Nat.ne_of_lt (Heap.lt_size e)) (Heap.get?_push_of_some _ e)
  have wrLow : ∀ b ∈ wr, b ∈ List.range s4.heap.objs.size := fun b hb => List.mem_range.mpr (low b ((W A free).sub b hb))
  have apart : h5.objs.size ≠ s4.heap.objs.size := size5 ▸ Nat.succ_ne_self _
  have above : h5.objs.size ∉ List.range s4.heap.objs.size := fun z => absurd (List.mem_range.mp z) (by omega)
  have old6 : ∀ b o, s4.heap.get? b = some o → (h5.push { cls := .type "generator", data := .fields #[.int s4.gens.size 0, .str "<genexpr>" (s4.toks + 1), .str (env.qual ++ "<genexpr>") (s4.toks + 1 + 1)] }).get? b = some o := fun b o e => Heap.get?_push_of_some _ (old5 b o e)
  refine back _ _ _ _ rfl (by omega) (by rw [Heap.size_push]) old6 ⟨WalksS.genexpQ (A := A.in4) free _ _ _ _ wr pz n F apart above wrLow room (List.mem_range.mpr statLow) (Nat.ne_of_lt statLow) nst, ?_⟩
  exact gen_fresh (A := A.in4) (ce := genEnv sc cl s4.heap.objs.size code bi env) (m := fun y => if y = ".0" then some (.ref I) else none) free (fun B hB => (W B hB).mono_fp fun b hb => List.mem_range.mpr (low b hb)) pz F plain
    (fun z => Nat.lt_irrefl _ (List.mem_range.mp z)) (turns _ old6) ⟨_, _, _, Heap.get?_push_size _ rfl, rfl, rfl, rfl⟩ (Array.getElem?_push_size ..) ((W A free).frame _ _ _ at_ fun b _ o e => old6 b o e) (ns5.push _) (nl.keeps old6)
end
end Rw
namespace Rw
open PySem
open Sem (wp)
section
variable {prog : Program} {w : World}
def nameBd (x y : Str) (zs : List Str) (i : Nat) (m : Str → Option Value) : Prop := (∃ t, m x = some (.int (i : Nat) t)) ∧ ∃ q t, zs[i]? = some q ∧ m y = some (.str q t)
def isAt (zs : List Str) (k : Str) (i : Nat) : Bool := match zs[i]? with
  | some q => q.cps.toList == k.cps.toList
  | none => false
def isInt (i : Nat) (v : Value) : Prop := ∃ t, v = .int (i : Nat) t
/-- for x, (y, z) in ..: x where y == 'k' -/
theorem turns_pair {ce : Env} {x y z k : Str} {p1 p2 p3 p4 p5 p6 p7 p8 pt : Pos} {k2 kt j : Nat} {fp wr : List Addr} {ref : Heap} {items : Array Value} {zs : List Str} (hx : ce.kindOf x = some .local) (hy : ce.kindOf y = some .local) (hz : ce.kindOf z = some .local) (xy : x ≠ y) (xz : x ≠ z) (yz : y ≠ z)
    (hk : ce.scope.kind = .function) (dx : (x == ("__debug__" : Str)) = false) (dy : (y == ("__debug__" : Str)) = false) (out : ∀ b ∈ fp, b ≠ ce.locals) (row : ∀ (i : Nat) (v : Value), items[i]? = some v → ∃ (b : Addr) (t : Tok) (u : Value) (q : Str), v = .ref b ∧ zs[i]? = some q ∧ ref.IsTuple b #[.str q t, u] ∧ b ∈ fp ∧ b ∉ wr) :
    Turns prog w ce [.Name x p1, .Tuple [.Name y p2, .Name z p3] k2 p4] kt pt [.Compare (.Name y p5) [.Eq] [.Constant (.str k) j p6] p7] (.Name x p8) fp wr (fun i vals => ∃ t v, items[i]? = some v ∧ vals = #[.int (i : Nat) t, v]) (nameBd x y zs) (isAt zs k) isInt ref where
  put := fun B E1 i T vals u m Q1 free pv hT ns kept go => by
    obtain ⟨t, v, hi, rfl⟩ := pv
    obtain ⟨b, t2, u2, q, rfl, hq, hb, hbf, hbw⟩ := row i v hi
    have hp : (ce.scope.kind == .class || (ce.scope.kind == .module && ce.locals != ce.globals)) = false := by rw [hk]; rfl
    have locLt : ce.locals < u.heap.objs.size := ns.lt
    refine wpAny_assign_Tuple free hT rfl rfl fun h1 e1 => ?_
    have old1 : ∀ c o, u.heap.get? c = some o → h1.get? c = some o := fun c o e => e1 c o (Nat.ne_of_lt (Heap.lt_size e)) e
    refine (show wpAny _ _ (do holding [Value.ref b] (assign (.Name x p1) ce (.int (i : Nat) t)); holding [] (assign (.Tuple [.Name y p2, .Name z p3] k2 p4) ce (.ref b)); pure ()) _ _ _ from ?_)
    refine wpAny_bind (wpAny_holding (wpAny_assign_Name (wpAny_storeName_local hx (ns.at' fun o e => old1 _ o e) (fun h2 ns2 s2 => ?_) hp)))
    have old2 : ∀ c o, c ≠ ce.locals → u.heap.get? c = some o → h2.get? c = some o := fun c o n e => s2.extBut c o n (old1 c o e)
    have tb : h2.IsTuple b #[.str q t2, u2] := by
      obtain ⟨o, look, rest⟩ := hb
      exact ⟨o, old2 _ o (out b hbf) (kept b hbf hbw o look), rest⟩
    refine wpAny_bind (wpAny_holding (wpAny_assign_Tuple free tb rfl rfl fun h3 e3 => ?_))
    have old3 : ∀ c o, h2.get? c = some o → h3.get? c = some o := fun c o e => e3 c o (Nat.ne_of_lt (Heap.lt_size e)) e
    refine (show wpAny _ _ (do holding [u2] (assign (.Name y p2) ce (.str q t2)); holding [] (assign (.Name z p3) ce u2); pure ()) _ _ _ from ?_)
    refine wpAny_bind (wpAny_holding (wpAny_assign_Name (wpAny_storeName_local hy (ns2.at' fun o e => old3 _ o e) (fun h4 ns4 s4 => ?_) hp)))
    refine wpAny_bind (wpAny_holding (wpAny_assign_Name (wpAny_storeName_local hz ns4 (fun h5 ns5 s5 => wpAny_pure (wpAny_pure (go h5 _ _ ns5 ⟨⟨t, ?_⟩, q, t2, hq, ?_⟩ fun c o n e => s5.extBut c o n (s4.extBut c o n (old3 c o (old2 c o n e)))))) hp)))
    · simp [xz, xy]
    · simp [yz]
  test := fun B E1 i u m free ns bd kept => by
    obtain ⟨_, q, t, hq, hm⟩ := bd
    have e : isAt zs k i = (q.cps.toList == k.cps.toList) := by
      unfold isAt
      rw [hq]
    simp only [List.forIn_cons, List.forIn_nil, if_true]
    refine wpAny_bind (wpAny_bind (wpAny_isTrue_Compare1 ?_))
    refine wpAny_Name (wpAny_loadName_local hk hy ns hm ?_) dy
    refine Calls.Constant_str (PySem.P.eq_str (wpAny_truthy_bool (wpAny_pure ?_)))
    refine wpAny_pure ⟨e.symm, u.heap, _, rfl, fun _ _ z => z⟩
  give := fun B E1 i u m free yes ns bd kept => by
    obtain ⟨⟨t, hm⟩, _⟩ := bd
    exact wpAny_Name (wpAny_loadName_local hk hx ns hm ⟨⟨t, rfl⟩, u.heap, _, rfl, fun _ _ z => z⟩) dx
end
end Rw
set_option maxHeartbeats 2000000
namespace Rw
open PySem PySem.Spec PyProof.Rows L2 GxR
/-- the scope of a generator expression of the names x, y, z -/
structure Names3 (env : Env) (sc : Scope) (x y z : Str) : Prop where
  kind : sc.kind = .function
  co : sc.isCoroutine = false
  cell : ∀ n ∈ sc.names, n.2 ≠ .cell
  dot : sc.names.lookup (".0" : Str) = some NameKind.local
  lx : sc.names.lookup x = some .local
  ly : sc.names.lookup y = some .local
  lz : sc.names.lookup z = some .local
  free : ∀ n ∈ sc.names, n.2 = .free → ∃ c, env.cells.lookup n.1 = some c
def placesOf (zs : List Str) (k : Str) : List Int := ((List.range zs.length).filter (isAt zs k)).map fun i => ((i : Nat) : Int)
/-- items of xs: pairs, whose first are the texts zs -/
def PairsAt (H : Hp) (xs : List V) (zs : List Str) : Prop := zs.length = xs.length ∧ ∀ (i : Nat) (x : V), xs[i]? = some x → ∃ (b : Addr) (q : Str) (y : V), x = .ref b ∧ zs[i]? = some q ∧ H b = some (.tup [.str q, y])
def tTupG (K : PySem.W.Frag) (P : Addr) (k : Str) (ta : TA) : TE := fun σ H Q => ta σ H fun vs H1 => ∃ (a : Addr) (xs : List V) (zs : List Str), vs = [.ref a] ∧ H1 a = some (.tup xs) ∧ PairsAt H1 xs zs ∧ TabG H1 P ∧
  ∀ (H2 : Hp) (p : Addr), Tabbed P H1 H2 → H2 p = none → Q (.ref p) (upd H2 p (.tup ((placesOf zs k).map V.int)))
theorem items_ints : ∀ (acc : List Value) (ns : List Nat), acc.length = ns.length → (∀ (j : Nat) v, acc[j]? = some v → ∃ i, ns[j]? = some i ∧ isInt i v) → Vals (ns.map fun i => V.int (i : Nat)) acc
  | [], [], _, _ => .nil
  | v :: acc, n :: ns, l, h => by
    obtain ⟨i, e, t, r⟩ := h 0 v rfl
    have e2 : n = i := Option.some.inj e
    subst e2
    refine .cons ⟨t, r⟩ (items_ints acc ns (by simpa using l) fun j u hj => h (j + 1) u hj)
section
variable {X : Cx} {pins : List (Addr × Obj)} {σ : L2.St} {H : Hp} {s : Shared}
theorem pe_tupG {c P : Addr} {e : Expr} {x y z k : Str} {p1 p2 p3 p4 p5 p6 p7 p8 pt q0 q1 q2 q3 gpos : Pos} {k2 kt j : Nat} {sc : Scope} {ta : TA} (room : X.A.depth + 5 < recursionLimit) (free : X.A.handled = none) (hg : Gl X "tuple") (hm : X.mg "tuple" = none) (hgE : Gl X "enumerate") (hmE : X.mg "enumerate" = none)
    (TB : TabB X.base X.mg c P) (code : X.env.code = .ref c) (S : Names3 X.env sc x y z) (xy : x ≠ y) (xz : x ≠ z) (yz : y ≠ z) (dx : (x == ("__debug__" : Str)) = false) (dy : (y == ("__debug__" : Str)) = false) (ha : PA X [e] ta)
    (hsE : starEach [e] X.env = [(false, eval e X.env)]) (hs : ∀ v, genFold (.Call (.Name "enumerate" q1) [e] [] q2) X.env v = pure v)
    (he : starEach [.GeneratorExp (.Name x p8) [⟨.Tuple [.Name x p1, .Tuple [.Name y p2, .Name z p3] k2 p4] kt pt, .Call (.Name "enumerate" q1) [e] [] q2, [.Compare (.Name y p5) [.Eq] [.Constant (.str k) j p6] p7], 0⟩] sc gpos] X.env =
      (false, eval (.GeneratorExp (.Name x p8) [⟨.Tuple [.Name x p1, .Tuple [.Name y p2, .Name z p3] k2 p4] kt pt, .Call (.Name "enumerate" q1) [e] [] q2, [.Compare (.Name y p5) [.Eq] [.Constant (.str k) j p6] p7], 0⟩] sc gpos) X.env) :: starEach [] X.env) :
    PE X (.Call (.Name "tuple" q0) [.GeneratorExp (.Name x p8) [⟨.Tuple [.Name x p1, .Tuple [.Name y p2, .Name z p3] k2 p4] kt pt, .Call (.Name "enumerate" q1) [e] [] q2, [.Compare (.Name y p5) [.Eq] [.Constant (.str k) j p6] p7], 0⟩] sc gpos] [] q3) (tTupG X.K P k ta) := by
  refine ⟨fun pins s σ H Q I h => ?_⟩
  refine wpAny_Call_Name_kw (ld_blt I hg hm PyProof.Rows.boot_tuple ?_)
  refine PyProof.Rows.callWith_type1 ?_ he (by rfl)
  rw [he]
  refine (show wpAny _ _ (spliced ((false, eval (.GeneratorExp (.Name x p8) [⟨.Tuple [.Name x p1, .Tuple [.Name y p2, .Name z p3] k2 p4] kt pt, .Call (.Name "enumerate" q1) [e] [] q2, [.Compare (.Name y p5) [.Eq] [.Constant (.str k) j p6] p7], 0⟩] sc gpos) X.env) :: backTo q3 (starEach [] X.env))) _ _ s from ?_)
  refine Calls.spliced_cons (gen_made free S.co (closure_ok S.free) S.cell S.dot S.kind (by omega) ?_ hs)
  refine Call_ (ld_blt I hgE hmE boot_enumerate (PyProof.Rows.callWith_type1 ?_ hsE rfl))
  refine thn (ha.run q2 pins s σ H _ I h) fun us s1 ⟨vs, H1, I1, r1, a, xs, zs, ev, hq, ⟨lz, hpair⟩, ⟨ps, hP, triples⟩, q⟩ => ?_
  subst ev
  obtain ⟨u, rfl, ru⟩ := vals1 r1
  cases ru
  obtain ⟨its, rv, tupA, hz⟩ := I1.tuple (SqT.of (K := X.K) hq)
  have tup2 : s1.heap.IsTuple a its.toArray := tupA
  have aLt : a < s1.heap.objs.size := by
    obtain ⟨_, look, _⟩ := tup2
    exact Heap.lt_size look
  have PAt : s1.heap.get? P = some { cls := .none, data := .fields ps } := I1.hok P _ hP
  have PLt : P < s1.heap.objs.size := Heap.lt_size PAt
  refine call_enum_tup tup2 fun h2 isE isI old2 => wpAny_pyIter_enum isE ?_
  have lim2 : h2.NoLimit := I1.nolimit.keeps old2
  refine ⟨lim2, ?_⟩
  have P2 := old2 _ _ PAt
  have cd : PySem.W.CodeHd h2 c P := TB.code.keeps fun b o look => old2 b o (I1.bk b o look)
  have stLow : cStatics < s1.heap.objs.size := by
    obtain ⟨_, z, _⟩ := I1.nolimit
    exact z.lt
  have nStP : cStatics ≠ P := fun z => by
    obtain ⟨_, ⟨o, es, ep, look, dat, _⟩, _⟩ := I1.nolimit
    rw [z, PAt] at look
    cases look
    cases dat
  have lenI : its.length = xs.length := rv.length.symm
  have behind : ∀ (code : Value) (h3 : Heap) (tk : Nat) (ps3 : Array Value), Heap.ExtBut P h2 h3 → h3.get? P = some { cls := .none, data := .fields ps3 } → (∃ more, ps3 = ps ++ more) → TriplesOk ps3.toList →
      wpAny (model X.prog X.w) X.A (builtinsFor X.env.globals X.env.builtins) (fun bi s4 => ∃ I fp wr n Pt St Mid Bd pz F, Value.ref (s1.heap.objs.size + 1) = .ref I ∧ (∀ B : Around, B.handled = none → WalksU X.prog X.w B I fp wr n Pt St Mid) ∧ St 0 s4.heap ∧ (∀ b ∈ fp, b < s4.heap.objs.size) ∧ s4.heap.NoLimit ∧ cStatics ∉ wr ∧
        (∀ ref : Heap, (∀ b o, s4.heap.get? b = some o → ref.get? b = some o) → Turns X.prog X.w (genEnv sc (cloFrom X.env.cells sc.names []) s4.heap.objs.size code bi X.env) [.Name x p1, .Tuple [.Name y p2, .Name z p3] k2 p4] kt pt [.Compare (.Name y p5) [.Eq] [.Constant (.str k) j p6] p7] (.Name x p8) (List.range s4.heap.objs.size) wr Pt Bd pz F ref) ∧
        (∀ a h5 tk gs, gs.bare = true → s4.heap.objs.size < a → h5.objs.size = a + 1 → (∀ b o, s4.heap.get? b = some o → h5.get? b = some o) → Made X.prog X.w X.A wr pz n F s4 a { s4 with gens := s4.gens.push gs, toks := tk, heap := h5 } →
          wpAny (model X.prog X.w) X.A (spliced (backTo q3 (starEach [] X.env))) (fun vs s₂ => wpAny (model X.prog X.w) X.A (call (Value.type "tuple") (Value.ref a :: vs)) (EP X pins σ Q) X.xe s₂) X.xe { s4 with gens := s4.gens.push gs, toks := tk, heap := h5 })) X.xe { s1 with heap := h3, toks := tk } := by
    intro code h3 tk ps3 ext P3 more3 triples3
    obtain ⟨bm, ob, f1, f2, f3, f4, f5, f6, f7, f8⟩ := TB.bm
    have keep3 : ∀ b o, b ≠ P → s1.heap.get? b = some o → h3.get? b = some o := fun b o nb look => ext b o nb (old2 b o look)
    have neEP : s1.heap.objs.size + 1 ≠ P := Nat.ne_of_gt (Nat.lt_succ_of_lt PLt)
    have neIP : s1.heap.objs.size ≠ P := Nat.ne_of_gt PLt
    have isE3 : IsEnum h3 (s1.heap.objs.size + 1) s1.heap.objs.size 0 Value.none := ext _ _ neEP isE
    have isI3 : h3.IsTupleIter s1.heap.objs.size a 0 := isI.at fun o look => ext _ _ neIP look
    have aP : a ≠ P := fun z => by
      obtain ⟨o, look, cls, _⟩ := tup2
      rw [z, PAt] at look
      cases look
      cases cls
    have tup3 : h3.IsTuple a its.toArray := by
      obtain ⟨o, look, rest⟩ := tup2
      exact ⟨o, keep3 a o aP look, rest⟩
    have size3 : s1.heap.objs.size + 1 < h3.objs.size := Heap.lt_size isE3
    have apartE : s1.heap.objs.size + 1 ∉ [s1.heap.objs.size, a] := fun z => by
      rcases List.mem_cons.mp z with r | r
      · exact Nat.succ_ne_self _ r
      · exact Nat.ne_of_gt (Nat.lt_succ_of_lt aLt) (List.mem_singleton.mp r)
    refine wpAny_builtinsFor (m := X.mg) (by rw [I1.ok.glob]; exact ((I1.mod.glob.keeps I1.bk).keeps old2).extBut ext TB.gP) f1 f2 (keep3 _ _ f4 (I1.bk _ _ f5)) f6 f7 f8 ?_
    refine ⟨s1.heap.objs.size + 1, _, _, its.toArray.size, _, _, _, nameBd x y zs, isAt zs k, isInt, rfl,
      fun B hB => (WalksT.enumerateD (Draws.tuple (prog := X.prog) (w := X.w) (A := B.in1) (show B.in1.handled = none from hB) s1.heap.objs.size a (Nat.ne_of_lt aLt) its.toArray) (s1.heap.objs.size + 1) (Nat.succ_ne_self _) apartE List.mem_cons_self).toU,
      ⟨⟨_, isE3⟩, isI3, tup3⟩, fun b hb => ?_, lim2.extBut ext nStP, fun hb => ?_, fun ref href => ?_, ?_⟩
    · simp only [List.mem_cons, List.not_mem_nil, or_false] at hb
      show b < h3.objs.size
      rcases hb with r | r | r <;> rw [r]
      · exact size3
      · exact Nat.lt_of_succ_lt size3
      · exact Nat.lt_trans aLt (Nat.lt_of_succ_lt size3)
    · simp only [List.mem_cons, List.not_mem_nil, or_false] at hb
      rcases hb with r | r
      · rw [r] at stLow
        exact Nat.lt_irrefl _ (Nat.lt_trans (Nat.lt_succ_self _) stLow)
      · rw [r] at stLow
        exact Nat.lt_irrefl _ stLow
    · refine turns_pair S.lx S.ly S.lz xy xz yz S.kind dx dy (fun b hb e => ?_) (fun i v hv => ?_)
      · have hb2 : b < h3.objs.size := List.mem_range.mp hb
        rw [show b = h3.objs.size from e] at hb2
        exact Nat.lt_irrefl _ hb2
      · have iLt : i < its.length := by
          have := (Array.getElem?_eq_some_iff.mp hv).1
          simpa using this
        have gx : xs[i]? = some xs[i] := List.getElem?_eq_getElem (by omega)
        obtain ⟨b, qq, yy, ex, ez, eb⟩ := hpair i xs[i] gx
        obtain ⟨u, hu, ru⟩ := rv.get gx
        have uv : u = v := by
          have e1 : its.toArray[i]? = some u := by simpa using hu
          exact Option.some.inj (e1.symm.trans hv)
        subst uv
        rw [ex] at ru
        have ub : u = Value.ref b := ru
        obtain ⟨_, its2, rv2, o2, look2, cls2, n2, dat2⟩ := I1.hok b _ eb
        obtain ⟨w1, w2, rfl, rw1, rw2⟩ := vals2 rv2
        obtain ⟨t1, rfl⟩ := rw1
        have bLt : b < s1.heap.objs.size := Heap.lt_size look2
        have bP : b ≠ P := fun zz => by
          rw [zz, PAt] at look2
          cases look2
          cases cls2
        refine ⟨b, t1, w2, qq, ub, ez, ⟨o2, href _ _ (keep3 _ _ bP look2), cls2, n2, dat2⟩, List.mem_range.mpr (show b < h3.objs.size from Nat.lt_trans bLt (Nat.lt_of_succ_lt size3)), fun zz => ?_⟩
        simp only [List.mem_cons, List.not_mem_nil, or_false] at zz
        rcases zz with r | r <;> rw [r] at bLt
        · exact Nat.lt_irrefl _ (Nat.lt_trans (Nat.lt_succ_self _) bLt)
        · exact Nat.lt_irrefl _ bLt
    · intro g h5 tk5 gs bare lt5 size5 old5 made
      obtain ⟨walk, here⟩ := made
      have sizeP : (passing (isAt zs k) its.toArray.size 0).length ≤ its.length := by
        unfold passing
        refine Nat.le_trans (List.length_filter_le _ _) ?_
        rw [List.length_drop, List.length_range, List.size_toArray]
        omega
      refine Calls.spliced_nil (call_tuple_gen walk.in4_3 (fun i s' st => st.1.typeIs) here (fun b hb => ?_) List.mem_cons_self (fun s6 acc moved items => ?_) (by omega))
      · show b < h5.objs.size
        rw [size5]
        rcases List.mem_cons.mp hb with r | r
        · rw [r]
          exact Nat.lt_succ_self _
        · rcases List.mem_cons.mp r with r | r
          · rw [r]
            exact Nat.lt_succ_of_lt lt5
          · exact Nat.lt_succ_of_lt (Nat.lt_trans (List.mem_range.mp r) lt5)
      · obtain ⟨more, em⟩ := more3
        have wrNew : ∀ b o, s1.heap.get? b = some o → b ∉ h3.objs.size :: [s1.heap.objs.size + 1, s1.heap.objs.size] := fun b o look zz => by
          have bLt := Heap.lt_size look
          rcases List.mem_cons.mp zz with r | r
          · rw [r] at bLt
            exact Nat.lt_irrefl _ (Nat.lt_trans (Nat.lt_trans (Nat.lt_succ_self _) size3) bLt)
          · rcases List.mem_cons.mp r with r | r
            · rw [r] at bLt
              exact Nat.lt_irrefl _ (Nat.lt_trans (Nat.lt_succ_self _) bLt)
            · rw [List.mem_singleton.mp r] at bLt
              exact Nat.lt_irrefl _ bLt
        have J := inv_tab (more := more) (h' := s6.heap) (g' := s6.gens) (d' := s6.drawn) (t' := s6.toks) I1 hP (fun b o nb look => moved.heap b o (wrNew b o look) (old5 b o (keep3 b o nb look))) (by rw [← em]; exact moved.heap P _ (wrNew P _ PAt) (old5 P _ P3)) (AllBare.movedS (I1.bare.push bare) moved)
        rw [sh_eta s1 s6 moved.os] at J
        have len : placesOf zs k = (passing (isAt zs k) its.toArray.size 0).map fun i => ((i : Nat) : Int) := by
          unfold placesOf passing
          rw [List.drop_zero, List.size_toArray, lenI, lz]
        have vals : Vals ((placesOf zs k).map V.int) acc.toList := by
          rw [len, List.map_map]
          exact items_ints _ _ (by simpa using items.1) fun jj u hu => items.2 jj u (by simpa using hu)
        have small : ((placesOf zs k).map V.int).length ≤ sizeLine := by
          rw [len, List.length_map, List.length_map]
          omega
        refine ⟨.ref s6.heap.objs.size, upd (upd H1 P (.tbl (ps ++ more))) s6.heap.objs.size (.tup ((placesOf zs k).map V.int)), J.laid (t' := s6.toks) (fun b o look => Heap.get?_push_of_some _ look) (Nat.le_refl _) ⟨small, acc.toList, vals, ?_⟩, rfl,
          q _ _ ⟨⟨ps ++ more, upd_same, by rw [← em]; exact triples3⟩, fun b hb => upd_ne hb⟩ (J.hok.fresh (Nat.le_refl _))⟩
        exact ⟨_, Heap.get?_push_size _ rfl, rfl, _, rfl⟩
  cases hf : codeAmong gpos ps.toList with
  | none =>
    refine wpAny_genexprCodeX code (cd.code P2 triples) (cd.tab P2) hf fun c2 h3 tk ext ge lt isC _ isT _ => ?_
    obtain ⟨o1, v1, m1, m2, m3, m4, m5, m6, m7, m8, _, _, _, _, _, _, _, _, _, tr3, _⟩ := isC
    exact behind _ h3 tk _ ext isT.2 ⟨_, rfl⟩ tr3
  | some cv =>
    refine wpAny_genexprCode_hit code (cd.code P2 triples) hf ?_
    exact behind cv h2 s1.toks ps (Heap.ExtBut.refl _ _) P2 ⟨#[], by simp⟩ triples
end
end Rw
section
namespace Rw
open PySem L2
theorem cut_whole {xs : List V} {lo hi : Option Int} (h : HT.sIx xs.length 0 lo = 0 ∧ HT.sIx xs.length xs.length hi = xs.length) : cutV xs lo hi = xs := by
  unfold cutV
  rw [h.1, h.2, List.drop_zero, Nat.sub_zero, List.take_length]
section
variable {X : Cx}
def rSlB : V → Option Int → Option Int → Hp → VK → Prop := fun x lo hi H Q => ∃ (a : Addr) (xs : List V), x = .ref a ∧ H a = some (.tup xs) ∧ ∀ (r : Addr) (H' : Hp), Same H H' → H' r = some (.tup (cutV xs lo hi)) → (r = a ∨ H r = none) → Q (.ref r) H'
theorem sl_tupB : SlR X rSlB := by
  intro pins s σ H x v vl vu lo hi sl Q I rx hs pl pu h
  obtain ⟨a, xs, rfl, ha, q⟩ := h
  refine sl_tupA pins s σ H _ v vl vu lo hi sl Q I rx hs pl pu ⟨a, xs, rfl, SqT.of ha, fun hw => ?_, fun _ p hp => ?_⟩
  · exact q a H (Same.refl _) (by rw [cut_whole hw]; exact ha) (.inl rfl)
  · exact q p _ (same_new hp _) upd_same (.inr hp)
end
theorem cut_toT (xs : List V) (n : Nat) : cutV xs none (some (n : Int)) = xs.take n := by
  unfold cutV
  rw [HT.sIx_none, HT.sIx_nat, List.drop_zero, Nat.sub_zero]
  by_cases h : n ≤ xs.length
  · rw [Nat.min_eq_left h]
  · rw [Nat.min_eq_right (by omega), List.take_length, List.take_of_length_le (by omega)]
abbrev sHeld : Stmt := top 1
abbrev sWish : Stmt := top 2
abbrev sEntries : Stmt := top 3
abbrev sLawHeld : Stmt := top 11
def wordOf (p : Bool × Int) : Str := if p.1 then "in" else "out"
def heldD (st : List (Bool × Int)) (k : Nat) : PyData := .tuple (((stk [] (st.take k)).getD []).map PyData.int)
def wishD (p : Bool × Int) : PyData := if p.1 then .int p.2 else .none
/-- a value of the data d, new or old -/
def spHeld : Sp := fun vs H Q _ => ∃ (av : Addr → Prop) (v : V) (st : List (Bool × Int)) (k : Nat), vs = [v, .int (k : Nat)] ∧ Rp av H v (.tuple (st.map stepD)) ∧ WayOk st ∧ k ≤ st.length ∧ Gives (heldD st k) H Q
def spWish : Sp := fun vs H Q _ => ∃ (av : Addr → Prop) (v : V) (st : List (Bool × Int)) (k : Nat) (p : Bool × Int), vs = [v, .int (k : Nat)] ∧ Rp av H v (.tuple (st.map stepD)) ∧ st[k]? = some p ∧ Gives (wishD p) H Q
theorem stk_next {st : List (Bool × Int)} {i : Nat} {p : Bool × Int} (h : st[i]? = some p) : stk [] (st.take (i + 1)) = (stk [] (st.take i)).bind fun r => stk r [p] := by
  rw [List.take_add_one, h, stk_app]
  rfl
theorem stk_pre {st : List (Bool × Int)} (ok : WayOk st) (k : Nat) : ∃ rs, stk [] (st.take k) = some rs := by
  obtain ⟨rs, h⟩ := ok.runs
  have e : stk [] (st.take k ++ st.drop k) = some rs := by rw [List.take_append_drop]; exact h
  rw [stk_app] at e
  cases z : stk [] (st.take k) with
  | none =>
    rw [z] at e
    cases e
  | some r => exact ⟨r, rfl⟩
/-- a step of the way at its place -/
theorem step_at {av : Addr → Prop} {H : Hp} {xs : List V} {st : List (Bool × Int)} (hx : RpAll av H xs (st.map stepD)) {i : Nat} {x : V} (h : xs[i]? = some x) : ∃ (p : Bool × Int) (b : Addr), st[i]? = some p ∧ x = .ref b ∧ H b = some (.tup [.str (wordOf p), .int p.2]) := by
  obtain ⟨d, hd, r⟩ := hx.at h
  rw [List.getElem?_map] at hd
  cases e : st[i]? with
  | none =>
    rw [e] at hd
    cases hd
  | some p =>
    rw [e] at hd
    cases (Option.some.inj hd)
    obtain ⟨b, ys, rfl, _, hb, hy⟩ := r.get_tup
    cases hy with
    | cons r1 r2 =>
      cases r2 with
      | cons r2 r3 =>
        cases r3
        refine ⟨p, b, rfl, rfl, ?_⟩
        rw [hb, r1.get_str, r2.get_int]
        rfl
theorem in_word (p : Bool × Int) : decide (V.str (wordOf p) = V.str "in") = p.1 := by
  obtain ⟨b, r⟩ := p
  cases b
  · exact decide_eq_false fun z => absurd (V.str.inj z) (by show ¬ (("out" : Str) = "in"); decide +kernel)
  · exact decide_eq_true rfl
section
variable {P : Program} {w : World} {K : PySem.W.Frag} {mg : Str → Option Value} {base : Heap} {f : Addr} {fd : FuncData}
theorem scWish : FnScope ["way", "place", "word", "room"] ["way", "place"] (defScope sWish) := ⟨rfl, rfl, rfl, by decide +kernel, rfl, by decide +kernel, by decide +kernel⟩
theorem ok_wish (F : Fun K "wish" "wish" sWish f fd) : FnOk P w K mg base CX0 1 f fd ["way", "place"] spWish := by
  refine F.ok scWish (fun vs H Q E h => ?_) (fun cdv A outer s H vs Q E hr h => ?_)
  · obtain ⟨_, _, _, _, _, rfl, _⟩ := h
    rfl
  obtain ⟨av, v, st, k, p, rfl, hd, hp, q⟩ := h
  have nd := scWish.nd
  refine ⟨_, pss_cons (ps_asg (pe_ix ix_tup (pv 0) (pv 1) (fun _ _ => rfl)) (pg_tup rfl (pgs_cons (pg_name (i := 2) nd rfl (Or.inl rfl)) (pgs_cons (pg_name (i := 3) nd rfl (Or.inl rfl)) pgs_nil))))
    (pss_cons (ps_if (pt_cmpR op_eq (pv 2) pe_str (nomark _)) (pss_one (ps_ret (pv 3))) pss_nil) (pss_one (ps_ret pe_non))), ?_⟩
  obtain ⟨t, xs, rfl, _, ht, hx⟩ := hd.get_tup
  have hk : k < xs.length := by
    have := hx.len
    rw [List.length_map] at this
    have := (List.getElem?_eq_some_iff.mp hp).1
    omega
  have gx : xs[k]? = some xs[k] := List.getElem?_eq_getElem hk
  obtain ⟨p2, b, hp2, ex, hb⟩ := step_at hx gx
  rw [hp] at hp2
  cases hp2
  refine ⟨_, rfl, _, rfl, t, xs, _, _, rfl, rfl, SqT.of ht, atI_nat (gx.trans (by rw [ex])), b, _, rfl, SqT.of hb, rfl, _, _, rfl, _, _, rfl, rfl, ?_⟩
  refine ⟨_, rfl, rfl, _, rfl, ?_⟩
  by_cases c : p.1 = true
  · refine iteY ((in_word p).trans c) ?_
    have e : wishD p = .int p.2 := if_pos c
    rw [e] at q
    exact ⟨_, rfl, q _ _ (Same.refl _) (.int _)⟩
  · refine iteZ (fun z => c ((in_word p).symm.trans z)) ?_
    have e : wishD p = .none := if_neg c
    rw [e] at q
    exact q _ _ (Same.refl _) .non
end
set_option hygiene false
local macro_rules | `(tactic| walk_at "held body") => `(tactic| (
  obtain ⟨t, xs, rfl, _, ht, hx⟩ := hd.get_tup
  have lx := hx.len
  rw [List.length_map] at lx
  refine ⟨Nat.zero_le _, fun RL hRL => ?_⟩
  have s0 := same_new hRL (.lst [])
  refine ⟨_, rfl, _, rfl, (k : Int), rfl, t, xs, rfl, s0 _ _ ht, fun c1 H1 s1 hc1 _ => ?_⟩
  rw [cut_toT] at hc1
  have S1 := s0.trans s1
  have hRL1 := s1 _ _ upd_same
  generalize upd H RL (.lst []) = H0 at s0 s1 hRL1
  have hx1 := hx.mono (Ext.of_same S1)
  have ne1 : c1 ≠ RL := fun z => by
    rw [z, hRL1] at hc1
    cases hc1
  refine ⟨c1, rfl, ⟨_, SqT.of hc1⟩, for_it (walk_tup (K := K) (a := c1) (xs := xs.take k)) (fun i σ H' => ∃ (v3 v4 : Option V) (rs : List Int), σ = [some (.ref t), some (.int (k : Nat)), some (.ref RL), v3, v4] ∧ Same H H' ∧ H' c1 = some (.tup (xs.take k)) ∧ H' RL = some (.lst (rs.map V.int)) ∧ rs.length ≤ i ∧ stk [] (st.take i) = some rs) ⟨_, _, [], rfl, S1, hc1, hRL1, Nat.le_refl _, rfl⟩ ?_ ?_ ?_⟩
  · rintro i σ H' _ ⟨_, _, _, rfl, _, h2, _⟩
    exact SqT.of h2
  · rintro i x σ H2 H3 hi ⟨v3, v4, rs, rfl, s2, h2, h3, lr, hk2⟩ ⟨rfl, hxi⟩
    have hik : i < k := by
      rw [List.length_take] at hi
      omega
    rw [List.getElem?_take_of_lt hik] at hxi
    obtain ⟨p, b, hp, rfl, hb⟩ := step_at (hx.mono (Ext.of_same s2)) hxi
    refine ⟨b, _, rfl, SqT.of hb, rfl, _, _, rfl, _, _, rfl, rfl, ?_⟩
    refine ⟨_, rfl, rfl, _, rfl, ?_⟩
    have nx := stk_next hp
    rw [hk2] at nx
    have small : rs.length ≤ 28 := by
      have := ok.len
      omega
    obtain ⟨d, r⟩ := p
    cases d
    · refine iteZ (fun z => Bool.noConfusion (show false = true from (in_word (false, r)).symm.trans z)) ?_
      have ner : rs ≠ [] := fun z => by
        obtain ⟨r2, e2⟩ := stk_pre ok (i + 1)
        rw [nx] at e2
        subst z
        cases e2
      have nx2 : stk [] (st.take (i + 1)) = some rs.dropLast := nx.trans (if_neg ner)
      obtain ⟨c9, hc9, hdl⟩ := last_ints ner
      refine ⟨_, rfl, .inl ⟨rfl, _, SqL.of h3⟩, RL, _, _, rfl, rfl, h3, hc9, ?_⟩
      rw [hdl]
      exact ⟨_, _, rs.dropLast, rfl, same_upd s2 hRL _, by rw [upd_ne ne1]; exact h2, upd_same, by rw [List.length_dropLast]; omega, nx2⟩
    · refine iteY (in_word (true, r)) ?_
      refine ⟨_, rfl, .inl ⟨rfl, _, SqL.of h3⟩, _, rfl, RL, _, _, rfl, rfl, h3, szlt (by rw [List.length_map]; omega), ?_⟩
      refine ⟨_, _, rs ++ [r], rfl, same_upd s2 hRL _, by rw [upd_ne ne1]; exact h2, ?_, by rw [List.length_append, List.length_singleton]; omega, nx⟩
      rw [upd_same, List.map_append]
      rfl
  · rintro σ H2 ⟨v3, v4, rs, rfl, s2, h2, h3, lr, hk2⟩
    have ek : (xs.take k).length = k := by
      rw [List.length_take]
      omega
    rw [ek] at hk2
    refine ⟨_, rfl, RL, _, rfl, .inl ⟨SqL.of h3, fun p hp => ?_⟩⟩
    have s5 := same_new hp (.tup (rs.map V.int))
    have eD : heldD st k = .tuple (rs.map PyData.int) := by
      unfold heldD
      rw [hk2]
      rfl
    rw [eD] at q
    refine q _ _ (s2.trans s5) (.tup ?_ upd_same (RpAll.ints rs))
    rintro ⟨o, ho⟩
    rw [s2 _ _ ho] at hp
    cases hp))
section
variable {P : Program} {w : World} {K : PySem.W.Frag} {mg : Str → Option Value} {base : Heap} {f : Addr} {fd : FuncData}
theorem scHeld : FnScope ["way", "place", "rooms", "word", "room"] ["way", "place"] (defScope sHeld) := ⟨rfl, rfl, rfl, by decide +kernel, rfl, by decide +kernel, by decide +kernel⟩
theorem ok_held (F : Fun K "held" "held" sHeld f fd) (B : Blt mg) : FnOk P w K mg base CX0 1 f fd ["way", "place"] spHeld := by
  refine F.ok scHeld (fun vs H Q E h => ?_) (fun cdv A outer s H vs Q E hr h => ?_)
  · obtain ⟨_, _, _, _, rfl, _⟩ := h
    rfl
  obtain ⟨av, v, st, k, rfl, hd, ok, hk, q⟩ := h
  have nd := scHeld.nd
  refine ⟨_, pss_cons (ps_set (i := 2) nd rfl (Or.inl rfl) (pe_lst pa_nil))
    (pss_cons (ps_for PassesOwn.never rfl (pi_tup (pe_slice sl_tupB (pv 0) po_none (po_some (pv 1)))) (pg_tup rfl (pgs_cons (pg_name (i := 3) nd rfl (Or.inl rfl)) (pgs_cons (pg_name (i := 4) nd rfl (Or.inl rfl)) pgs_nil)))
      (pss_one (ps_if (pt_cmpR op_eq (pv 3) pe_str (nomark _)) (pss_one (ps_expr (pe_bm PySem.F.plainAttrs_list PySem.F.slot_list_append PySem.F.type_list_append mt_append (pv 2) (pa_cons (pv 4) pa_nil)))) (pss_one (ps_expr (pe_bm0 PySem.F.plainAttrs_list PySem.F.slot_list_pop PySem.F.type_list_pop mt_pop (pv 2)))))))
    (pss_one (ps_ret (pe_callTy call_tuple_of (by rfl) B.tup (by decide +kernel) (pa_cons (pv 2) pa_nil))))), ?_⟩
  walk_at "held body"
theorem scLawHeld : FnScope ["way", "place", "inside", "word", "room"] ["way", "place"] (defScope sLawHeld) := ⟨rfl, rfl, rfl, by decide +kernel, rfl, by decide +kernel, by decide +kernel⟩
theorem ok_lawHeld (F : Fun K "_law_held" "_law_held" sLawHeld f fd) (B : Blt mg) : FnOk P w K mg base CX0 1 f fd ["way", "place"] spHeld := by
  refine F.ok scLawHeld (fun vs H Q E h => ?_) (fun cdv A outer s H vs Q E hr h => ?_)
  · obtain ⟨_, _, _, _, rfl, _⟩ := h
    rfl
  obtain ⟨av, v, st, k, rfl, hd, ok, hk, q⟩ := h
  have nd := scLawHeld.nd
  refine ⟨_, pss_cons (ps_set (i := 2) nd rfl (Or.inl rfl) (pe_lst pa_nil))
    (pss_cons (ps_for PassesOwn.never rfl (pi_tup (pe_slice sl_tupB (pv 0) po_none (po_some (pv 1)))) (pg_tup rfl (pgs_cons (pg_name (i := 3) nd rfl (Or.inl rfl)) (pgs_cons (pg_name (i := 4) nd rfl (Or.inl rfl)) pgs_nil)))
      (pss_one (ps_if (pt_cmpR op_eq (pv 3) pe_str (nomark _)) (pss_one (ps_expr (pe_bm PySem.F.plainAttrs_list PySem.F.slot_list_append PySem.F.type_list_append mt_append (pv 2) (pa_cons (pv 4) pa_nil)))) (pss_one (ps_expr (pe_bm0 PySem.F.plainAttrs_list PySem.F.slot_list_pop PySem.F.type_list_pop mt_pop (pv 2)))))))
    (pss_one (ps_ret (pe_callTy call_tuple_of (by rfl) B.tup (by decide +kernel) (pa_cons (pv 2) pa_nil))))), ?_⟩
  walk_at "held body"
end
end Rw
end
set_option maxHeartbeats 2000000
namespace Rw
open PySem L2 GxR
def spEntries (T : Addr) : Sp := fun vs H Q _ => ∃ (av : Addr → Prop) (v : V) (st : List (Bool × Int)), vs = [v] ∧ Rp av H v (.tuple (st.map stepD)) ∧ TabG H T ∧ ∀ (H2 : Hp) (p : Addr), Tabbed T H H2 → H2 p = none → Q (.ref p) (upd H2 p (.tup ((placesOf (st.map wordOf) "in").map V.int)))
theorem pairs_of {av : Addr → Prop} {H : Hp} {xs : List V} {st : List (Bool × Int)} (hx : RpAll av H xs (st.map stepD)) : PairsAt H xs (st.map wordOf) := by
  refine ⟨?_, fun i x hi => ?_⟩
  · have := hx.len
    rw [List.length_map] at this ⊢
    exact this.symm
  · obtain ⟨p, b, hp, ex, hb⟩ := step_at hx hi
    refine ⟨b, wordOf p, .int p.2, ex, ?_, hb⟩
    rw [List.getElem?_map, hp]
    rfl
section
variable {P : Program} {w : World} {K : PySem.W.Frag} {mg : Str → Option Value} {base : Heap} {f c T : Addr} {oc kV doc pm ct : Value} {od an : Option Addr} {osl : Array (Option Value)}
theorem scEntries : FnScope ["way"] ["way"] (defScope sEntries) := ⟨rfl, rfl, rfl, by decide +kernel, rfl, by decide +kernel, by decide +kernel⟩
theorem ok_entries (look : K.lookup f = some ⟨oc, od, .func (PySem.W.fnOf "entries" "entries" (defArgs sEntries) (defBody sEntries) (defScope sEntries) .none kV doc pm an (.ref c) ct), osl⟩) (code : PySem.W.codeIn K (.ref c) "entries" = true) (B : Blt mg) (TB : TabB base mg c T) :
    FnOk P w K mg base CX0 1 f (PySem.W.fnOf "entries" "entries" (defArgs sEntries) (defBody sEntries) (defScope sEntries) .none kV doc pm an (.ref c) ct) ["way"] (spEntries T) := by
  refine fn_of look code scEntries (fun vs H Q E h => ?_) fun A outer s H vs Q E hr h => ?_
  · obtain ⟨_, _, _, rfl, _⟩ := h
    rfl
  obtain ⟨av, v, st, rfl, hd, hT, q⟩ := h
  have hdp : (A.deeper (PyProof.Rows.envOfC "entries" (defScope sEntries) s.heap.objs.size f (.ref c))).depth + 5 < recursionLimit := by
    have := hr.dp
    omega
  have run : PSs (cxOf CX0 P w K mg base ["way"] "entries" (defScope sEntries) f (.ref c) A outer s H E).nox (defBody sEntries) _ := pss_one (ps_ret (pe_tupG (x := "place") (y := "word") (z := "_") (k := "in") (c := c) (P := T) hdp hr.hd (by rfl) B.tup (by rfl) B.enu TB rfl
    ⟨rfl, rfl, by decide +kernel, rfl, rfl, rfl, rfl, by
      intro n hn e
      simp only [List.mem_cons, List.not_mem_nil, or_false] at hn
      rcases hn with r | r | r | r <;> (rw [r] at e; cases e)⟩ (by decide +kernel) (by decide +kernel) (by decide +kernel) (by decide +kernel) (by decide +kernel) (pa_cons (pv 0) pa_nil) (by rfl) (fun _ => rfl) (by rfl)))
  refine ⟨_, run.nox, ?_⟩
  obtain ⟨t, xs, rfl, _, ht, hx⟩ := hd.get_tup
  exact ⟨_, rfl, t, xs, st.map wordOf, rfl, ht, pairs_of hx, hT, fun H2 p tb hp => q H2 p tb hp⟩
end
end Rw
namespace Rw
open PySem L2 PySem.Spec PyProof.Rows
section
variable {P : Program} {w : World} {K : PySem.W.Frag} {mg : Str → Option Value} {base : Heap}
/-- a def called from one place A only (what guards A bears is known there) -/
theorem at_caller {x : Str} {st : Stmt} {f : Addr} {fd : FuncData} {N ps : List Str} {Ao : Around} {fr : List Env} {s0 : Shared} {Hq : Hp} {gs : Args} {us : List Value} {vs : List V} {Q : VK}
    (F : Fun K x x st f fd) (S : FnScope N ps (defScope st)) (room : Room 1 Ao) (en : Env0 P w K mg base Ao fr s0 Hq) (bt : BindsTo s0 fd gs (ps.zip us)) (rv : Vals vs us) (hl : vs.length = ps.length)
    (go : ∀ cd : Value, ∃ t, PSs (cxOf CX0 P w K mg base N x (defScope st) f cd Ao fr s0 Hq E0).nox (defBody st) t ∧ t { nx := fun _ H2 => Q V.non H2, rt := Q } (L2.start N vs) Hq) :
    codeAny (model P w) Ao (.call (.ref f) gs) (CR CX0 fr P w Hq s0 Q E0) s0 := by
  obtain ⟨c1, c2, c3, c4, c5, c6, c7, c8, c9, rfl, look, code⟩ := F.ex
  have kin : K.In s0.heap := en.mod.kin.keeps fun z o e => (en.bs z o e).1
  refine codeAny_call_function room.depth (kin _ _ look) rfl S.co S.gen rfl (PySem.W.codeRec_of kin code) (bt _ _ _ _ ?_)
  refine wpAny_newFunctionEnv_cells S.kind (fun y m => ?_) fun en1 same s1 there => ?_
  · have m1 := (List.of_mem_zip (show (y.1, y.2) ∈ ps.zip us from m)).1
    exact (S.par y.1 m1).elim .inl fun z => .inr ⟨z, PySem.W.cellsFrom_some _ _ _ (.inl z)⟩
  subst same
  refine ⟨(en.mod.nolimit.keeps fun z o e => (en.bs z o e).1).keeps there.toInCall.keep, codeAny_func ?_⟩
  obtain ⟨t, run, q⟩ := go c7
  have inv := inv_start (CX := CX0) (E := E0) S room.hd en hl rv there
  refine wpAny_mono (run.nox.run [] s1 (L2.start N vs) Hq _ inv q) (fun fl s2 h => ?_) fun _ _ h => h
  cases fl with
  | ret u =>
    obtain ⟨v, σ2, H2, J, r2, q2⟩ := h
    exact ⟨v, H2, J.os, J.bare, J.base, J.hok, r2, q2⟩
  | next =>
    obtain ⟨σ2, H2, J, q2⟩ := h
    exact ⟨V.non, H2, J.os, J.bare, J.base, J.hok, rfl, q2⟩
  | brk => exact absurd h fun ⟨_, _, _, z⟩ => z
  | cont => exact absurd h fun ⟨_, _, _, z⟩ => z
end
end Rw
namespace Rw
open PySem L2 PySem.Spec PyProof.Rows GxR
/-- the law's own call, from a heap that holds the empty table of one def at T -/
def RunsT (P : Program) (w : World) (K : PySem.W.Frag) (mg : Str → Option Value) (fa c T a : Addr) (ns : List Int) : Prop :=
  ∀ (base : Heap) (H : Hp) (s0 : Shared), Env0 P w K mg base callerA [] s0 H → SqL K H a (ns.map V.int) → H T = some (.tbl #[]) → TabB base mg c T → codeAny (model P w) callerA (.call (.ref fa) ⟨[.ref a], []⟩) (CR CX0 [] P w H s0 (fun v _ => v = V.bl true) E0) s0
section
variable {P : Program} {w : World} {K : PySem.W.Frag} {mg mb : Str → Option Value} {fa a c T : Addr} {s1 : Shared} {us : List Value} {ns : List Int}
theorem from_heapT (KX : K.In s1.heap) (gN : s1.heap.Ns mainGlobals mg) (bN : s1.heap.Ns builtinsNs mb) (bB : ∀ y : Str, y ≠ "__name__" → mb y = bootBuiltins y) (nl : s1.heap.NoLimit) (ng : s1.gens = #[])
    (tab : s1.heap.get? T = some { cls := .none, data := .fields #[] }) (noT : K.lookup T = none) (hd : PySem.W.CodeHd s1.heap c T) (bm : ∃ (m : Addr) (ob : Obj), mg "__builtins__" = some (.ref m) ∧ m ≠ builtinsNs ∧ s1.heap.get? m = some ob ∧ ob.cls = .type "module" ∧ ob.dict = some builtinsNs ∧ ob.data = .plain)
    (scr : s1.heap.get? a = some { cls := .type "list", data := .seq us.toArray }) (F : RunsT P w K mg fa c T a ns) {H : Hp} (atT : H T = some (.tbl #[])) (only : ∀ b, H b = none ∨ (b = a ∧ K.lookup a = none ∧ ∃ o xs, H b = some (.frz o (.lst xs))) ∨ b = T) (hS : SqL K H a (ns.map V.int)) (ok : HOk P w H s1.heap) :
    codeAny (model P w) callerA (.call (.ref fa) ⟨[.ref a], []⟩) (fun r s2 => r = .ok (.ret (.bool true)) ∧ OldK s1.heap s2.heap ∧ s2.os = s1.os ∧ AllBare s2.gens) s1 := by
  have other : ∀ {b : Addr} {o : Obj}, s1.heap.get? b = some o → (∀ vs n, o.data ≠ .seq vs n) → o.data ≠ .fields #[] → H b = none := fun {b o} e n1 n2 => by
    rcases only b with z | z | z
    · exact z
    · rw [z.1, scr] at e
      rw [← Option.some.inj e] at n1
      exact absurd rfl (n1 _ _)
    · rw [z, tab] at e
      rw [← Option.some.inj e] at n2
      exact absurd rfl n2
  have ns_hid : ∀ {b : Addr} {m : Str → Option Value}, s1.heap.Ns b m → (hidT s1.heap H).Ns b m := fun {b m} h => by
    obtain ⟨o, es, n, e, d, r⟩ := h
    exact ⟨o, es, n, hidT_get e (other e (fun vs k z => by rw [d] at z; cases z) fun z => by rw [d] at z; cases z), d, r⟩
  have k_hid : K.In (hidT s1.heap H) := fun b o e => hidT_get (KX b o e) (by
    rcases only b with z | z | z
    · exact z
    · rw [z.1, z.2.1] at e
      cases e
    · rw [z, noT] at e
      cases e)
  obtain ⟨mc, n1, n2⟩ := nl
  have M : Mod K mg (hidT s1.heap H) := ⟨k_hid, ns_hid gN, ⟨mb, ns_hid bN, bB⟩, ⟨mc, ns_hid n1, n2⟩⟩
  have en : Env0 P w K mg (hidT s1.heap H) callerA [] s1 H := { frames := rfl, mod := M, bs := fun b o e => of_hidT e, bsz := Nat.le_of_eq (hidT_size _ _), funs := trivial, frf := fun b hb => absurd (show b ∈ ([] : List Addr) from hb) List.not_mem_nil, hok := ok, bare := .of_eq ng }
  have TB : TabB (hidT s1.heap H) mg c T := by
    have mainT : mainGlobals ≠ T := fun z => by
      obtain ⟨o, es, n, e, d, _⟩ := gN
      rw [z, tab] at e
      rw [← Option.some.inj e] at d
      cases d
    refine ⟨?_, ?_, mainT⟩
    · obtain ⟨o, us2, x1, x2, x3, x4, x5, x6, x7, e1, r1, r2, rest⟩ := hd
      refine ⟨o, us2, x1, x2, x3, x4, x5, x6, x7, hidT_get e1 (other e1 (fun vs n z => ?_) fun z => ?_), r1, r2, rest⟩
      · rw [r2] at z
        cases z
      · rw [r2] at z
        cases z
        obtain ⟨z2, _⟩ := rest
        simp at z2
    · obtain ⟨m, ob, b1, b2, b3, b4, b5, b6⟩ := bm
      refine ⟨m, ob, b1, b2, fun z => ?_, fun z => ?_, hidT_get b3 (other b3 (fun vs n z => ?_) fun z => ?_), b4, b5, b6⟩
      · obtain ⟨o, es, n, e, d, _⟩ := gN
        rw [← z, b3] at e
        cases e
        rw [b6] at d
        cases d
      · rw [z, tab] at b3
        cases b3
        cases b6
      · rw [b6] at z
        cases z
      · rw [b6] at z
        cases z
  refine codeAny_mono (F _ H s1 en hS atT TB) fun r s2 h => ?_
  cases r with
  | error e => exact (show False from h).elim
  | ok fl =>
    cases fl with
    | next => exact (show False from h).elim
    | brk => exact (show False from h).elim
    | cont => exact (show False from h).elim
    | ret u =>
      obtain ⟨v, H2, os, bare, un, ok2, rv, q⟩ := h
      rw [show v = V.bl true from q] at rv
      have eu : u = Value.bool true := rv
      obtain ⟨more, zt⟩ := un.tbls T #[] atT
      have now := ok2 T _ zt
      have keep : ∀ b o, b ≠ T → s1.heap.get? b = some o → s2.heap.get? b = some o := fun b o nb e => by
        rcases only b with z | ⟨_, _, ob, xs, z⟩ | z
        · exact un.keep b o e z (fun y => absurd (show b ∈ ([] : List Addr) from y) List.not_mem_nil) List.not_mem_nil
        · have y1 := (ok b _ z).1
          have y2 := (ok2 b _ (un.frzs b ob _ z)).1
          rw [e] at y1
          rw [← Option.some.inj y1] at y2
          exact y2
        · exact absurd z nb
      refine ⟨by rw [eu], ⟨fun b o e => ?_, fun b o e => ?_⟩, os, bare⟩
      · by_cases nb : b = T
        · rw [nb] at e ⊢
          rw [tab] at e
          cases e
          exact .inr (.inl ⟨(hd.tab tab).isCodeTable, rfl, #[], #[] ++ more, rfl, by rw [Array.empty_append]; exact now⟩)
        · exact .inl (keep b o nb e)
      · by_cases nb : b = T
        · rw [nb]
          exact ⟨_, now⟩
        · exact ⟨o, keep b o nb e⟩
theorem law_runsT (KX : K.In s1.heap) (gN : s1.heap.Ns mainGlobals mg) (bN : s1.heap.Ns builtinsNs mb) (bB : ∀ y : Str, y ≠ "__name__" → mb y = bootBuiltins y) (nl : s1.heap.NoLimit) (ng : s1.gens = #[])
    (tab : s1.heap.get? T = some { cls := .none, data := .fields #[] }) (noT : K.lookup T = none) (hd : PySem.W.CodeHd s1.heap c T) (bm : ∃ (m : Addr) (ob : Obj), mg "__builtins__" = some (.ref m) ∧ m ≠ builtinsNs ∧ s1.heap.get? m = some ob ∧ ob.cls = .type "module" ∧ ob.dict = some builtinsNs ∧ ob.data = .plain)
    (scr : s1.heap.get? a = some { cls := .type "list", data := .seq us.toArray }) (isInts : IntsAre us ns) (hl : ns.length ≤ sizeLine) (F : RunsT P w K mg fa c T a ns) :
    codeAny (model P w) callerA (.call (.ref fa) ⟨[.ref a], []⟩) (fun r s2 => r = .ok (.ret (.bool true)) ∧ OldK s1.heap s2.heap ∧ s2.os = s1.os ∧ AllBare s2.gens) s1 := by
  have rel := vals_ints isInts
  have len := isInts.length
  have aT : a ≠ T := fun z => by
    rw [z, tab] at scr
    cases scr
  cases e : K.lookup a with
  | some o =>
    have e2 := KX a o e
    rw [scr] at e2
    have e3 := Option.some.inj e2
    refine from_heapT KX gN bN bB nl ng tab noT hd bm scr F (H := fun b => if b = T then some (.tbl #[]) else none) (if_pos rfl) (fun b => ?_) (.inr ⟨o, us.toArray, 0, e, ?_, ?_, ?_, ?_, by simpa using rel⟩) fun b u z => ?_
    · by_cases q : b = T
      · exact .inr (.inr q)
      · exact .inl (if_neg q)
    · rw [← e3]
    · rw [← e3]
    · rw [← e3]
    · rw [List.size_toArray, len]
      exact hl
    · by_cases q : b = T
      · have z := (if_pos q).symm.trans z
        cases z
        rw [q]
        exact tab
      · have z := (if_neg q).symm.trans z
        cases z
  | none =>
    refine from_heapT KX gN bN bB nl ng tab noT hd bm scr F (H := fun b => if b = a then some (.frz { cls := .type "list", data := .seq us.toArray } (.lst (ns.map V.int))) else if b = T then some (.tbl #[]) else none) ((if_neg aT.symm).trans (if_pos rfl)) (fun b => ?_) (.inl (.inr ⟨_, if_pos rfl⟩)) fun b u z => ?_
    · by_cases q : b = a
      · exact .inr (.inl ⟨q, e, _, _, if_pos q⟩)
      · by_cases q2 : b = T
        · exact .inr (.inr q2)
        · exact .inl ((if_neg q).trans (if_neg q2))
    · by_cases q : b = a
      · have z := (if_pos q).symm.trans z
        cases z
        rw [q]
        exact ⟨scr, by rw [List.length_map]; exact hl, us, _, rel, scr⟩
      · have z := (if_neg q).symm.trans z
        by_cases q2 : b = T
        · have z := (if_pos q2).symm.trans z
          cases z
          rw [q2]
          exact tab
        · have z := (if_neg q2).symm.trans z
          cases z
end
/-- what k_head leaves; cT: the code object of a def named x, and its table -/
theorem walksT {l : PySem.W.OpenLaw} {n : Nat} {q : Program} {loose : List Str} {XP : (Str → Option Value) → Heap → Prop} {YP : World → Heap → Prop} {d : DefRec} {K : Params → PySem.W.Frag} {x : Str}
    (hn : l.most = some n) (small : n ≤ sizeLine) (hdf : d.params.defaults = []) (named : ((recsOf q).any fun e => e.name == x) = true) (hY : ∀ (w : World) (h : Heap), YP w h → (K w.params).In h)
    (F : ∀ (w : World) (mg : Str → Option Value) (fa : Addr) (h : Heap), (K w.params).In h → h.Ns mainGlobals mg → mg d.name = some (.ref fa) → ∃ (f c T : Addr) (o : Obj) (fd : FuncData) (e : Value) (dd : Option Addr) (vs : Array Value) (sl : Array (Option Value)),
      mg x = some (.ref f) ∧ (K w.params).lookup f = some o ∧ o.data = .func fd ∧ fd.code = .ref c ∧ (K w.params).lookup c = some ⟨e, dd, .fields vs, sl⟩ ∧ vs[11]? = some (.ref T) ∧ (K w.params).lookup T = none ∧
      ∀ (a : Addr) (ns : List Int), ns.length ≤ n → RunsT l.prog w (K w.params) mg fa c T a ns) :
    PySem.W.WalkO q loose XP YP l.row.toRowW d [] (fun g vs => PySem.call g vs) := by
  refine Att.attach_call hn hdf fun w s₀ s1 mg mb fa o pm cd doc a us ns G Y look dat code glob scr isInts len gens => ?_
  have kin := hY w _ Y
  obtain ⟨f, c, T, of, fd, e, dd, vs, sl, k0, k1, k2, k3, k4, k5, k6, run⟩ := F w mg fa _ kin G.T.g glob
  obtain ⟨dx, mem, nameB⟩ := List.any_eq_true.mp named
  have nameE : dx.name = x := beq_iff_eq.mp nameB
  obtain ⟨f2, o2, fd2, c2, T2, h1, h2, h3, h4, h5, h6⟩ := G.T.tab dx mem
  rw [nameE, k0] at h1
  cases h1
  rw [kin _ _ k1] at h2
  cases h2
  rw [k2] at h3
  cases h3
  rw [k3] at h4
  cases h4
  have hdT := PySem.W.CodeHd.of h5 h6
  obtain ⟨⟨oc, vc, e1, _, e3, e4⟩, tabT⟩ := h6
  rw [kin _ _ k4] at e1
  cases e1
  cases e3
  rw [k5] at e4
  cases e4
  exact law_runsT kin G.T.g G.T.b G.T.builtins G.T.nolimit gens tabT k6 hdT G.T.bmain scr isInts (Nat.le_trans len small) (run a ns len)
end Rw
set_option maxHeartbeats 2000000
namespace Rw
open PySem L2 PySem.Spec PyProof.Rows GxR
abbrev sLaw : Stmt := top 12
section
variable {X : Cx}
def rReprT : List V → Hp → VK → Prop := fun xs H Q => ∃ (av : Addr → Prop) (v : V) (ds : List PyData), xs = [v] ∧ Rp av H v (.tuple ds) ∧ (PyData.tuple ds).showable = true ∧ (PyData.tuple ds).hasDict = false ∧ (PyData.tuple ds).shown.length ≤ sizeLine ∧ (PyData.tuple ds).depth ≤ 100 ∧ Q (.str (PyData.tuple ds).shown) H
theorem call_reprT (hg : X.A.guards = some []) (hu : X.A.units + 102 < cLine) : CallR X (.builtin "repr") rReprT := by
  intro pins s σ H xs us Q I r h
  obtain ⟨av, v, ds, rfl, rp, hs, nd, hz, hd, q⟩ := h
  obtain ⟨u, rfl, r1⟩ := vals1 r
  obtain ⟨as, rd, _⟩ := rp.reads I _ v u r1
  cases rd with
  | tuple h1 h2 h3 h4 => exact repr_of_reads' (.tuple h1 h2 h3 h4) hs (fun z => by rw [nd] at z; cases z) hg (by omega) (fun _ _ e => e) (fun h' u tk hk2 => ⟨.str _, H, I.kept hk2, ⟨_, rfl⟩, q⟩) hz
end
theorem way_nc {st : List (Bool × Int)} (ok : WayOk st) : Nc 2 (.tuple (st.map stepD)) ∧ (PyData.tuple (st.map stepD)).weight ≤ 5000 ∧ (PyData.tuple (st.map stepD)).hasDict = false := by
  have each : ∀ p ∈ st, Nc 1 (stepD p) ∧ (stepD p).weight ≤ 142 := fun p hp => by
    obtain ⟨b, r⟩ := p
    have hr := ok.rooms _ hp
    cases b
    · exact pair_ok z_out hr
    · exact pair_ok z_in hr
  refine ⟨Nc.tup (NcAll.iff.mpr fun d hd => ?_), ?_, ?_⟩
  · obtain ⟨p, hp, rfl⟩ := List.mem_map.mp hd
    exact (each p hp).1
  · have w : ∀ l : List (Bool × Int), (∀ p ∈ l, (stepD p).weight ≤ 142) → PyData.weightAll (l.map stepD) ≤ l.length * 143 := by
      intro l
      induction l with
      | nil => intro _; exact Nat.le_refl _
      | cons p l ih =>
        intro h
        have h1 := h p List.mem_cons_self
        have h2 := ih fun q hq => h q (List.mem_cons_of_mem _ hq)
        rw [List.map_cons, PyData.weightAll, List.length_cons]
        omega
    have := w st fun p hp => (each p hp).2
    have := ok.len
    rw [PyData.weight]
    omega
  · have h : ∀ l : List (Bool × Int), PyData.hasDictAll (l.map stepD) = false := by
      intro l
      induction l with
      | nil => rfl
      | cons p l ih =>
        rw [List.map_cons, PyData.hasDictAll, ih]
        rfl
    exact h st
/-! ### the heap within the law -/
theorem TabG.off {dk gl T : Addr} {H : Hp} (D : DeckAt dk gl H) (t : TabG H T) : ¬ avD dk gl T := by
  obtain ⟨ps, hp, _⟩ := t
  obtain ⟨g, s, k, h1, h2, _⟩ := D.ex
  rintro (e | e)
  · rw [e, h1] at hp
    cases hp
  · rw [e, h2] at hp
    cases hp
theorem TabG.ext {dk gl T : Addr} {H H2 : Hp} (t : TabG H T) (D : DeckAt dk gl H) (e : Ext (avD dk gl) H H2) : TabG H2 T := by
  have n := TabG.off D t
  obtain ⟨ps, hp, r⟩ := t
  exact ⟨ps, e _ _ n hp, r⟩
theorem TabG.same {T : Addr} {H H2 : Hp} (t : TabG H T) (e : Same H H2) : TabG H2 T := by
  obtain ⟨ps, hp, r⟩ := t
  exact ⟨ps, e _ _ hp, r⟩
theorem DeckAt.tab {dk gl T : Addr} {H H2 : Hp} (D : DeckAt dk gl H) (t : TabG H T) (e : Tabbed T H H2) : DeckAt dk gl H2 := by
  have n := TabG.off D t
  obtain ⟨g, s, k, h1, h2, h3⟩ := D.ex
  exact ⟨g, s, k, (e.2 _ fun z => n (.inl z.symm)).trans h1, (e.2 _ fun z => n (.inr z.symm)).trans h2, h3⟩
/-- what stands: the deck, the table, the way (no object of which is the deck's or the table) -/
structure Stands (dk gl T : Addr) (v : V) (st : List (Bool × Int)) (H : Hp) : Prop where
  de : DeckAt dk gl H
  tb : TabG H T
  wy : Rp (fun b => avD dk gl b ∨ b = T) H v (.tuple (st.map stepD))
section
variable {dk gl T : Addr} {v : V} {st : List (Bool × Int)} {H H2 : Hp}
theorem Stands.same (s : Stands dk gl T v st H) (e : Same H H2) : Stands dk gl T v st H2 := ⟨s.de.same e, TabG.same s.tb e, s.wy.mono (Ext.of_same e)⟩
theorem Stands.tab (s : Stands dk gl T v st H) (e : Tabbed T H H2) : Stands dk gl T v st H2 := ⟨s.de.tab s.tb e, e.1, s.wy.mono fun b o n h => (e.2 b fun z => n (.inr z)).trans h⟩
end
theorem Rp.tabbed {T : Addr} {H H2 : Hp} {av : Addr → Prop} {v : V} {d : PyData} (r : Rp av H v d) (t : av T) (e : Tabbed T H H2) : Rp av H2 v d := r.mono fun b o n h => (e.2 b fun z => n (z ▸ t)).trans h
def gHeld {α : Type} : List α → List α → List α
  | [], [a, b] => [b, a]
  | _, _ => []
def gOne {α : Type} : List α → List α → List α
  | [], [a] => [a]
  | _, _ => []
structure KD (P : Program) (w : World) (K : PySem.W.Frag) (mg : Str → Option Value) (base : Heap) (x : Str) (ps ks : List Str) (k : Nat) (sp : Sp) (g : ∀ {α : Type}, List α → List α → List α) : Prop where
  ex : ∃ (f : Addr) (fd : FuncData), FnOk P w K mg base CX0 k f fd ps sp ∧ mg x = some (.ref f) ∧ PySem.W.keepIn K (.ref f) = true ∧ KBinds K fd ps ks g g
theorem kb_two {K : PySem.W.Frag} {fd : FuncData} {p1 p2 : Str} (h : ∀ (s : Shared) (a b : Value), BindsTo s fd ⟨[], [(p2, a), (p1, b)]⟩ [(p1, b), (p2, a)]) : KBinds K fd [p1, p2] [p2, p1] gHeld gHeld := by
  refine ⟨fun s us ws _ hl => ?_, fun {vs us zs ws} r1 r2 => ?_⟩
  · match us, ws, hl with
    | [], [a, b], _ => exact h s a b
  · cases r1 with
    | cons _ _ => exact .nil
    | nil =>
      cases r2 with
      | nil => exact .nil
      | cons a r =>
        cases r with
        | nil => exact .nil
        | cons b r =>
          cases r with
          | nil => exact .cons b (.cons a .nil)
          | cons _ _ => exact .nil
theorem kb_one {K : PySem.W.Frag} {fd : FuncData} {p1 : Str} (h : ∀ (s : Shared) (a : Value), BindsTo s fd ⟨[], [(p1, a)]⟩ [(p1, a)]) : KBinds K fd [p1] [p1] gOne gOne := by
  refine ⟨fun s us ws _ hl => ?_, fun {vs us zs ws} r1 r2 => ?_⟩
  · match us, ws, hl with
    | [], [a], _ => exact h s a
  · cases r1 with
    | cons _ _ => exact .nil
    | nil =>
      cases r2 with
      | nil => exact .nil
      | cons a r =>
        cases r with
        | nil => exact .cons a .nil
        | cons b r => exact .nil
end Rw
section
set_option maxHeartbeats 2000000
namespace Rw
open PySem L2 PyProof.Rows GxR
theorem small_ints (ns : List Int) : plainT (.tuple (ns.map PyData.int)) = true ∧ (PyData.tuple (ns.map PyData.int)).depth < 2 := by
  have h1 : ∀ l : List Int, plainAll (l.map PyData.int) = true := by
    intro l
    induction l with
    | nil => rfl
    | cons a l ih =>
      rw [List.map_cons, plainAll, ih]
      rfl
  have h2 : ∀ l : List Int, PyData.depthAll (l.map PyData.int) = 0 := by
    intro l
    induction l with
    | nil => rfl
    | cons a l ih =>
      rw [List.map_cons, PyData.depthAll, ih]
      rfl
  refine ⟨h1 ns, ?_⟩
  rw [PyData.depth, h2]
  decide
theorem small_wish (p : Bool × Int) : plainT (wishD p) = true ∧ (wishD p).depth < 2 := by
  unfold wishD
  split
  · exact ⟨rfl, by rw [PyData.depth]; decide⟩
  · exact ⟨rfl, by rw [PyData.depth]; decide⟩
theorem place_next {zs : List Str} {j : Nat} (k : Str) : ((List.range (j + 1)).filter (isAt zs k)) = (List.range j).filter (isAt zs k) ++ (if isAt zs k j = true then [j] else []) := by
  rw [List.range_succ, List.filter_append]
  congr 1
  cases h : isAt zs k j <;> simp [h]
theorem word_at {st : List (Bool × Int)} {j : Nat} {p : Bool × Int} (h : st[j]? = some p) : isAt (st.map wordOf) "in" j = p.1 := by
  unfold isAt
  rw [List.getElem?_map, h]
  obtain ⟨b, r⟩ := p
  cases b
  · show (("out" : Str).cps.toList == ("in" : Str).cps.toList) = false
    decide +kernel
  · exact beq_self_eq_true _
set_option hygiene false
local macro_rules | `(tactic| walk_at "law2 turn") => `(tactic| (
  have S15 := S14.same s15
  have ht15 := s15 _ _ ht14
  refine ⟨_, rfl, _, rfl, _, _, st, j, rfl, S15.wy, ok, ljs, fun t0 H16 s16 r0 => ?_⟩
  refine ⟨_, rfl, _, rfl, _, _, st, j, p, rfl, (S15.same s16).wy, hp, fun t1 H17 s17 r1 => ?_⟩
  refine ⟨(by show 2 ≤ sizeLine; decide), fun L hL => ?_⟩
  have s18 := same_new hL (.lst [t0, t1])
  have hl18 : upd H17 L (.lst [t0, t1]) L = some (.lst [t0, t1]) := upd_same
  have T18 := s16.trans (s17.trans s18)
  have S18 := S15.same T18
  have ht18 := T18 _ _ ht15
  have r0 := r0.mono (Ext.of_same (s17.trans s18))
  have r1 := r1.mono (Ext.of_same s18)
  have rrd := rrd.mono (Ext.of_same T18)
  have wz := wz.mono (Ext.of_same T18)
  generalize upd H17 L (.lst [t0, t1]) = H18 at hl18 S18 ht18 r0 r1 rrd wz
  refine ⟨_, rfl, L, _, _, _, rfl, rfl, SqL.of hl18, rfl, _, rfl, _, _, t0, rd, _, rfl, r0, rrd, (small_ints _).1, (small_ints _).2, fun H19 s19 => ⟨_, rfl, ?_⟩⟩
  refine iteF (A := True) ?_
  refine ⟨_, rfl, L, _, _, _, rfl, rfl, SqL.of (s19 _ _ hl18), rfl, _, rfl, _, _, t1, wv, _, rfl, r1.mono (Ext.of_same s19), wz.mono (Ext.of_same s19), (small_wish _).1, (small_wish _).2, fun H20 s20 => ⟨_, rfl, ?_⟩⟩
  refine iteF (A := True) ?_
  have T20 := s19.trans s20
  have S20 := S18.same T20
  refine ⟨_, rfl, _, rfl, _, _, st, j, rfl, S20.wy, ok, ljs, fun u0 H21 s21 q0 => ?_⟩
  refine ⟨_, rfl, _, _, u0, rd, _, rfl, q0, rrd.mono (Ext.of_same (T20.trans s21)), (small_ints _).1, (small_ints _).2, fun H22 s22 => ⟨_, rfl, ?_⟩⟩
  refine iteF (A := True) ?_
  have T22 := s21.trans s22
  have S22 := S20.same T22
  refine ⟨_, rfl, _, rfl, _, _, st, j, p, rfl, S22.wy, hp, fun u1 H23 s23 q1 => ?_⟩
  refine ⟨_, rfl, _, _, u1, wv, _, rfl, q1, wz.mono (Ext.of_same (T20.trans (T22.trans s23))), (small_wish _).1, (small_wish _).2, fun H24 s24 => ⟨_, rfl, ?_⟩⟩
  refine iteF (A := True) ?_
  exact ⟨⟨_, _, _, _, _, rfl⟩, S22.same (s23.trans s24), (T20.trans (T22.trans (s23.trans s24))) _ _ ht18⟩))
local macro_rules | `(tactic| walk_at "law2 rest") => `(tactic| (
  obtain ⟨nc, wdt, noD⟩ := way_nc ok
  refine ⟨_, rfl, _, v, _, rfl, S.wy, nc.sw, noD, nc.fits (by omega), Nat.le_trans nc.dp (by decide), ?_⟩
  obtain ⟨t, xs, rfl, _, ht, hx⟩ := id S.wy.get_tup
  have lxs := hx.len
  rw [List.length_map] at lxs
  refine ⟨_, rfl, t, xs, rfl, SqT.of ht, fun D hD => ?_⟩
  refine lc_it (walk_enumT (K := K) (a := t) (xs := xs)) (fun j H' => Same Hx H' ∧ H' D = some (.lst ((((List.range j).filter (isAt (st.map wordOf) "in")).map fun i => ((i : Nat) : Int)).map V.int))) ⟨same_new hD _, upd_same⟩ ?_ ?_ ?_
  · rintro j H' _ ⟨e, _⟩
    exact SqT.of (e _ _ ht)
  · rintro j x H' H'' hj ⟨e, hl⟩ ⟨T1, x1, y, rfl, hT1, rfl, e1, hy⟩
    cases (Option.some.inj e1)
    obtain ⟨p, b, hp, rfl, hb⟩ := step_at (hx.mono (Ext.of_same e)) hy
    have s5 := same_new hT1 (.tup [.int (j : Nat), .ref b])
    refine ⟨T1, _, rfl, SqT.of upd_same, rfl, _, _, rfl, _, _, rfl, rfl, rfl, ?_⟩
    refine ⟨_, rfl, b, _, _, _, rfl, rfl, SqT.of (s5 _ _ hb), rfl, rfl, _, rfl, ?_⟩
    have small : ((List.range j).filter (isAt (st.map wordOf) "in")).length ≤ j := by
      have := List.length_filter_le (isAt (st.map wordOf) "in") (List.range j)
      rw [List.length_range] at this
      exact this
    have ok28 := ok.len
    by_cases c3 : p.1 = true
    · refine iteY ((in_word p).trans c3) ?_
      refine ⟨_, rfl, _, s5 _ _ hl, szlt (by rw [List.length_map, List.length_map]; omega), same_upd (e.trans s5) hD _, ?_⟩
      rw [upd_same, place_next, if_pos ((word_at hp).trans c3), List.map_append, List.map_append]
      rfl
    · refine iteZ (fun z => c3 ((in_word p).symm.trans z)) ?_
      refine ⟨e.trans s5, ?_⟩
      rw [place_next, if_neg (fun z => c3 ((word_at hp).symm.trans z)), List.append_nil]
      exact s5 _ _ hl
  rintro H7 ⟨e7, hl7⟩
  refine ⟨D, _, rfl, .inl ⟨SqL.of hl7, fun dp hdp => ⟨_, _, rfl, ?_⟩⟩⟩
  have eP : ((List.range xs.length).filter (isAt (st.map wordOf) "in")).map (fun i => ((i : Nat) : Int)) = placesOf (st.map wordOf) "in" := by
    unfold placesOf
    rw [List.length_map, lxs]
  rw [eP]
  have s8 := same_new hdp (.tup ((placesOf (st.map wordOf) "in").map V.int))
  have S8 := S.same (e7.trans s8)
  have nT : dp ≠ T := fun z => by
    obtain ⟨ps, hps, _⟩ := (S.same e7).tb
    rw [z, hps] at hdp
    cases hdp
  have du : Rp (fun b => b = T) (upd H7 dp (.tup ((placesOf (st.map wordOf) "in").map V.int))) (.ref dp) (.tuple ((placesOf (st.map wordOf) "in").map PyData.int)) := .tup nT upd_same (RpAll.ints _)
  have ht8 : upd H7 dp (.tup ((placesOf (st.map wordOf) "in").map V.int)) t = some (.tup xs) := (e7.trans s8) _ _ ht
  have tT : t ≠ T := fun z => by
    obtain ⟨ps, hps, _⟩ := S.tb
    rw [z, hps] at ht
    cases ht
  generalize upd H7 dp (.tup ((placesOf (st.map wordOf) "in").map V.int)) = H8 at S8 du ht8
  refine ⟨_, rfl, rfl, _, rfl, ?_⟩
  refine ite2 (fun _ => ?_) (fun _ => ?_)
  all_goals refine ⟨_, rfl, _, _, st, rfl, S8.wy, S8.tb, fun H9 p9 tb9 hp9 => ?_⟩
  all_goals (
    have s9 := same_new hp9 (.tup ((placesOf (st.map wordOf) "in").map V.int))
    have S9 := (S8.tab tb9).same s9
    have du9 := (du.tabbed rfl tb9).mono (Ext.of_same s9)
    have ht9 := s9 _ _ ((tb9.2 t tT).trans ht8)
    refine ⟨_, rfl, fun _ => False, _, _, _, _, rfl, .tup (fun z => z) upd_same (RpAll.ints _), du9, (small_ints _).1, (small_ints _).2, fun H10 s10 => ⟨_, rfl, ?_⟩⟩
    refine iteF (A := True) ?_
    have S10 := S9.same s10
    refine ⟨_, rfl, _, _, st, rfl, S10.wy, S10.tb, fun H11 p11 tb11 hp11 => ?_⟩
    have s11 := same_new hp11 (.tup ((placesOf (st.map wordOf) "in").map V.int))
    have S11 := (S10.tab tb11).same s11
    have du11 := ((du9.mono (Ext.of_same s10)).tabbed rfl tb11).mono (Ext.of_same s11)
    have ht11 := s11 _ _ ((tb11.2 t tT).trans (s10 _ _ ht9))
    refine ⟨_, rfl, fun _ => False, _, _, _, _, rfl, .tup (fun z => z) upd_same (RpAll.ints _), du11, (small_ints _).1, (small_ints _).2, fun H12 s12 => ⟨_, rfl, ?_⟩⟩
    refine iteF (A := True) ?_
    have S12 := S11.same s12
    have ht12 := s12 _ _ ht11
    refine ⟨_, rfl, t, xs, rfl, SqT.of ht12, for_it (walk_enumT (K := K) (a := t) (xs := xs)) (fun j σ H' => (∃ (v5 v6 v9 v10 v11 : Option V), σ = [some (.ref a), some (.ref dk), some (.int (0 + (i : Nat))), some (.int (1 + m0)), some (.ref t), v5, v6, some (.str (PyData.tuple (st.map stepD)).shown), some (.ref dp), v9, v10, v11]) ∧ Stands dk gl T (.ref t) st H' ∧ H' t = some (.tup xs)) ⟨⟨_, _, _, _, _, rfl⟩, S12, ht12⟩ ?_ ?_ ?_⟩
    · rintro j σ H' _ ⟨_, _, h⟩
      exact SqT.of h
    · rintro j x σ H13 H14 hj ⟨⟨_, _, _, _, _, rfl⟩, S13, ht13⟩ ⟨T1, x1, y, rfl, hT1, rfl, e1, hy⟩
      cases (Option.some.inj e1)
      obtain ⟨t2, xs2, e2, _, ht2, hx2⟩ := id S13.wy.get_tup
      cases e2
      rw [ht13] at ht2
      cases ht2
      obtain ⟨p, b, hp, rfl, hb⟩ := step_at hx2 hy
      have s14 := same_new hT1 (.tup [.int (j : Nat), .ref b])
      have S14 := S13.same s14
      have hb14 := s14 _ _ hb
      have ht14 := s14 _ _ ht13
      have ljs : j ≤ st.length := by omega
      refine ⟨T1, _, rfl, SqT.of upd_same, rfl, _, _, rfl, _, _, rfl, rfl, ?_⟩
      generalize upd H13 T1 (.tup [.int (j : Nat), .ref b]) = H14 at S14 hb14 ht14
      refine ⟨_, rfl, _, rfl, _, _, st, j, rfl, S14.wy, ok, ljs, fun rd H15 s15 rrd => ?_⟩
      refine ⟨_, rfl, b, _, _, _, rfl, rfl, SqT.of (s15 _ _ hb14), rfl, rfl, _, rfl, ?_⟩
      by_cases c3 : p.1 = true
      · refine iteY ((in_word p).trans c3) ?_
        refine ⟨_, rfl, b, _, _, _, rfl, rfl, SqT.of (s15 _ _ hb14), rfl, _, _, rfl, ?_⟩
        have wz : Rp (fun _ => False) H15 (.int p.2) (wishD p) := by
          rw [show wishD p = .int p.2 from if_pos c3]
          exact .int _
        generalize V.int p.2 = wv at wz
        walk_at "law2 turn"
      · refine iteZ (fun z => c3 ((in_word p).symm.trans z)) ?_
        refine ⟨_, _, rfl, ?_⟩
        have wz : Rp (fun _ => False) H15 .non (wishD p) := by
          rw [show wishD p = .none from if_neg c3]
          exact .non
        generalize V.non = wv at wz
        walk_at "law2 turn"
    · rintro σ H13 ⟨⟨_, _, _, _, _, rfl⟩, S13, ht13⟩
      refine ⟨_, rfl, _, _, _, rfl, S13.wy, nc.sw, noD, nc.fits (by omega), Nat.le_trans nc.dp (by decide), _, rfl, rfl, _, rfl, ?_⟩
      refine iteZ (by simp) ?_
      exact ⟨⟨_, _, _, _, _, _, _, _, _, _, rfl⟩, S13.de, S13.tb⟩)))
section
variable {P : Program} {w : World} {K : PySem.W.Frag} {mg : Str → Option Value} {base : Heap} {f : Addr} {fd : FuncData}
theorem scLaw : FnScope ["script", "deck", "turn", "rooms", "way", "place", "step", "kept", "due", "rooms_due", "wish_due", "told"] ["script"] (defScope sLaw) := ⟨rfl, rfl, rfl, by decide +kernel, rfl, by decide +kernel, by decide +kernel⟩
theorem law_ok {a c T : Addr} {ns : List Int} {H : Hp} {s0 : Shared} (F : Fun K "law" "law" sLaw f fd) (B : Blt mg) (DC : Dfn P w K mg base "_law_deck" ["script"] 1 (spDeck K)) (DD : Dfn P w K mg base "_law_draw" ["deck", "many"] 1 spDraw) (DP : Dfn P w K mg base "_law_pick" ["deck", "items"] 2 spPick)
    (DL : Dfn P w K mg base "_law_long_way" ["deck", "rooms", "pairs"] 2 spLong) (DW : Dfn P w K mg base "_law_way" ["deck", "rooms", "most"] 3 spWay) (DS : Dfn P w K mg base "_law_same" ["found", "due"] 2 (spSame 2)) (DH : Dfn P w K mg base "_law_held" ["way", "place"] 1 spHeld)
    (EN : Dfn P w K mg base "entries" ["way"] 1 (spEntries T)) (HE : Dfn P w K mg base "held" ["way", "place"] 1 spHeld) (WI : Dfn P w K mg base "wish" ["way", "place"] 1 spWish)
    (ENk : KD P w K mg base "entries" ["way"] ["way"] 1 (spEntries T) gOne) (HEk : KD P w K mg base "held" ["way", "place"] ["place", "way"] 1 spHeld gHeld) (WIk : KD P w K mg base "wish" ["way", "place"] ["place", "way"] 1 spWish gHeld)
    (len : ns.length ≤ 63) (en : Env0 P w K mg base callerA [] s0 H) (hS : SqL K H a (ns.map V.int)) (hT0 : H T = some (.tbl #[])) : codeAny (model P w) callerA (.call (.ref f) ⟨[.ref a], []⟩) (CR CX0 [] P w H s0 (fun v _ => v = V.bl true) E0) s0 := by
  have room : Room 4 callerA := ⟨rfl, by decide, by decide⟩
  refine at_caller (ps := ["script"]) (us := [.ref a]) (vs := [.ref a]) F scLaw (room.mono (by decide)) en ?_ (.cons rfl .nil) rfl fun cd => ?_
  · obtain ⟨c1, c2, c3, c4, c5, c6, c7, c8, c9, rfl, look, code⟩ := F.ex
    exact .of_eq rfl
  have nd := scLaw.nd
  have hr : Room 3 (callerA.deeper (PyProof.Rows.envOfC "law" (defScope sLaw) s0.heap.objs.size f cd)) := room.deeper _
  have hr1 : Room 1 (callerA.deeper (PyProof.Rows.envOfC "law" (defScope sLaw) s0.heap.objs.size f cd)) := hr.mono (by decide)
  have hr2 : Room 2 (callerA.deeper (PyProof.Rows.envOfC "law" (defScope sLaw) s0.heap.objs.size f cd)) := hr.mono (by decide)
  have gd : (callerA.deeper (PyProof.Rows.envOfC "law" (defScope sLaw) s0.heap.objs.size f cd)).guards = some [] := rfl
  have un : (callerA.deeper (PyProof.Rows.envOfC "law" (defScope sLaw) s0.heap.objs.size f cd)).units + 102 < cLine := by
    have := hr.un
    omega
  obtain ⟨fe, fde, Fe, me, ke, be⟩ := ENk.ex
  obtain ⟨fh, fdh, Fh, mh, kh, bh⟩ := HEk.ex
  obtain ⟨fw, fdw, Fw, mw, kw, bw⟩ := WIk.ex
  refine ⟨_, pss_cons (ps_set (i := 1) nd rfl (Or.inl rfl) (pe_own DC hr1 (pa_cons (pv 0) pa_nil)))
    (pss_cons (ps_for PassesOwn.never rfl (pi_range1 (by rfl) B.rng (pa_cons pe_int pa_nil)) (pg_name (i := 2) nd rfl (Or.inl rfl))
      (pss_cons (ps_set (i := 3) nd rfl (Or.inl rfl) (pe_op op_add pe_int (pe_own DD hr1 (pa_cons (pv 1) (pa_cons pe_int pa_nil)))))
      (pss_cons (ps_set (i := 4) nd rfl (Or.inl rfl) (pe_ifExp (pt_cmpR op_eq (pv 2) pe_int (nomark _)) (pe_own DL hr2 (pa_cons (pv 1) (pa_cons (pv 3) (pa_cons pe_int pa_nil))))
        (pe_own DW hr (pa_cons (pv 1) (pa_cons (pv 3) (pa_cons (pe_own DP hr2 (pa_cons (pv 1) (pa_cons (pe_lst (pa_cons pe_int (pa_cons pe_int (pa_cons pe_int (pa_cons pe_int pa_nil))))) pa_nil))) pa_nil))))))
      (pss_cons (ps_par (i := 7) (j := 8) (by rfl) nd rfl rfl (by decide) rfl rfl (pa_cons (pe_callB (call_reprT gd un) (by rfl) B.repr (by decide +kernel) (pa_cons (pv 4) pa_nil))
        (pa_cons (pe_callTy call_tuple_of (by rfl) B.tup (by decide +kernel) (pa_cons (pe_lc (own := [("place", 5), ("step", 6)]) (g := gTup K 2 (gCons (gName 5) (gCons (gName 6) gNil))) (tt := _) rfl nd (pi_enumT (by rfl) B.enu (pa_cons (pv 4) pa_nil))
          (blkOk_by (N := ["script", "deck", "turn", "rooms", "way", "place", "step", "kept", "due", "rooms_due", "wish_due", "told"]) (sc := defScope sLaw) (by decide +kernel)) (fun _ _ _ _ _ => by exact pg_tup rfl (pgs_cons (pg_name (i := 5) nd rfl (Or.inl rfl)) (pgs_cons (pg_name (i := 6) nd rfl (Or.inl rfl)) pgs_nil)))
          (fun _ _ _ _ _ => pts_one (pt_cmpR op_eq (pe_ix (r := rIxT K) ix_tup (pv 6) pe_int (fun _ _ => rfl)) pe_str (nomark _))) (fun _ _ _ _ _ => pv 5)) pa_nil)) pa_nil)) (by rfl))
      (pss_cons (ps_if (PW.pt (pw_or (pt_not (pt_val (pe_own DS hr2 (pa_cons (pe_ifExp (pt_cmpR op_eq (pv 2) pe_int (nomark _)) (pe_callK0 (ks := ["way"]) Fe hr1 (by rfl) me ke be pass0 (pk_cons (pv 4) pk_nil)) (pe_own EN hr1 (pa_cons (pv 4) pa_nil))) (pa_cons (pv 8) pa_nil)))))
          (pw_or1 (pt_not (pt_val (pe_own DS hr2 (pa_cons (pe_own EN hr1 (pa_cons (pv 4) pa_nil)) (pa_cons (pv 8) pa_nil)))))))) (pss_one (ps_ret pe_bl)) pss_nil)
      (pss_cons (ps_for PassesOwn.never rfl (pi_enumT (by rfl) B.enu (pa_cons (pv 4) pa_nil)) (pg_tup rfl (pgs_cons (pg_name (i := 5) nd rfl (Or.inl rfl)) (pgs_cons (pg_name (i := 6) nd rfl (Or.inl rfl)) pgs_nil)))
        (pss_cons (ps_par (i := 9) (j := 10) (by rfl) nd rfl rfl (by decide) rfl rfl (pa_cons (pe_own DH hr1 (pa_cons (pv 4) (pa_cons (pv 5) pa_nil))) (pa_cons (pe_ifExp (pt_cmpR op_eq (pe_ix ix_tup (pv 6) pe_int (fun _ _ => rfl)) pe_str (nomark _)) (pe_ix ix_tup (pv 6) pe_int (fun _ _ => rfl)) pe_non) pa_nil)) (by rfl))
        (pss_cons (ps_set (i := 11) nd rfl (Or.inl rfl) (pe_lst (pa_cons (pe_callK0 (ks := ["place", "way"]) Fh hr1 (by rfl) mh kh bh pass0 (pk_cons (pv 5) (pk_cons (pv 4) pk_nil))) (pa_cons (pe_callK0 (ks := ["place", "way"]) Fw hr1 (by rfl) mw kw bw pass0 (pk_cons (pv 5) (pk_cons (pv 4) pk_nil))) pa_nil))))
        (pss_cons (ps_if (PW.pt (pw_or (pt_not (pt_val (pe_own DS hr2 (pa_cons (pe_ix ix_list (pv 11) pe_int (fun _ _ => rfl)) (pa_cons (pv 9) pa_nil))))) (pw_or1 (pt_not (pt_val (pe_own DS hr2 (pa_cons (pe_ix ix_list (pv 11) pe_int (fun _ _ => rfl)) (pa_cons (pv 10) pa_nil)))))))) (pss_one (ps_ret pe_bl)) pss_nil)
        (pss_one (ps_if (PW.pt (pw_or (pt_not (pt_val (pe_own DS hr2 (pa_cons (pe_own HE hr1 (pa_cons (pv 4) (pa_cons (pv 5) pa_nil))) (pa_cons (pv 9) pa_nil))))) (pw_or1 (pt_not (pt_val (pe_own DS hr2 (pa_cons (pe_own WI hr1 (pa_cons (pv 4) (pa_cons (pv 5) pa_nil))) (pa_cons (pv 10) pa_nil)))))))) (pss_one (ps_ret pe_bl)) pss_nil))))))
      (pss_one (ps_if (pt_cmpR op_ne (pe_callB (call_reprT gd un) (by rfl) B.repr (by decide +kernel) (pa_cons (pv 4) pa_nil)) (pv 7) (nomark _)) (pss_one (ps_ret pe_bl)) pss_nil))))))))
    (pss_one (ps_ret pe_bl))), ?_⟩
  refine ⟨_, rfl, a, ns, rfl, hS, len, fun dk gl H1 s1 D1 => ?_⟩
  have tb1 : TabG H1 T := ⟨#[], s1 _ _ hT0, by constructor⟩
  refine ⟨_, rfl, by decide, by decide, for_it (walk_range (lo := 0) (n := 5)) (fun i σ H2 => (∃ (v2 v3 v4 v5 v6 v7 v8 v9 v10 v11 : Option V), σ = [some (.ref a), some (.ref dk), v2, v3, v4, v5, v6, v7, v8, v9, v10, v11]) ∧ DeckAt dk gl H2 ∧ TabG H2 T) ⟨⟨_, _, _, _, _, _, _, _, _, _, rfl⟩, D1, tb1⟩ (fun _ _ _ _ _ => trivial) ?_ ?_⟩
  rotate_left
  · rintro σ H2 ⟨⟨_, _, _, _, _, _, _, _, _, _, rfl⟩, D2, _⟩
    exact rfl
  rintro i y σ H2 H3 hi ⟨⟨_, _, _, _, _, _, _, _, _, _, rfl⟩, D2, tb2⟩ ⟨rfl, rfl⟩
  refine ⟨_, rfl, dk, gl, 6, rfl, D2, by decide, fun m0 H4 e4 D4 m1 m2 => ?_⟩
  refine ⟨_, _, rfl, rfl, ?_⟩
  have tb4 : TabG H4 T := TabG.ext tb2 D2 e4
  have stands : ∀ {H5 H6 : Hp} {v : V} {st : List (Bool × Int)}, DeckAt dk gl H5 → TabG H5 T → Ext (avD dk gl) H5 H6 → DeckAt dk gl H6 → Rp (dom H5) H6 v (.tuple (st.map stepD)) → Stands dk gl T v st H6 := fun D5 t5 e6 D6 r => by
    refine ⟨D6, TabG.ext t5 D5 e6, r.weak fun b h => ?_⟩
    rcases h with z | z
    · exact dom_deck D5 z
    · obtain ⟨ps, hp, _⟩ := t5
      exact ⟨_, z ▸ hp⟩
  refine ⟨_, rfl, rfl, _, rfl, ?_⟩
  refine ite2 (fun _ => ?_) (fun _ => ?_)
  · refine ⟨_, rfl, _, rfl, dk, gl, _, 12, rfl, D4, by omega, by omega, by decide, by decide, fun v st H5 e5 D5 rv ok => ?_⟩
    have S := stands D4 tb4 e5 D5 rv
    generalize H5 = Hx at S
    clear e5 D5 rv
    walk_at "law2 rest"
  · refine ⟨_, rfl, _, rfl, _, rfl, (by show 4 ≤ sizeLine; decide), fun l hl => ?_⟩
    have s2 := same_new hl (.lst (([2, 6, 12, 24] : List Int).map V.int))
    refine ⟨dk, gl, l, ([2, 6, 12, 24] : List Int).map V.int, rfl, D4.same s2, upd_same, D4.new hl, by decide, by decide, fun v5 H5 hv e5 D5 => ?_⟩
    obtain ⟨most, hm, rfl⟩ := mem_intsV hv
    obtain ⟨q0, q1⟩ := (by decide +kernel : ∀ z ∈ ([2, 6, 12, 24] : List Int), 2 ≤ z ∧ z ≤ 24) most hm
    have tb5 : TabG H5 T := TabG.ext (TabG.same tb4 s2) (D4.same s2) e5
    refine ⟨dk, gl, _, most, rfl, D5, by omega, by omega, q0, q1, fun v st H6 e6 D6 rv ok => ?_⟩
    have S := stands D5 tb5 e6 D6 rv
    generalize H6 = Hx at S
    clear e6 D6 rv
    walk_at "law2 rest"
end
end Rw
end
namespace Rw
open PySem L2 PyProof.Rows
theorem def_of {K : PySem.W.Frag} {h : Heap} {mg : Str → Option Value} {x : Str} {st : Stmt} {f : Addr} {c1 : Value} {o1 o2 : Option Addr} {sl : Array (Option Value)} {c2 c3 c4 c5 c6 : Value} {ps : List Str} (X : K.In h) (G : h.Ns mainGlobals mg)
    (a : PySem.W.nsIn K mainGlobals x = some (some (.ref f))) (look : K.lookup f = some ⟨c1, o1, .func (PySem.W.fnOf x x (defArgs st) (defBody st) (defScope st) .none c2 c3 c4 o2 c5 c6), sl⟩) (code : PySem.W.codeIn K c5 x = true) (keep : PySem.W.keepIn K (.ref f) = true)
    (bind : ∀ (kV doc pm : Value) (an : Option Addr) (cdv ct : Value) (us : List Value), us.length = ps.length → bindArgs (PySem.W.fnOf x x (defArgs st) (defBody st) (defScope st) .none kV doc pm an cdv ct) ⟨us, []⟩ = pure (ps.zip us)) : Def K mg x st ps :=
  ⟨_, _, fun_mk look code keep, PySem.W.mg_of X G a, (fun_mk look code keep).binds bind⟩

theorem all_mk {l : PySem.W.OpenLaw} {w : World} {K : PySem.W.Frag} {h : Heap} {mg : Str → Option Value} {fa : Addr} (X : K.In h) (G : h.Ns mainGlobals mg) (hfa : mg "law" = some (.ref fa))
    {f1 f2 f3 f4 f5 f6 f7 f8 f9 f10 f11 : Addr} {od1 an1 od2 an2 od3 an3 od4 an4 od5 an5 od6 an6 od7 an7 od8 an8 od9 an9 od10 an10 od11 an11 : Option Addr} {sl1 sl2 sl3 sl4 sl5 sl6 sl7 sl8 sl9 sl10 sl11 : Array (Option Value)} {oc1 kV1 dc1 pm1 cd1 ct1 oc2 kV2 dc2 pm2 cd2 ct2 oc3 kV3 dc3 pm3 ct3 oc4 kV4 dc4 pm4 cd4 ct4 oc5 kV5 dc5 pm5 cd5 ct5 oc6 kV6 dc6 pm6 cd6 ct6 oc7 kV7 dc7 pm7 cd7 ct7 oc8 kV8 dc8 pm8 cd8 ct8 oc9 kV9 dc9 pm9 cd9 ct9 oc10 kV10 dc10 pm10 cd10 ct10 oc11 kV11 dc11 pm11 cd11 ct11 : Value} {cE tE : Addr} {eE : Value} {dE : Option Addr} {vsE : Array Value} {slE : Array (Option Value)}
    (a1 : PySem.W.nsIn K mainGlobals "held" = some (some (.ref f1))) (l1 : K.lookup f1 = some ⟨oc1, od1, .func (PySem.W.fnOf "held" "held" (defArgs sHeld) (defBody sHeld) (defScope sHeld) .none kV1 dc1 pm1 an1 cd1 ct1), sl1⟩) (c1 : PySem.W.codeIn K cd1 "held" = true) (k1 : PySem.W.keepIn K (.ref f1) = true)
    (a2 : PySem.W.nsIn K mainGlobals "wish" = some (some (.ref f2))) (l2 : K.lookup f2 = some ⟨oc2, od2, .func (PySem.W.fnOf "wish" "wish" (defArgs sWish) (defBody sWish) (defScope sWish) .none kV2 dc2 pm2 an2 cd2 ct2), sl2⟩) (c2 : PySem.W.codeIn K cd2 "wish" = true) (k2 : PySem.W.keepIn K (.ref f2) = true)
    (a3 : PySem.W.nsIn K mainGlobals "entries" = some (some (.ref f3))) (l3 : K.lookup f3 = some ⟨oc3, od3, .func (PySem.W.fnOf "entries" "entries" (defArgs sEntries) (defBody sEntries) (defScope sEntries) .none kV3 dc3 pm3 an3 (.ref cE) ct3), sl3⟩) (c3 : PySem.W.codeIn K (.ref cE) "entries" = true) (k3 : PySem.W.keepIn K (.ref f3) = true)
    (a4 : PySem.W.nsIn K mainGlobals "_law_deck" = some (some (.ref f4))) (l4 : K.lookup f4 = some ⟨oc4, od4, .func (PySem.W.fnOf "_law_deck" "_law_deck" (defArgs sDeck) (defBody sDeck) (defScope sDeck) .none kV4 dc4 pm4 an4 cd4 ct4), sl4⟩) (c4 : PySem.W.codeIn K cd4 "_law_deck" = true) (k4 : PySem.W.keepIn K (.ref f4) = true)
    (a5 : PySem.W.nsIn K mainGlobals "_law_draw" = some (some (.ref f5))) (l5 : K.lookup f5 = some ⟨oc5, od5, .func (PySem.W.fnOf "_law_draw" "_law_draw" (defArgs sDraw) (defBody sDraw) (defScope sDraw) .none kV5 dc5 pm5 an5 cd5 ct5), sl5⟩) (c5 : PySem.W.codeIn K cd5 "_law_draw" = true) (k5 : PySem.W.keepIn K (.ref f5) = true)
    (a6 : PySem.W.nsIn K mainGlobals "_law_pick" = some (some (.ref f6))) (l6 : K.lookup f6 = some ⟨oc6, od6, .func (PySem.W.fnOf "_law_pick" "_law_pick" (defArgs sPick) (defBody sPick) (defScope sPick) .none kV6 dc6 pm6 an6 cd6 ct6), sl6⟩) (c6 : PySem.W.codeIn K cd6 "_law_pick" = true) (k6 : PySem.W.keepIn K (.ref f6) = true)
    (a7 : PySem.W.nsIn K mainGlobals "_law_same" = some (some (.ref f7))) (l7 : K.lookup f7 = some ⟨oc7, od7, .func (PySem.W.fnOf "_law_same" "_law_same" (defArgs sSame) (defBody sSame) (defScope sSame) .none kV7 dc7 pm7 an7 cd7 ct7), sl7⟩) (c7 : PySem.W.codeIn K cd7 "_law_same" = true) (k7 : PySem.W.keepIn K (.ref f7) = true)
    (a8 : PySem.W.nsIn K mainGlobals "_law_way" = some (some (.ref f8))) (l8 : K.lookup f8 = some ⟨oc8, od8, .func (PySem.W.fnOf "_law_way" "_law_way" (defArgs sWay) (defBody sWay) (defScope sWay) .none kV8 dc8 pm8 an8 cd8 ct8), sl8⟩) (c8 : PySem.W.codeIn K cd8 "_law_way" = true) (k8 : PySem.W.keepIn K (.ref f8) = true)
    (a9 : PySem.W.nsIn K mainGlobals "_law_long_way" = some (some (.ref f9))) (l9 : K.lookup f9 = some ⟨oc9, od9, .func (PySem.W.fnOf "_law_long_way" "_law_long_way" (defArgs sLong) (defBody sLong) (defScope sLong) .none kV9 dc9 pm9 an9 cd9 ct9), sl9⟩) (c9 : PySem.W.codeIn K cd9 "_law_long_way" = true) (k9 : PySem.W.keepIn K (.ref f9) = true)
    (a10 : PySem.W.nsIn K mainGlobals "_law_held" = some (some (.ref f10))) (l10 : K.lookup f10 = some ⟨oc10, od10, .func (PySem.W.fnOf "_law_held" "_law_held" (defArgs sLawHeld) (defBody sLawHeld) (defScope sLawHeld) .none kV10 dc10 pm10 an10 cd10 ct10), sl10⟩) (c10 : PySem.W.codeIn K cd10 "_law_held" = true) (k10 : PySem.W.keepIn K (.ref f10) = true)
    (a11 : PySem.W.nsIn K mainGlobals "law" = some (some (.ref f11))) (l11 : K.lookup f11 = some ⟨oc11, od11, .func (PySem.W.fnOf "law" "law" (defArgs sLaw) (defBody sLaw) (defScope sLaw) .none kV11 dc11 pm11 an11 cd11 ct11), sl11⟩) (c11 : PySem.W.codeIn K cd11 "law" = true) (k11 : PySem.W.keepIn K (.ref f11) = true)
    (lE : K.lookup cE = some ⟨eE, dE, .fields vsE, slE⟩) (xE : vsE[11]? = some (.ref tE)) (nE : K.lookup tE = none)
    (z_abs : PySem.W.nsIn K mainGlobals "abs" = some none) (z_int : PySem.W.nsIn K mainGlobals "int" = some none) (z_bool : PySem.W.nsIn K mainGlobals "bool" = some none) (z_str : PySem.W.nsIn K mainGlobals "str" = some none) (z_len : PySem.W.nsIn K mainGlobals "len" = some none) (z_isi : PySem.W.nsIn K mainGlobals "isinstance" = some none) (z_enu : PySem.W.nsIn K mainGlobals "enumerate" = some none) (z_rng : PySem.W.nsIn K mainGlobals "range" = some none) (z_list : PySem.W.nsIn K mainGlobals "list" = some none) (z_tup : PySem.W.nsIn K mainGlobals "tuple" = some none) (z_repr : PySem.W.nsIn K mainGlobals "repr" = some none) :
    ∃ (f c T : Addr) (o : Obj) (fd : FuncData) (e : Value) (dd : Option Addr) (vs : Array Value) (sl : Array (Option Value)), mg "entries" = some (.ref f) ∧ K.lookup f = some o ∧ o.data = .func fd ∧ fd.code = .ref c ∧ K.lookup c = some ⟨e, dd, .fields vs, sl⟩ ∧ vs[11]? = some (.ref T) ∧ K.lookup T = none ∧ ∀ (a : Addr) (ns : List Int), ns.length ≤ 63 → RunsT l.prog w K mg fa c T a ns := by
  have e := hfa.symm.trans (PySem.W.mg_of X G a11)
  cases e
  have B : Blt mg := ⟨PySem.W.mg_none_of X G z_abs, PySem.W.mg_none_of X G z_int, PySem.W.mg_none_of X G z_bool, PySem.W.mg_none_of X G z_str, PySem.W.mg_none_of X G z_len, PySem.W.mg_none_of X G z_isi, PySem.W.mg_none_of X G z_enu, PySem.W.mg_none_of X G z_rng, PySem.W.mg_none_of X G z_list, PySem.W.mg_none_of X G z_tup, PySem.W.mg_none_of X G z_repr⟩
  have D1 : Def K mg "held" sHeld ["way", "place"] := def_of X G a1 l1 c1 k1 fun _ _ _ _ _ _ us hl => match us, hl with | [_, _], _ => rfl
  have D2 : Def K mg "wish" sWish ["way", "place"] := def_of X G a2 l2 c2 k2 fun _ _ _ _ _ _ us hl => match us, hl with | [_, _], _ => rfl
  have D3 : Def K mg "entries" sEntries ["way"] := def_of X G a3 l3 c3 k3 fun _ _ _ _ _ _ us hl => match us, hl with | [_], _ => rfl
  have D4 : Def K mg "_law_deck" sDeck ["script"] := def_of X G a4 l4 c4 k4 fun _ _ _ _ _ _ us hl => match us, hl with | [_], _ => rfl
  have D5 : Def K mg "_law_draw" sDraw ["deck", "many"] := def_of X G a5 l5 c5 k5 fun _ _ _ _ _ _ us hl => match us, hl with | [_, _], _ => rfl
  have D6 : Def K mg "_law_pick" sPick ["deck", "items"] := def_of X G a6 l6 c6 k6 fun _ _ _ _ _ _ us hl => match us, hl with | [_, _], _ => rfl
  have D7 : Def K mg "_law_same" sSame ["found", "due"] := def_of X G a7 l7 c7 k7 fun _ _ _ _ _ _ us hl => match us, hl with | [_, _], _ => rfl
  have D8 : Def K mg "_law_way" sWay ["deck", "rooms", "most"] := def_of X G a8 l8 c8 k8 fun _ _ _ _ _ _ us hl => match us, hl with | [_, _, _], _ => rfl
  have D9 : Def K mg "_law_long_way" sLong ["deck", "rooms", "pairs"] := def_of X G a9 l9 c9 k9 fun _ _ _ _ _ _ us hl => match us, hl with | [_, _, _], _ => rfl
  have D10 : Def K mg "_law_held" sLawHeld ["way", "place"] := def_of X G a10 l10 c10 k10 fun _ _ _ _ _ _ us hl => match us, hl with | [_, _], _ => rfl
  refine ⟨f3, cE, tE, _, _, eE, dE, vsE, slE, PySem.W.mg_of X G a3, l3, rfl, rfl, lE, xE, nE, ?_⟩
  intro a ns len base H s0 en hS hT TB
  have E7 : Dfn l.prog w K mg base "_law_deck" ["script"] 1 (spDeck K) := D4.ok fun f fd F => ok_deck F B
  have E8 : Dfn l.prog w K mg base "_law_draw" ["deck", "many"] 1 spDraw := D5.ok fun f fd F => ok_draw F B
  have E9 : Dfn l.prog w K mg base "_law_pick" ["deck", "items"] 2 spPick := D6.ok fun f fd F => ok_pick F B E8
  have E11 : Dfn l.prog w K mg base "_law_same" ["found", "due"] 2 (spSame 2) := same_all D7 B 2
  have E15 : Dfn l.prog w K mg base "_law_way" ["deck", "rooms", "most"] 3 spWay := D8.ok fun f fd F => ok_way F B E8 E9
  have E16 : Dfn l.prog w K mg base "_law_long_way" ["deck", "rooms", "pairs"] 2 spLong := D9.ok fun f fd F => ok_long F B E8
  have E17 : Dfn l.prog w K mg base "_law_held" ["way", "place"] 1 spHeld := D10.ok fun f fd F => ok_lawHeld F B
  have E18 : Dfn l.prog w K mg base "held" ["way", "place"] 1 spHeld := D1.ok fun f fd F => ok_held F B
  have E19 : Dfn l.prog w K mg base "wish" ["way", "place"] 1 spWish := D2.ok fun f fd F => ok_wish F
  have okE := ok_entries (P := l.prog) (w := w) (base := base) (T := tE) l3 c3 B TB
  have mE := PySem.W.mg_of X G a3
  have E20 : Dfn l.prog w K mg base "entries" ["way"] 1 (spEntries tE) := ⟨_, _, okE, mE, k3, (fun_mk (st := sEntries) l3 c3 k3).binds fun _ _ _ _ _ _ us hl => match us, hl with | [_], _ => rfl⟩
  have K20 : KD l.prog w K mg base "entries" ["way"] ["way"] 1 (spEntries tE) gOne := ⟨_, _, okE, mE, k3, kb_one fun s a => .of_eq rfl⟩
  have K18 : KD l.prog w K mg base "held" ["way", "place"] ["place", "way"] 1 spHeld gHeld := ⟨_, _, ok_held (fun_mk (st := sHeld) l1 c1 k1) B, PySem.W.mg_of X G a1, k1, kb_two fun s a b => .of_eq rfl⟩
  have K19 : KD l.prog w K mg base "wish" ["way", "place"] ["place", "way"] 1 spWish gHeld := ⟨_, _, ok_wish (fun_mk (st := sWish) l2 c2 k2), PySem.W.mg_of X G a2, k2, kb_two fun s a b => .of_eq rfl⟩
  exact law_ok (c := cE) (fun_mk (st := sLaw) l11 c11 k11) B E7 E8 E9 E16 E15 E11 E17 E20 E18 E19 K20 K18 K19 len en hS hT
end Rw


open PySem PySem.W PyProof.Rows in
set_option maxRecDepth 100000 in
set_option maxHeartbeats 0 in
theorem PySem.Challenge.cw_roomways_k02_whole_rooms_held_and_wished_holds : PySem.Challenge.rw_roomways_k02_whole_rooms_held_and_wished.Holds := by
  w_on; o_law; k_head; (case hw => w_witness2)
  k_fill
  refine Rw.walksT (n := 63) (x := "entries") (l := PySem.Challenge.rw_roomways_k02_whole_rooms_held_and_wished) rfl (by decide) rfl (by decide +kernel) (fun w h Y => PySem.W.kIn_of Y) ?F
  case F =>
    intro w mg fa h X G hmg
    refine' Rw.all_mk X G hmg ?a1 ?l1 ?c1 ?k1 ?a2 ?l2 ?c2 ?k2 ?a3 ?l3 ?c3 ?k3 ?a4 ?l4 ?c4 ?k4 ?a5 ?l5 ?c5 ?k5 ?a6 ?l6 ?c6 ?k6 ?a7 ?l7 ?c7 ?k7 ?a8 ?l8 ?c8 ?k8 ?a9 ?l9 ?c9 ?k9 ?a10 ?l10 ?c10 ?k10 ?a11 ?l11 ?c11 ?k11 ?lE ?xE ?nE ?z_abs ?z_int ?z_bool ?z_str ?z_len ?z_isi ?z_enu ?z_rng ?z_list ?z_tup ?z_repr
    (case a1 => first | k_is | rfl | decide +kernel)
    (case l1 => first | k_is | rfl | decide +kernel)
    (case c1 => first | k_is | rfl | decide +kernel)
    (case k1 => first | k_is | rfl | decide +kernel)
    (case a2 => first | k_is | rfl | decide +kernel)
    (case l2 => first | k_is | rfl | decide +kernel)
    (case c2 => first | k_is | rfl | decide +kernel)
    (case k2 => first | k_is | rfl | decide +kernel)
    (case a3 => first | k_is | rfl | decide +kernel)
    (case l3 => first | k_is | rfl | decide +kernel)
    (case c3 => first | k_is | rfl | decide +kernel)
    (case k3 => first | k_is | rfl | decide +kernel)
    (case a4 => first | k_is | rfl | decide +kernel)
    (case l4 => first | k_is | rfl | decide +kernel)
    (case c4 => first | k_is | rfl | decide +kernel)
    (case k4 => first | k_is | rfl | decide +kernel)
    (case a5 => first | k_is | rfl | decide +kernel)
    (case l5 => first | k_is | rfl | decide +kernel)
    (case c5 => first | k_is | rfl | decide +kernel)
    (case k5 => first | k_is | rfl | decide +kernel)
    (case a6 => first | k_is | rfl | decide +kernel)
    (case l6 => first | k_is | rfl | decide +kernel)
    (case c6 => first | k_is | rfl | decide +kernel)
    (case k6 => first | k_is | rfl | decide +kernel)
    (case a7 => first | k_is | rfl | decide +kernel)
    (case l7 => first | k_is | rfl | decide +kernel)
    (case c7 => first | k_is | rfl | decide +kernel)
    (case k7 => first | k_is | rfl | decide +kernel)
    (case a8 => first | k_is | rfl | decide +kernel)
    (case l8 => first | k_is | rfl | decide +kernel)
    (case c8 => first | k_is | rfl | decide +kernel)
    (case k8 => first | k_is | rfl | decide +kernel)
    (case a9 => first | k_is | rfl | decide +kernel)
    (case l9 => first | k_is | rfl | decide +kernel)
    (case c9 => first | k_is | rfl | decide +kernel)
    (case k9 => first | k_is | rfl | decide +kernel)
    (case a10 => first | k_is | rfl | decide +kernel)
    (case l10 => first | k_is | rfl | decide +kernel)
    (case c10 => first | k_is | rfl | decide +kernel)
    (case k10 => first | k_is | rfl | decide +kernel)
    (case a11 => first | k_is | rfl | decide +kernel)
    (case l11 => first | k_is | rfl | decide +kernel)
    (case c11 => first | k_is | rfl | decide +kernel)
    (case k11 => first | k_is | rfl | decide +kernel)
    (case lE => first | k_is | rfl | decide +kernel)
    (case xE => first | k_is | rfl | decide +kernel)
    (case nE => first | k_is | rfl | decide +kernel)
    (case z_abs => first | k_is | rfl | decide +kernel)
    (case z_int => first | k_is | rfl | decide +kernel)
    (case z_bool => first | k_is | rfl | decide +kernel)
    (case z_str => first | k_is | rfl | decide +kernel)
    (case z_len => first | k_is | rfl | decide +kernel)
    (case z_isi => first | k_is | rfl | decide +kernel)
    (case z_enu => first | k_is | rfl | decide +kernel)
    (case z_rng => first | k_is | rfl | decide +kernel)
    (case z_list => first | k_is | rfl | decide +kernel)
    (case z_tup => first | k_is | rfl | decide +kernel)
    (case z_repr => first | k_is | rfl | decide +kernel)
