import PyProof.Rows.All
import Wide.All
import OpenK.AllK
import Wide.FinOn
import HandS.ForMost
import HandS.IsInst
import HandS.TupAny
import HandS.Walk
import HandS.Style
import HandS.Conv
import HandS.Wide
import HandS.Flow
import HandS.Defaults
import KE.GoesEnum
import PySem.Challenge.RW_roomways_k01_what_ways_are
import PyProof.ReprLen
set_option Elab.async false
set_option linter.all false
set_option maxRecDepth 100000
set_option maxHeartbeats 1000000
namespace Rw
open PySem PySem.Spec PyProof.Rows L2 PySem.SeqAt

/-! ### a text beside a dict: never equal -/
theorem str_declines_dict (b : Str) (u : Tok) (l : Addr) (c : Value) (es : Array DictEntry) (n : Nat) (dd : Option Addr) (sl : Array (Option Value)) :
    Meets (Builtin.«str.__eq__» ⟨[.str b u, .ref l], []⟩) (fun _ R s => s.heap.get? l = some { cls := c, dict := dd, data := .dict es n, slots := sl } ∧ R (.ok (.ret .notImplemented)) s) :=
  .of_wp fun prog w A R s h => by
    obtain ⟨hp, g, d, tk, os⟩ := s
    obtain ⟨hl, h⟩ := h
    wp_walk using AutoSeq1.wpAny_loadPart' hl, wpAny_load hl
    exact ⟨_, rfl, h⟩
theorem dict_declines_str (l : Addr) (es : Array DictEntry) (n : Nat) (dd : Option Addr) (sl : Array (Option Value)) (b : Str) (u : Tok) :
    Meets (Builtin.«dict.__eq__» ⟨[.ref l, .str b u], []⟩) (fun _ R s => s.heap.get? l = some { cls := .type "dict", dict := dd, data := .dict es n, slots := sl } ∧ R (.ok (.ret .notImplemented)) s) :=
  .of_wp fun prog w A R s h => by
    obtain ⟨hp, g, d, tk, os⟩ := s
    obtain ⟨hl, h⟩ := h
    have f1 : isSubtype (.type "str") (.type "dict") = pure false := by rw [isSubtype_type]; kernel_rfl
    wp_walk using AutoSeq1.wpAny_loadPart' hl, wpAny_load hl
    exact ⟨_, rfl, h⟩
theorem sub_dict_str : isSubtype (.type "dict") (.type "str") = pure false := by rw [isSubtype_type]; kernel_rfl
section
variable {A : Around} {s : Shared}
theorem rc_str_dict {l : Addr} {o : Obj} {es : Array DictEntry} {n : Nat} (b : Str) (u : Tok) (ho : s.heap.get? l = some o) (hc : o.cls = .type "dict") (hd : o.data = .dict es n) (hu : A.units < cLine) : RcAt A s (.str b u) (.ref l) false := fun prog w E Q h => by
  obtain ⟨cls, dd, data, sl⟩ := o
  simp only at hc hd
  subst hc hd
  refine rc_eq_decline_or (k := false) (typeIs_str s b u) ⟨_, ho, rfl⟩ (by decide) sub_dict_str F.slot_str_eq F.slot_dict_eq_refl
    (fun _ hq => ?_) (fun _ hq => ?_) (fun _ hq => wpAny_of_eq (rfl : isSame (.str b u) (.ref l) = pure false) hq) (.inr hu) h
  · exact call_meets F.slot_str_eq (typeIs_str s b u) F.entry_str_eq (F.args_str_eq_2 _ _) (str_declines_dict b u l (.type "dict") es n dd sl) ⟨ho, hq⟩
  · exact call_meets F.slot_dict_eq_refl ⟨_, ho, rfl⟩ F.entry_dict_eq (F.args_dict_eq_2 _ _) (dict_declines_str l es n dd sl b u) ⟨ho, hq⟩
theorem eq_str_dict {l : Addr} {o : Obj} {es : Array DictEntry} {n : Nat} (b : Str) (u : Tok) (ho : s.heap.get? l = some o) (hc : o.cls = .type "dict") (hd : o.data = .dict es n) (hu : A.units < cLine) : EqAt A s (.str b u) (.ref l) false := fun prog w E Q h => by
  unfold eqBool
  refine wpAny_holding ?_
  refine wpAny_ite_split (fun hab => absurd (eq_of_beq hab) nofun) (fun _ => ?_)
  exact wpAny_bind (rc_str_dict b u ho hc hd hu prog w E _ (wpAny_truthy_bool h))
end
end Rw
namespace Rw
open PySem PySem.Spec PyProof.Rows L2 PySem.SeqAt

/-! ### a value as data, all of whose objects stand, none of them at a place that av forbids -/
mutual
inductive Rp (av : Addr → Prop) (H : Hp) : V → PyData → Prop
  | non : Rp av H .non .none
  | bl (b : Bool) : Rp av H (.bl b) (.bool b)
  | int (i : Int) : Rp av H (.int i) (.int i)
  | str (x : Str) : Rp av H (.str x) (.str x)
  | lst {a : Addr} {xs : List V} {ds : List PyData} : ¬ av a → H a = some (.lst xs) → RpAll av H xs ds → Rp av H (.ref a) (.list ds)
  | tup {a : Addr} {xs : List V} {ds : List PyData} : ¬ av a → H a = some (.tup xs) → RpAll av H xs ds → Rp av H (.ref a) (.tuple ds)
  | dct {a : Addr} {k : Str} {v : V} {d : PyData} : ¬ av a → H a = some (.dK [(.inr k, v)]) → Rp av H v d → Rp av H (.ref a) (.dict [(.str k, d)])
inductive RpAll (av : Addr → Prop) (H : Hp) : List V → List PyData → Prop
  | nil : RpAll av H [] []
  | cons {v : V} {vs : List V} {d : PyData} {ds : List PyData} : Rp av H v d → RpAll av H vs ds → RpAll av H (v :: vs) (d :: ds)
end
/-- what stood at places that av does not name stands -/
def Ext (av : Addr → Prop) (H H' : Hp) : Prop := ∀ b o, ¬ av b → H b = some o → H' b = some o
section
variable {av : Addr → Prop} {H H' : Hp}
theorem Ext.refl : Ext av H H := fun _ _ _ h => h
theorem Ext.trans {H1 H2 H3 : Hp} (a : Ext av H1 H2) (b : Ext av H2 H3) : Ext av H1 H3 := fun c o n h => b c o n (a c o n h)
theorem Ext.of_same {H1 H2 : Hp} (a : Same H1 H2) : Ext av H1 H2 := fun c o _ h => a c o h
theorem same_new {p : Addr} (h : H p = none) (o : HO) : Same H (upd H p o) := fun b u q => by
  rw [upd_ne (ne_of_none q h)]
  exact q
theorem Ext.new {p : Addr} (h : H p = none) (o : HO) : Ext av H (upd H p o) := Ext.of_same (same_new h o)
theorem Ext.put {p : Addr} (h : av p) (o : HO) : Ext av H (upd H p o) := fun b u n q => by
  rw [upd_ne (fun e => n (by rw [e]; exact h))]
  exact q
mutual
theorem Rp.mono (e : Ext av H H') : ∀ {v : V} {d : PyData}, Rp av H v d → Rp av H' v d
  | _, _, .non => .non
  | _, _, .bl b => .bl b
  | _, _, .int i => .int i
  | _, _, .str x => .str x
  | _, _, .lst n h r => .lst n (e _ _ n h) (RpAll.mono e r)
  | _, _, .tup n h r => .tup n (e _ _ n h) (RpAll.mono e r)
  | _, _, .dct n h r => .dct n (e _ _ n h) (Rp.mono e r)
theorem RpAll.mono (e : Ext av H H') : ∀ {v : List V} {d : List PyData}, RpAll av H v d → RpAll av H' v d
  | _, _, .nil => .nil
  | _, _, .cons a b => .cons (Rp.mono e a) (RpAll.mono e b)
end
theorem RpAll.len : ∀ {vs : List V} {ds : List PyData}, RpAll av H vs ds → vs.length = ds.length
  | _, _, .nil => rfl
  | _, _, .cons _ b => by rw [List.length_cons, List.length_cons, RpAll.len b]
theorem RpAll.at : ∀ {vs : List V} {ds : List PyData} {i : Nat} {v : V}, RpAll av H vs ds → vs[i]? = some v → ∃ d, ds[i]? = some d ∧ Rp av H v d
  | _, _, _, _, .nil, h => by simp at h
  | _, _, 0, _, .cons a _, h => by
    have e := Option.some.inj h
    subst e
    exact ⟨_, rfl, a⟩
  | _, _, i + 1, _, .cons _ b, h => RpAll.at (i := i) b h
theorem RpAll.app : ∀ {vs ws : List V} {ds es : List PyData}, RpAll av H vs ds → RpAll av H ws es → RpAll av H (vs ++ ws) (ds ++ es)
  | _, _, _, _, .nil, q => q
  | _, _, _, _, .cons a b, q => .cons a (RpAll.app b q)
theorem RpAll.take : ∀ {vs : List V} {ds : List PyData} (n : Nat), RpAll av H vs ds → RpAll av H (vs.take n) (ds.take n)
  | _, _, 0, _ => .nil
  | _, _, _ + 1, .nil => .nil
  | _, _, n + 1, .cons a b => .cons a (RpAll.take n b)
theorem RpAll.drop : ∀ {vs : List V} {ds : List PyData} (n : Nat), RpAll av H vs ds → RpAll av H (vs.drop n) (ds.drop n)
  | _, _, 0, q => q
  | _, _, _ + 1, .nil => .nil
  | _, _, n + 1, .cons _ b => RpAll.drop n b
theorem RpAll.set {v : V} {d : PyData} (r : Rp av H v d) : ∀ {vs : List V} {ds : List PyData} (n : Nat), RpAll av H vs ds → RpAll av H (vs.set n v) (ds.set n d)
  | _, _, _, .nil => .nil
  | _, _, 0, .cons _ b => .cons r b
  | _, _, n + 1, .cons a b => .cons a (RpAll.set r n b)
theorem RpAll.snoc {vs : List V} {ds : List PyData} {v : V} {d : PyData} (a : RpAll av H vs ds) (b : Rp av H v d) : RpAll av H (vs ++ [v]) (ds ++ [d]) := a.app (.cons b .nil)
theorem RpAll.ints : ∀ ns : List Int, RpAll av H (ns.map V.int) (ns.map PyData.int)
  | [] => .nil
  | n :: r => .cons (.int n) (RpAll.ints r)
end

/-! ### what it reads as -/
section
variable {X : Cx} {pins : List (Addr × Obj)} {σ : L2.St} {H : Hp} {s : Shared} {av : Addr → Prop}
theorem no_sys (I : Inv X pins σ H s) {o : Obj} (hk : X.K.lookup sysModules = some o) {a : Addr} {u : HO} (h : H a = some u) : a ≠ sysModules := fun e => by
  have q := (I.bs sysModules o (I.mod.kin _ _ hk)).2
  rw [← e, h] at q
  cases q
mutual
theorem Rp.reads (I : Inv X pins σ H s) : ∀ (d : PyData) (v : V) (u : Value), Rp av H v d → RelV v u → ∃ as, Reads s.heap u d as ∧ ∀ b ∈ as, ∃ o, H b = some o
  | .none, _, _, h, r => by
    cases h
    cases r
    exact ⟨_, Reads.none, fun b hb => absurd hb (by simp)⟩
  | .bool b, _, _, h, r => by
    cases h
    cases r
    exact ⟨_, Reads.bool b, fun b hb => absurd hb (by simp)⟩
  | .int i, _, _, h, r => by
    cases h
    obtain ⟨t, rfl⟩ := r
    exact ⟨_, Reads.int i t, fun b hb => absurd hb (by simp)⟩
  | .str x, _, _, h, r => by
    cases h
    obtain ⟨t, rfl⟩ := r
    exact ⟨_, Reads.str x t, fun b hb => absurd hb (by simp)⟩
  | .list ds, _, _, h, r => by
    cases h with
    | lst n hs ha =>
      cases r
      obtain ⟨its, rv, ⟨o, n, ho, hc, _, hd⟩, _⟩ := I.list (SqL.of hs)
      obtain ⟨as, hr, hk⟩ := RpAll.reads I ds _ its ha rv
      refine ⟨_, Reads.list ho hc hd hr, fun b hb => ?_⟩
      rcases List.mem_cons.mp hb with e | e
      · rw [e]
        exact ⟨_, hs⟩
      · exact hk b e
  | .tuple ds, _, _, h, r => by
    cases h with
    | tup n hs ha =>
      cases r
      obtain ⟨its, rv, ⟨o, ho, hc, n, hd⟩, _⟩ := I.tuple (SqT.of hs)
      obtain ⟨as, hr, hk⟩ := RpAll.reads I ds _ its ha rv
      exact ⟨_, Reads.tuple ho hc hd hr, hk⟩
  | .dict kds, _, _, h, r => by
    cases h with
    | @dct a k v d n hs ha =>
      cases r
      obtain ⟨_, _, vs, kv, o, es, ep, ho, hx, hd, hks, hp, _⟩ := (show ObjOk X.prog X.w H s.heap a (.dK [(.inr k, v)]) from I.hok a _ hs)
      cases vs with
      | nil => cases kv
      | cons q0 qt =>
        cases kv with
        | cons r1 rt =>
        cases rt
        obtain ⟨k2, u2⟩ := q0
        obtain ⟨e1, r2⟩ := r1
        simp only at e1 r2
        subst e1
        obtain ⟨as, hr, hk⟩ := Rp.reads I d v u2 ha r2
        generalize hl : es.toList = el at hp
        cases el with
        | nil => cases hp
        | cons e0 et =>
          cases hp with
          | cons i1 i2 i3 =>
          cases i3
          obtain ⟨t, ek⟩ := Value.isStrOf_shape (x := k) (v := e0.key) i1
          refine ⟨a :: ([] ++ []) ++ (as ++ []), Reads.dict ho hx.1 hd ?_ ?_, fun b hb => ?_⟩
          · rw [hl]
            show ReadsAll s.heap [e0.key] [.str k] ([] ++ [])
            rw [ek]
            exact .cons (.str k t) .nil
          · rw [hl]
            show ReadsAll s.heap [e0.val] [d] (as ++ [])
            rw [show e0.val = u2 from i2]
            exact .cons hr .nil
          · simp only [List.append_nil, List.cons_append, List.nil_append, List.mem_cons] at hb
            rcases hb with e | e
            · rw [e]
              exact ⟨_, hs⟩
            · exact hk b e
theorem RpAll.reads (I : Inv X pins σ H s) : ∀ (ds : List PyData) (vs : List V) (us : List Value), RpAll av H vs ds → Vals vs us → ∃ as, ReadsAll s.heap us ds as ∧ ∀ b ∈ as, ∃ o, H b = some o
  | [], _, _, h, r => by
    cases h
    cases r
    exact ⟨_, ReadsAll.nil, fun b hb => absurd hb (by simp)⟩
  | d :: ds, _, _, h, r => by
    cases h with
    | cons h1 h2 =>
      cases r with
      | cons r1 r2 =>
        obtain ⟨as, q1, k1⟩ := Rp.reads I d _ _ h1 r1
        obtain ⟨bs, q2, k2⟩ := RpAll.reads I ds _ _ h2 r2
        refine ⟨_, ReadsAll.cons q1 q2, fun b hb => ?_⟩
        rcases List.mem_append.mp hb with e | e
        · exact k1 b e
        · exact k2 b e
end
/-- repr(value) -/
def rRepr (K : PySem.W.Frag) : List V → Hp → VK → Prop := fun xs H Q => ∃ (av : Addr → Prop) (v : V) (d : PyData), xs = [v] ∧ Rp av H v d ∧ d.showable = true ∧ d.shown.length ≤ sizeLine ∧ d.depth ≤ 100 ∧ Q (.str d.shown) H
theorem call_repr (hg : X.A.guards = some []) (hu : X.A.units + 102 < cLine) (hk : ∃ o, X.K.lookup sysModules = some o) : CallR X (.builtin "repr") (rRepr X.K) := by
  intro pins s σ H xs us Q I r h
  obtain ⟨av, v, d, rfl, rp, hs, hz, hd, q⟩ := h
  obtain ⟨u, rfl, r1⟩ := vals1 r
  obtain ⟨o, hk⟩ := hk
  obtain ⟨as, rd, ht⟩ := rp.reads I d v u r1
  cases rd with
  | none => exact PySem.P.repr_of_none ⟨.str _, H, I.tok _, ⟨_, rfl⟩, q⟩
  | bool b => exact PySem.P.repr_of_bool ⟨.str _, H, I.tok _, ⟨_, rfl⟩, q⟩
  | int i t => exact PySem.P.repr_of_int (of_decide_eq_true hs) ⟨.str _, H, I.tok _, ⟨_, rfl⟩, q⟩
  | str x t => exact PySem.P.repr_of_str ⟨.str _, H, I.tok _, ⟨_, rfl⟩, q⟩ hz
  | list h1 h2 h3 h4 =>
    refine repr_of_reads' (.list h1 h2 h3 h4) hs (fun _ hm => ?_) hg (by omega) (fun _ _ e => e) (fun h' u tk hk2 => ⟨.str _, H, I.kept hk2, ⟨_, rfl⟩, q⟩) hz
    obtain ⟨w, hw⟩ := ht _ hm
    exact no_sys I hk hw rfl
  | tuple h1 h2 h3 h4 =>
    refine repr_of_reads' (.tuple h1 h2 h3 h4) hs (fun _ hm => ?_) hg (by omega) (fun _ _ e => e) (fun h' u tk hk2 => ⟨.str _, H, I.kept hk2, ⟨_, rfl⟩, q⟩) hz
    obtain ⟨w, hw⟩ := ht _ hm
    exact no_sys I hk hw rfl
  | dict h1 h2 h3 h4 h5 =>
    refine repr_of_reads' (.dict h1 h2 h3 h4 h5) hs (fun _ hm => ?_) hg (by omega) (fun _ _ e => e) (fun h' u tk hk2 => ⟨.str _, H, I.kept hk2, ⟨_, rfl⟩, q⟩) hz
    obtain ⟨w, hw⟩ := ht _ hm
    exact no_sys I hk hw rfl
end
end Rw
namespace Rw
open PySem PySem.Spec PyProof.Rows L2 PySem.SeqAt

/-! ### enumerate(a tuple) -/
abbrev tupIt (t : Addr) : Obj :=
  { cls := .type "tuple_iterator", data := .fields #[.ref t, .int 0 0] }
abbrev enumOb (i : Addr) : Obj :=
  { cls := .type "enumerate", data := .fields #[.none, .bool false, .ref i, rawInt 0, .none, .none] }
theorem enum_made (t : Addr) (items : Array Value) : Meets (Builtin.«enumerate.__new__» ⟨[.type "enumerate", .ref t], []⟩)
    (fun _ R s => s.heap.IsTuple t items ∧
      R (.ok (.ret (.ref (s.heap.push (tupIt t)).objs.size)))
        { s with heap := (s.heap.push (tupIt t)).push (enumOb s.heap.objs.size) }) := by
  refine .of_wp fun prog w A R s h => ?_
  cases s with
  | mk hp g d tk os =>
  have ht := h.1
  have hR := h.2
  have sub := sub_enumerate
  have begin_ : ∀ {A' : Around} {E : Value → Shared → Prop} {Q : Value → Shared → Prop}, Q (.ref hp.objs.size) ⟨hp.push (tupIt t), g, d, tk, os⟩ →
      wpAny (model prog w) A' (pyIter (.ref t)) Q E ⟨hp, g, d, tk, os⟩ := fun q => wpAny_pyIter_tuple ht q
  wp_walk using begin_
  refine wpAny_stack_any fun st => wpAny_pure ?_
  split
  · rename_i c _ _ _ _ _
    cases (c == Value.type "enumerate") <;> (wp_walk using begin_; exact ⟨_, rfl, hR⟩)
  · wp_walk using begin_
    exact ⟨_, rfl, hR⟩
section
variable {prog : Program} {w : World} {A : Around} {E : Value → Shared → Prop} {s : Shared}
theorem call_enum_tup {t : Addr} {items : Array Value} {Q : Value → Shared → Prop} (ht : s.heap.IsTuple t items)
    (h : ∀ h', IsEnum h' (s.heap.objs.size + 1) s.heap.objs.size 0 .none → h'.IsTupleIter s.heap.objs.size t 0 →
      (∀ b o, s.heap.get? b = some o → h'.get? b = some o) → Q (.ref (s.heap.objs.size + 1)) { s with heap := h' }) :
    wpAny (model prog w) A (call (.type "enumerate") [.ref t]) Q E s := by
  refine callType_new F.called_enumerate (by decide) (F.typeCall_enumerate_1 _) (F.newCall_enumerate_1 _)
    (fun obj => F.args_object_init_2 obj _) F.entry_enumerate_new (enum_made t items) ⟨ht, ?_⟩
  have size1 : (s.heap.push (tupIt t)).objs.size = s.heap.objs.size + 1 := Heap.size_push ..
  show _ ∧ _
  rw [size1]
  have at1 : IsEnum ((s.heap.push (tupIt t)).push (enumOb s.heap.objs.size)) (s.heap.objs.size + 1) s.heap.objs.size 0 .none := by
    rw [← size1]
    exact Heap.get?_push_size (s.heap.push (tupIt t)) (o := enumOb s.heap.objs.size) rfl
  have at0 : ((s.heap.push (tupIt t)).push (enumOb s.heap.objs.size)).IsTupleIter s.heap.objs.size t 0 :=
    ⟨_, Heap.get?_push_of_some _ (Heap.get?_push_size _ rfl), rfl, rfl⟩
  exact ⟨⟨_, at1, rfl⟩, h _ at1 at0 fun b o x => Heap.get?_push_of_some _ (Heap.get?_push_of_some _ x)⟩
end
/-- the tuple at a, each item in a new pair behind its place -/
def Itet (K : PySem.W.Frag) (a : Addr) : It where
  go i H := ∃ (xs : List V) (x : V), SqT K H a xs ∧ xs[i]? = some x
  yld i H v H' := ∃ T x, v = .ref T ∧ H T = none ∧ H' = upd H T (.tup [.int (i : Nat), x]) ∧ ∀ xs, SqT K H a xs → xs[i]? = some x
  stop i H := ∃ xs : List V, SqT K H a xs ∧ xs.length ≤ i
abbrev enSt (a e it : Addr) (i : Nat) (h : Heap) : Prop := (∃ old, IsEnum h e it ((i : Nat) : Int) old) ∧ h.IsTupleIter it a i ∧ e ≠ it ∧ e ≠ a ∧ it ≠ a
theorem turn_enumT {P : Program} {w : World} {K : PySem.W.Frag} {elts : List Expr} {kk : Nat} {tpos : Pos} (a e it : Addr) :
    Turn P w K (.Tuple elts kk tpos) (Itet K a) [e, it] e (enSt a e it) where
  mem := List.mem_cons_self ..
  obj := fun i h st b hb => by
    obtain ⟨⟨old, he⟩, ⟨o, ho, _, hd⟩, _⟩ := st
    simp only [List.mem_cons, List.not_mem_nil, or_false] at hb
    cases hb with
    | inl z => rw [z]; exact ⟨_, he, fun v q => nomatch q⟩
    | inr z => rw [z]; exact ⟨o, ho, fun v q => by rw [hd] at q; cases q⟩
  keep := fun i h h' st k => by
    obtain ⟨⟨old, he⟩, hi, rest⟩ := st
    exact ⟨⟨old, k e (by simp) _ he⟩, hi.at fun o q => k it (by simp) o q, rest⟩
  item := by
    intro X hP hw hK hc i pins s σ H E I hf st hg
    subst hP hw hK
    obtain ⟨⟨old, he⟩, hit, hne, hea, hia⟩ := st
    obtain ⟨xs, x, hq, hx⟩ := hg
    obtain ⟨its, rv, p, _⟩ := I.tuple hq
    obtain ⟨u, hu, ru⟩ := rv.get hx
    have p' : s.heap.IsTuple a its.toArray := p
    have el : e < s.heap.objs.size := Heap.lt_size he
    have il : it < s.heap.objs.size := by
      obtain ⟨_, q, _⟩ := hit
      exact Heap.lt_size q
    have lt : i < its.toArray.size := by
      have q := (List.getElem?_eq_some_iff.mp hu).1
      simpa using q
    have D := Draws.tuple (prog := X.prog) (w := X.w) (A := X.A.in1) (show X.A.in1.handled = none from I.ok.hd hc) it a (Ne.symm hia) its.toArray
    refine wpAny_pyNext_enum_itemD D he ⟨hit, p'⟩ lt hne (by simp [hne, hea]) fun y h' tk hy ho hst hT hsz hk => ?_
    have ey : y = u := by
      have q : its.toArray[i]? = some u := by simpa using hu
      exact Option.some.inj (hy.symm.trans q)
    subst ey
    refine ⟨_, rfl, wpAny_letOwnedTupleGo_enum (s := { s with heap := h', toks := tk + 1 }) ho fun h2 he2 sb => ?_⟩
    have hT2 : h2.get? s.heap.objs.size = some { cls := .type "tuple", data := .seq #[.int i tk, y] } := (sb.2 _ (Nat.ne_of_gt el)).trans hT
    have new : ObjOk X.prog X.w (upd H s.heap.objs.size (.tup [.int (i : Nat), x])) h2 s.heap.objs.size (.tup [.int (i : Nat), x]) := by
      refine ⟨by show 2 ≤ sizeLine; decide, [.int i tk, y], .cons ⟨_, rfl⟩ (.cons ru .nil), ?_⟩
      exact ⟨_, hT2, rfl, _, rfl⟩
    have turned : ∀ b ob, b ∉ [e, it] → s.heap.get? b = some ob → h2.get? b = some ob := fun b ob hb q => by
      have n1 : b ≠ e := fun z => hb (by simp [z])
      have n2 : b ≠ it := fun z => hb (by simp [z])
      exact (sb.2 b n1).trans (hk b ob n1 n2 q)
    have I1 : Inv X pins σ (upd H s.heap.objs.size (.tup [.int (i : Nat), x])) { s with heap := h2, toks := tk + 1 } := I.turnedNew (ch := [e, it]) turned hf (Nat.le_refl _) new
    refine ⟨.ref s.heap.objs.size, _, I1, rfl, ⟨_, x, rfl, I.hok.fresh (Nat.le_refl _), rfl, fun ys hy => ?_⟩, ⟨⟨y, ?_⟩, ?_, hne, hea, hia⟩, fun b hb => ?_⟩
    · rw [I.tuple_inj hy hq]
      exact hx
    · have e1 : ((i + 1 : Nat) : Int) = (i : Int) + 1 := by omega
      rw [e1]
      exact he2
    · exact hst.1.at fun o q => (sb.2 it (Ne.symm hne)).trans q
    · have lo : b < s.heap.objs.size := by
        simp only [List.mem_cons, List.not_mem_nil, or_false] at hb
        cases hb with
        | inl z => rw [z]; exact el
        | inr z => rw [z]; exact il
      rw [upd_ne (Nat.ne_of_lt lo)]
      exact (hf b hb).1
  done := by
    intro X hP hw hK hc i pins s σ H E I hf st hg
    subst hP hw hK
    obtain ⟨⟨old, he⟩, hit, hne, hea, hia⟩ := st
    obtain ⟨xs, hq, hx⟩ := hg
    obtain ⟨its, rv, p, _⟩ := I.tuple hq
    have p' : s.heap.IsTuple a its.toArray := p
    obtain ⟨f0, f1, f2, f3, f4, f5⟩ := hf it (by simp)
    have hl := rv.length
    unfold pyNext
    refine wpAny_bind (wpAny_attempt (wpAny_callSpecial?_slot (name := Str.ofString "__next__") ⟨_, he, rfl⟩ F.slot_enumerate_next ?_))
    refine wpAny_call_entry F.slot_enumerate_next ⟨_, he, rfl⟩ F.entry_enumerate_next ?_ (F.args_enumerate_next_1 _)
    show wpAny _ _ (field (.ref e) 2 >>= _) _ _ _
    refine wpAny_bind (wpAny_field he rfl (x := .ref it) rfl ?_)
    refine wpAny_bind (wpAny_nextOf_tuple_end (I.ok.hd hc) hit p' (by simp; omega) fun h' e2 he' hx' => ?_)
    obtain ⟨o2, ho2, hc2⟩ := hx'
    refine wpAny_bind (wpAny_isInstance (T := "StopIteration") (b := true) ⟨o2, ho2, hc2⟩ isSubtype_stop ?_)
    exact wpAny_pure ⟨rfl, I.turned (t' := s.toks) (fun b o hb q => he' b o hb q) f0 f1 f3 f4 f5⟩
  self := fun A i s Q E st h => by
    obtain ⟨⟨_, he⟩, _⟩ := st
    exact wpAny_pyIter_enum he h
def iEnumT (K : PySem.W.Frag) (ta : TA) : TI := fun σ H R => ta σ H fun vs H1 => ∃ a xs, vs = [.ref a] ∧ SqT K H1 a xs ∧ R (Itet K a) H1
theorem pi_enumT {X : Cx} {e : Expr} {ta : TA} {p pos tpos : Pos} {elts : List Expr} {kk : Nat} (hg : Gl X "enumerate") (hm : X.mg "enumerate" = none) (ha : PA X [e] ta)
    (hs : starEach [e] X.env = [(false, eval e X.env)] := by rfl) : PI X (.Tuple elts kk tpos) (.Call (.Name "enumerate" p) [e] [] pos) (iEnumT X.K ta) := by
  refine ⟨fun pins s σ H R I h => ?_⟩
  refine Call_ (ld_blt I hg hm boot_enumerate (PyProof.Rows.callWith_type1 ?_ hs rfl))
  refine thn (ha.run pos pins s σ H _ I h) fun us s1 ⟨vs, H1, I1, r1, a, xs, ex, hq, q⟩ => ?_
  subst ex
  obtain ⟨u, rfl, r⟩ := vals1 r1
  cases r
  obtain ⟨its, rv, p', hz⟩ := I1.tuple hq
  have p2 : s1.heap.IsTuple a its.toArray := p'
  have al : a < s1.heap.objs.size := by
    obtain ⟨_, q, _⟩ := p2
    exact Heap.lt_size q
  refine call_enum_tup p2 fun h' he hit hk => wpAny_pyIter_enum he ?_
  have I2 : Inv X pins σ H1 { s1 with heap := h' } := I1.kept (t' := s1.toks) hk
  have n1 : s1.heap.objs.size + 1 ≠ a := Nat.ne_of_gt (Nat.lt_succ_of_lt al)
  have n2 : s1.heap.objs.size ≠ a := Nat.ne_of_gt al
  refine ⟨s1.heap.objs.size + 1, [s1.heap.objs.size + 1, s1.heap.objs.size], _, _, H1, rfl, I2, turn_enumT a (s1.heap.objs.size + 1) s1.heap.objs.size, ⟨⟨.none, he⟩, hit, Nat.succ_ne_self _, n1, n2⟩, fun b hb => ?_, q⟩
  have hle : s1.heap.objs.size ≤ b := by
    simp only [List.mem_cons, List.not_mem_nil, or_false] at hb
    cases hb with
    | inl z => rw [z]; exact Nat.le_add_right _ _
    | inr z => rw [z]; exact Nat.le_refl _
  exact I1.fpOk hle (I1.hok.fresh hle)
theorem walk_enumT {K : PySem.W.Frag} {a : Addr} {xs : List V} : Walk (Itet K a) xs.length (fun H => SqT K H a xs) (YPair (fun i => some (.int (i : Nat))) (fun i => xs[i]?)) where
  goes := fun i _ hi q => ⟨xs, xs[i], q, by simp [hi]⟩
  stops := fun _ q => ⟨xs, q, Nat.le_refl _⟩
  yields := fun i H v H' _ q y => by
    obtain ⟨T, x, h1, h2, h3, h4⟩ := y
    exact ⟨T, .int (i : Nat), x, h1, h2, h3, rfl, h4 xs q⟩

/-! ### a def called by names alone -/
section
variable {X : Cx} {CX : CXT} {k : Nat} {f : Addr} {fd : FuncData} {ps ks : List Str} {sp : Sp} {E : XK} {x : Str} {p pos : Pos} {kws : List Keyword} {tk : TA} {g : List Value → List Value → List Value} {gV : List V → List V → List V}
theorem pe_callK0 (F : FnOk X.prog X.w X.K X.mg X.base CX k f fd ps sp) (hr : Room k X.A) (hg : Gl X x) (hm : X.mg x = some (.ref f)) (hk : PySem.W.keepIn X.K (.ref f) = true) (hb : KBinds X.K fd ps ks g gV) (hx : Passes CX X E) (hkw : PK X kws tk)
    (hall : (backToKw pos (keywordEach kws X.env)).all (·.1.isSome) = true := by rfl) (hks : (backToKw pos (keywordEach kws X.env)).filterMap (·.1) = ks := by rfl)
    (hdb : (x == ("__debug__" : Str)) = false := by decide) (hpl : ((backTo pos (starEach [] X.env)).any (·.1) || (backToKw pos (keywordEach kws X.env)).any (·.1.isNone)) = false := by rfl) :
    PE X (.Call (.Name x p) [] kws pos) (tCallK sp gV E tNil tk) := by
  refine ⟨fun pins s σ H Q I h => ?_⟩
  refine wpAny_Call_Name_kw (ld_glob I hg hm ?_ hdb)
  refine PySem.W.callWith_KW0 (h₀ := X.base) I.ok.mod.kin hk hall ?_ hpl
  refine thn (hkw.run pos pins s σ H _ I h) fun ws s2 ⟨zs, H2, I2, rz, q2⟩ => ⟨I2.kIn, ?_⟩
  rw [hks]
  exact run_fnk (vs := []) (us := []) F hr hb hx I2 .nil rz q2
end
end Rw
namespace Rw
open PySem PySem.Spec PyProof.Rows L2 PySem.SeqAt

/-! ### a value of any kind among texts -/
def eqS (d : PyData) (z : Str) : Bool := match d with
  | .str x => z == x
  | _ => false
def eqV2 (d : PyData) (y : Value) : Bool := match y with
  | .str z _ => eqS d z
  | _ => false
theorem strs_any (d : PyData) : ∀ (zs : List Str) (us : List Value), Vals (zs.map V.str) us → us.any (eqV2 d) = zs.any (eqS d)
  | [], _, r => by cases r; rfl
  | z :: zs, _, r => by
    cases r with
    | cons r1 r2 =>
      obtain ⟨t, rfl⟩ := r1
      rw [List.any_cons, List.any_cons, strs_any d zs _ r2]
      rfl
theorem strs_mem : ∀ {zs : List Str} {us : List Value}, Vals (zs.map V.str) us → ∀ y ∈ us, ∃ z t, y = .str z t
  | [], _, r, y, hy => by cases r; cases hy
  | z :: zs, _, r, y, hy => by
    cases r with
    | cons r1 r2 =>
      obtain ⟨t, rfl⟩ := r1
      rcases List.mem_cons.mp hy with e | e
      · exact ⟨z, t, e⟩
      · exact strs_mem r2 y e
theorem str_eqAt {A : Around} {s : Shared} {u : Value} {d : PyData} {as : List Addr} (hu : A.units < cLine) (rd : Reads s.heap u d as) (z : Str) (t : Tok) : EqAt A s (.str z t) u (eqS d z) := by
  cases rd with
  | none => exact EqAt.str_none z t
  | bool b => exact EqAt.str_bool z t b
  | int i k => exact EqAt.str_int z t i k
  | str x k => exact EqAt.str_str z t x k
  | list h1 h2 h3 h4 => exact EqAt.str_list z t ⟨_, h1, h2, _, h3⟩ hu
  | tuple h1 h2 h3 h4 => exact EqAt.str_tuple z t ⟨_, h1, h2, _, h3⟩ hu
  | dict h1 h2 h3 h4 h5 => exact eq_str_dict z t h1 h2 h3 hu
section
variable {X : Cx}
def rInS (K : PySem.W.Frag) (neg : Bool) : R2 := fun x y H Q => ∃ (av : Addr → Prop) (d : PyData) (p : Addr) (zs : List Str), Rp av H x d ∧ y = .ref p ∧ SqT K H p (zs.map V.str) ∧ Q (.bl (neg != zs.any (eqS d))) H
theorem op_inS (hu : X.A.units + 1 < cLine) : OpR X (compareOp .In) (rInS X.K false) := by
  intro pins s σ H x y v u Q I rx ry h
  obtain ⟨av, d, p, zs, hd, rfl, ht, q⟩ := h
  cases ry
  obtain ⟨as, rd, _⟩ := hd.reads I d x v rx
  obtain ⟨its, rv, ht2, _⟩ := I.tuple ht
  refine in_tupleAt (eqV2 d) ht2 (fun y hy => ?_) ?_
  · obtain ⟨z, t, rfl⟩ := strs_mem rv y (by simpa using hy)
    exact str_eqAt hu rd z t
  · refine ⟨.bl _, H, I, rfl, ?_⟩
    rw [← Array.any_toList, strs_any d zs its rv]
    simpa using q
theorem op_notInS (hu : X.A.units + 1 < cLine) : OpR X (compareOp .NotIn) (rInS X.K true) := by
  intro pins s σ H x y v u Q I rx ry h
  obtain ⟨av, d, p, zs, hd, rfl, ht, q⟩ := h
  cases ry
  obtain ⟨as, rd, _⟩ := hd.reads I d x v rx
  obtain ⟨its, rv, ht2, _⟩ := I.tuple ht
  refine notIn_tupleAt (eqV2 d) ht2 (fun y hy => ?_) ?_
  · obtain ⟨z, t, rfl⟩ := strs_mem rv y (by simpa using hy)
    exact str_eqAt hu rd z t
  · refine ⟨.bl _, H, I, rfl, ?_⟩
    rw [← Array.any_toList, strs_any d zs its rv]
    simpa using q
/-- t == () -/
def rEqNil (K : PySem.W.Frag) : R2 := fun x y H Q => ∃ (a b : Addr) (xs : List V), x = .ref a ∧ y = .ref b ∧ SqT K H a xs ∧ SqT K H b [] ∧ Q (.bl (decide (xs = []))) H
theorem op_eqNil (hu : X.A.units < cLine) : OpR X (compareOp .Eq) (rEqNil X.K) := by
  intro pins s σ H x y v u Q I rx ry h
  obtain ⟨a, b, xs, rfl, rfl, ha, hb, q⟩ := h
  cases rx
  cases ry
  obtain ⟨its, rv, h1, _⟩ := I.tuple ha
  obtain ⟨its2, rv2, h2, _⟩ := I.tuple hb
  cases rv2
  refine eq_tupleAt (e := fun _ => false) h1 h2 hu (fun j k1 k2 => absurd k2 (by simp)) ⟨.bl _, H, I, rfl, ?_⟩
  have e : ((List.range (min its.toArray.size ([] : List Value).toArray.size)).all (fun _ => false) && its.toArray.size == ([] : List Value).toArray.size) = decide (xs = []) := by
    have l := rv.length
    cases xs with
    | nil =>
      cases its with
      | nil => simp
      | cons _ _ => simp at l
    | cons _ _ =>
      cases its with
      | nil => simp at l
      | cons _ _ => simp
  rw [e]
  exact q
end

/-! ### isinstance of data -/
def clsOf : PyData → String
  | .none => "NoneType"
  | .bool _ => "bool"
  | .int _ => "int"
  | .str _ => "str"
  | .list _ => "list"
  | .tuple _ => "tuple"
  | .dict _ => "dict"
theorem Rp.ty {K : PySem.W.Frag} {av : Addr → Prop} {H : Hp} {v : V} {d : PyData} (h : Rp av H v d) : TyX K H v (.type (clsOf d)) := by
  cases h with
  | non => exact .base .non
  | bl b => exact .base (.bl b)
  | int i => exact .base (.int i)
  | str x => exact .base (.str x)
  | lst _ h _ => exact .base (.lst h)
  | tup _ h _ => exact .base (.tup h)
  | dct _ h _ => exact .base (.dK h)
def isC (n c : String) : Bool := c == n || (c == "bool" && n == "int")
def isT (n : String) (d : PyData) : Bool := isC n (clsOf d)
def clsAll : List String := ["NoneType", "bool", "int", "str", "list", "tuple", "dict"]
theorem clsOf_mem (d : PyData) : clsOf d ∈ clsAll := by
  cases d <;> simp [clsOf, clsAll]
theorem kit_all : ∀ c ∈ clsAll, ∀ n ∈ ["tuple", "int", "bool", "str", "list"], kitB c n = some (isC n c) := by decide +kernel
theorem kit_isT {K : PySem.W.Frag} (d : PyData) (n : String) (hn : n ∈ ["tuple", "int", "bool", "str", "list"]) : PySem.W.kitOne K (.type (clsOf d)) (.type n) = some (isT n d) :=
  kit_ty (kit_all _ (clsOf_mem d) n hn)
section
variable {X : Cx}
def rIsD (K : PySem.W.Frag) (n : String) : List V → Hp → VK → Prop := fun xs H Q => ∃ (av : Addr → Prop) (x : V) (d : PyData), xs = [x, .ty n] ∧ Rp av H x d ∧ Q (.bl (isT n d)) H
theorem call_isD {n : String} (hn : n ∈ ["tuple", "int", "bool", "str", "list"]) : CallR X (.builtin "isinstance") (rIsD X.K n) := by
  intro pins s σ H xs us Q I r h
  obtain ⟨av, x, d, rfl, hd, q⟩ := h
  exact call_isi pins s σ H _ us Q I r ⟨x, .ty n, _, _, _, rfl, .ty n, hd.ty, kit_isT d n hn, q⟩
end
end Rw
namespace Rw
open PySem L2
def top (i : Nat) : Stmt := PySem.Challenge.pw_roomways_k01_what_ways_are.main.body.getD i (.Pass ⟨0, 0, 0, 0⟩)
abbrev sDeck : Stmt := top 11
abbrev sDraw : Stmt := top 12
abbrev sPick : Stmt := top 13

/-! ### the deck -/
def deckKV (gl : Addr) (sd tn : Int) : List (Key × V) := [(.inr "great", .ref gl), (.inr "seal", .int sd), (.inr "turn", .int tn)]
structure DeckAt (dk gl : Addr) (H : Hp) : Prop where
  ex : ∃ (great : List Int) (sd tn : Int), H dk = some (.dK (deckKV gl sd tn)) ∧ H gl = some (.lst (great.map V.int)) ∧ great.length ≤ 63
/-- the places of a deck -/
def avD (dk gl : Addr) : Addr → Prop := fun b => b = dk ∨ b = gl
theorem k_gs : ¬ (Sum.inr ("great" : Str) : Key) = Sum.inr ("seal" : Str) := by decide +kernel
theorem k_gt : ¬ (Sum.inr ("great" : Str) : Key) = Sum.inr ("turn" : Str) := by decide +kernel
theorem k_st : ¬ (Sum.inr ("seal" : Str) : Key) = Sum.inr ("turn" : Str) := by decide +kernel
theorem deck_great (gl : Addr) (s t : Int) : valV (deckKV gl s t) (Sum.inr ("great" : Str)) = some (.ref gl) := valV_pos rfl
theorem deck_seal (gl : Addr) (s t : Int) : valV (deckKV gl s t) (Sum.inr ("seal" : Str)) = some (.int s) := by
  unfold deckKV
  rw [valV_neg k_gs, valV_pos rfl]
theorem deck_turn (gl : Addr) (s t : Int) : valV (deckKV gl s t) (Sum.inr ("turn" : Str)) = some (.int t) := by
  unfold deckKV
  rw [valV_neg k_gt, valV_neg k_st, valV_pos rfl]
theorem deck_put (gl : Addr) (s t u : Int) : putK (deckKV gl s t) (Sum.inr ("turn" : Str)) (.int u) = deckKV gl s u := by
  unfold putK
  rw [valV_any, deck_turn, if_pos (show (some (V.int t)).isSome = true from rfl)]
  unfold deckKV
  simp only [List.map_cons, List.map_nil, if_neg k_gt, if_neg k_st]
  rfl
theorem deck_merge (gl : Addr) (s t : Int) : mergeK [] (deckKV gl s t) = deckKV gl s t := by
  have n1 : ¬ (Sum.inr ("seal" : Str) : Key) = Sum.inr ("great" : Str) := fun e => k_gs e.symm
  have n2 : ¬ (Sum.inr ("turn" : Str) : Key) = Sum.inr ("great" : Str) := fun e => k_gt e.symm
  have n3 : ¬ (Sum.inr ("turn" : Str) : Key) = Sum.inr ("seal" : Str) := fun e => k_st e.symm
  unfold mergeK deckKV
  simp only [List.foldl_cons, List.foldl_nil, putK, List.any_nil, List.any_cons, List.nil_append, List.cons_append, decide_eq_false k_gs, decide_eq_false k_gt, decide_eq_false k_st, Bool.or_false, Bool.false_eq_true, if_false]
theorem DeckAt.ne {dk gl : Addr} {H : Hp} (h : DeckAt dk gl H) : dk ≠ gl := by
  obtain ⟨_, _, _, h1, h2, _⟩ := h.ex
  exact ne_of h1 h2 (by intro q; cases q)
theorem DeckAt.same {dk gl : Addr} {H H' : Hp} (h : DeckAt dk gl H) (e : Same H H') : DeckAt dk gl H' := by
  obtain ⟨g, s, t, h1, h2, h3⟩ := h.ex
  exact ⟨g, s, t, e _ _ h1, e _ _ h2, h3⟩
theorem DeckAt.new {dk gl : Addr} {H : Hp} (h : DeckAt dk gl H) {p : Addr} (n : H p = none) : ¬ avD dk gl p := by
  obtain ⟨g, s, t, h1, h2, _⟩ := h.ex
  rintro (e | e)
  · rw [e, h1] at n
    cases n
  · rw [e, h2] at n
    cases n

/-- the built-in names that are used stand for themselves -/
structure Blt (mg : Str → Option Value) : Prop where
  abs : mg "abs" = none
  int : mg "int" = none
  bool : mg "bool" = none
  str : mg "str" = none
  len : mg "len" = none
  isi : mg "isinstance" = none
  enu : mg "enumerate" = none
  rng : mg "range" = none
  list : mg "list" = none
  tup : mg "tuple" = none
  repr : mg "repr" = none

def spDeck (K : PySem.W.Frag) : Sp := fun vs H Q _ => ∃ (a : Addr) (ns : List Int), vs = [.ref a] ∧ SqL K H a (ns.map V.int) ∧ ns.length ≤ 63 ∧ ∀ (dk gl : Addr) (H' : Hp), Same H H' → DeckAt dk gl H' → Q (.ref dk) H'
def spDraw : Sp := fun vs H Q _ => ∃ (dk gl : Addr) (many : Int), vs = [.ref dk, .int many] ∧ DeckAt dk gl H ∧ many < 1000000 ∧ ∀ (r : Int) (H' : Hp), Ext (avD dk gl) H H' → DeckAt dk gl H' → 0 ≤ r → (r < many ∨ (r = 0 ∧ many < 2)) → Q (.int r) H'

section
variable {P : Program} {w : World} {K : PySem.W.Frag} {mg : Str → Option Value} {base : Heap}
theorem scDeck : FnScope ["script", "cells", "seal", "cell", "own"] ["script"] (defScope sDeck) := ⟨rfl, rfl, rfl, by decide +kernel, rfl, by decide +kernel, by decide +kernel⟩
theorem mem_ints {ns : List Int} {i : Nat} {x : V} (h : (ns.map V.int)[i]? = some x) : ∃ n, ns[i]? = some n ∧ x = .int n := by
  rw [List.getElem?_map] at h
  cases e : ns[i]? with
  | none =>
    rw [e] at h
    cases h
  | some n =>
    rw [e] at h
    exact ⟨n, rfl, (Option.some.inj h).symm⟩
theorem sz {n : Nat} (h : n ≤ 100000) : n ≤ sizeLine := Nat.le_trans h (by decide)
theorem szlt {n : Nat} (h : n ≤ 100000) : n < sizeLine := Nat.lt_of_le_of_lt h (by decide)
theorem cut_ints (ns : List Int) (lo hi : Option Int) : cutV (ns.map V.int) lo hi = ((ns.drop (HT.sIx (ns.map V.int).length 0 lo)).take (HT.sIx (ns.map V.int).length (ns.map V.int).length hi - HT.sIx (ns.map V.int).length 0 lo)).map V.int := by
  unfold cutV
  rw [List.map_take, List.map_drop]
theorem cut_ints_ex (ns : List Int) (lo hi : Option Int) : ∃ ms : List Int, cutV (ns.map V.int) lo hi = ms.map V.int ∧ ms.length ≤ ns.length := by
  refine ⟨_, cut_ints ns lo hi, ?_⟩
  rw [List.length_take, List.length_drop]
  omega
theorem snoc_ints {H : Hp} {D : Addr} {cs : List Int} {z : Int} {n : Nat} (h : cs.length ≤ n) : ∃ es : List Int, upd H D (.lst (cs.map V.int ++ [V.int z])) D = some (.lst (es.map V.int)) ∧ es.length ≤ n + 1 := by
  refine ⟨cs ++ [z], ?_, ?_⟩
  · rw [upd_same, List.map_append]
    rfl
  · rw [List.length_append, List.length_singleton]
    omega
theorem same_upd {H0 H : Hp} {D : Addr} (h : Same H0 H) (hD : H0 D = none) (o : HO) : Same H0 (upd H D o) := fun b u e => by
  rw [upd_ne (ne_of_none e hD)]
  exact h _ _ e
theorem ok_deck {f : Addr} {fd : FuncData} (F : Fun K "_law_deck" "_law_deck" sDeck f fd) (B : Blt mg) : FnOk P w K mg base CX0 1 f fd ["script"] (spDeck K) := by
  refine F.ok scDeck (fun vs H Q E h => ?_) (fun cdv A outer s H vs Q E hr h => ?_)
  · obtain ⟨a, ns, rfl, _⟩ := h
    rfl
  obtain ⟨a, ns, rfl, hS, hlen, q⟩ := h
  have nd := scDeck.nd
  refine ⟨_, pss_cons (ps_par (i := 1) (j := 2) (by rfl) nd rfl rfl (by decide) rfl rfl (pa_cons
      (pe_lc (own := [("own", 4)]) (g := gName 4) (tt := tYes) rfl nd (pi_list (pe_slice sl_list (pv 0) po_none (po_some pe_int))) (blkOk_by (N := ["script", "cells", "seal", "cell", "own"]) (sc := defScope sDeck) (by decide +kernel))
        (fun _ _ _ _ _ => pg_name (i := 4) nd rfl (Or.inl rfl)) (fun _ _ _ _ _ => pts_nil)
        (fun _ _ _ _ _ => pe_op op_add (pe_op op_mul pe_int (pe_callB call_abs (by rfl) B.abs (by decide +kernel) (pa_cons (pv 4) pa_nil))) (pe_callTy call_int1 (by rfl) B.int (by decide +kernel) (pa_cons (pe_cmpR op_lt (pv 4) pe_int (nomark _)) pa_nil))))
      (pa_cons (pe_op op_add pe_int (pe_op op_mul pe_int (pe_callB call_len_seq (by rfl) B.len PySem.boot_len (pa_cons (pv 0) pa_nil)))) pa_nil)) (by rfl))
    (pss_cons (ps_for PassesOwn.never rfl (pi_list (pv 1)) (pg_name (i := 3) nd rfl (Or.inl rfl))
      (pss_one (ps_set (i := 2) nd rfl (Or.inl rfl) (pe_op op_mod (pe_callTy call_int1 (by rfl) B.int (by decide +kernel) (pa_cons (pe_op op_add (pe_op op_add (pe_op op_mul (pv 2) pe_int) (pv 3)) pe_int) pa_nil)) pe_int))))
    (pss_one (ps_ret (pe_disp (pps_cons pe_str (pe_revL (pe_lc (own := [("cell", 3)]) (g := gName 3) (tt := _) rfl nd (pi_list (pv 1)) (blkOk_by (N := ["script", "cells", "seal", "cell", "own"]) (sc := defScope sDeck) (by decide +kernel))
        (fun _ _ _ _ _ => pg_name (i := 3) nd rfl (Or.inl rfl)) (fun _ _ _ _ _ => pts_one (pt_cmpR op_ge (pv 3) (pe_op op_pow pe_int pe_int) (nomark _))) (fun _ _ _ _ _ => pv 3)))
      (pps_cons pe_str (pv 2) (pps_cons pe_str pe_int pps_nil))) (by rfl) (by rfl) (fun z => by cases z) (by decide))))), ?_⟩
  obtain ⟨ms, ecut, lcut⟩ := cut_ints_ex ns none (some 63)
  -- cells
  refine ⟨_, rfl, 63, rfl, a, _, rfl, hS, fun p hp => ⟨p, rfl, ⟨_, SqL.of upd_same⟩, fun D hD => ?_⟩⟩
  rw [ecut] at hD ⊢
  have s1 : Same H (upd H p (.lst (ms.map V.int))) := same_new hp _
  have hD0 : H D = none := s1.free hD
  refine lc_list (K := K) (a := p) (xs := ms.map V.int) (fun i H' => Same (upd H p (.lst (ms.map V.int))) H' ∧ ∃ cs : List Int, H' D = some (.lst (cs.map V.int)) ∧ cs.length ≤ i) ?_ ?_ ?_ ?_
  · exact ⟨same_new hD _, [], upd_same, Nat.le_refl _⟩
  · rintro i H' _ ⟨e, _⟩
    exact SqL.of (e _ _ upd_same)
  · rintro i x H' hi ⟨e, cs, hcs, lcs⟩
    obtain ⟨n, hn, rfl⟩ := mem_ints hi
    have hi2 : i < ms.length := (List.getElem?_eq_some_iff.mp hn).1
    refine ⟨rfl, ?_⟩
    -- kept
    refine iteT (B := True) ?_
    refine ⟨_, rfl, n, rfl, _, _, rfl, rfl, .inl ⟨by decide, by decide⟩, _, rfl, _, _, rfl, rfl, .inr ⟨_, rfl, _, _, rfl, rfl, _, hcs, szlt (by rw [List.length_map]; omega), ?_⟩⟩
    exact ⟨same_upd e hD _, snoc_ints lcs⟩
  rintro H1 ⟨e1, cs, hcs, lcs⟩
  rw [List.length_map] at lcs
  have e01 : Same H H1 := s1.trans e1
  refine ⟨_, rfl, a, _, rfl, .inl (e01.seq hS), _, _, rfl, rfl, .inl ⟨by decide, by decide⟩, _, _, rfl, rfl, _, _, rfl, ?_⟩
  -- the loop
  refine ⟨_, rfl, D, rfl, ⟨_, SqL.of hcs⟩, for_list (K := K) (a := D) (xs := cs.map V.int) (fun i σ H' => H' = H1 ∧ ∃ (z : Int) (v : Option V), σ = [some (.ref a), some (.ref D), some (.int z), v, none]) ⟨rfl, _, _, rfl⟩ (fun i σ H' _ ⟨e, _⟩ => by rw [e]; exact SqL.of hcs) ?_ ?_⟩
  · rintro i x σ H' hi ⟨rfl, z, v, rfl⟩
    obtain ⟨n, hn, rfl⟩ := mem_ints hi
    refine ⟨_, rfl, _, _, rfl, rfl, .inr ⟨by decide, by decide⟩, _, rfl, _, _, rfl, rfl, _, _, rfl, rfl, .inl ⟨_, rfl, _, _, rfl, rfl, (by show (0 : Int) < 4294967291; decide), rfl, _, _, rfl⟩⟩
  · rintro σ H' ⟨rfl, z, v, rfl⟩
    -- the dict
    intro dk hdk
    have e02 : Same H (upd H' dk (.dK [])) := e01.trans (same_new hdk _)
    refine ⟨_, rfl, D, rfl, ⟨_, SqL.of (same_new hdk _ _ _ hcs)⟩, fun L hL => ?_⟩
    have hD2 := same_new hdk (.dK []) _ _ hcs
    have e03 : Same H (upd (upd H' dk (.dK [])) L (.lst [])) := e02.trans (same_new hL _)
    refine lc_list (K := K) (a := D) (xs := cs.map V.int) (fun i H2 => Same (upd H' dk (.dK [])) H2 ∧ ∃ gs : List Int, H2 L = some (.lst (gs.map V.int)) ∧ gs.length ≤ i) ?_ ?_ ?_ ?_
    · exact ⟨same_new hL _, [], upd_same, Nat.le_refl _⟩
    · rintro i H2 _ ⟨e, _⟩
      exact SqL.of (e _ _ hD2)
    · rintro i x H2 hi ⟨e, gs, hgs, lgs⟩
      obtain ⟨n, hn, rfl⟩ := mem_ints hi
      have hi2 : i < cs.length := (List.getElem?_eq_some_iff.mp hn).1
      refine ⟨rfl, ?_⟩
      refine ⟨_, rfl, 10, 18, rfl, rfl, ⟨by decide, by decide, by decide⟩, _, _, rfl, rfl, _, rfl, ?_⟩
      refine ite2 (fun _ => ?_) (fun _ => ?_)
      · exact ⟨_, rfl, _, hgs, szlt (by rw [List.length_map]; omega), same_upd e hL _, snoc_ints lgs⟩
      · exact ⟨e, gs, hgs, by omega⟩
    rintro H3 ⟨e3, gs, hgs, lgs⟩
    rw [List.length_map] at lgs
    refine ⟨L, _, rfl, SqL.of hgs, fun G hG => ?_⟩
    have e04 : Same H3 (upd H3 G (.lst (gs.map V.int).reverse)) := same_new hG _
    have hdk0 : H' dk = none := hdk
    refine ⟨_, rfl, e04 _ _ (e3 _ _ upd_same), deckKV G z 0, rfl, (by show 3 ≤ 15; decide), ?_⟩
    have dG : dk ≠ G := ne_of_none (e3 _ _ upd_same) hG
    refine q dk G _ (fun b o e => ?_) ⟨gs.reverse, z, 0, ?_, ?_, ?_⟩
    · have ne : b ≠ dk := ne_of_none (e01 _ _ e) hdk0
      rw [upd_ne ne]
      exact e04 _ _ (e3 _ _ (e02 _ _ e))
    · rw [upd_same, deck_merge]
    · rw [upd_ne dG.symm, upd_same, List.map_reverse]
    · rw [List.length_reverse]
      omega
end
end Rw
namespace Rw
open PySem L2
theorem dget_of {H : Hp} {a : Addr} {kvs : List (Key × V)} {k : Key} {v : V} (h : H a = some (.dK kvs)) (e : valV kvs k = some v) : DGet H a (kV k) (some v) := by
  rw [← e]
  exact DGet.k h
theorem dp_ints {K : PySem.W.Frag} {H : Hp} : ∀ ns : List Int, DpAll K H (ns.map V.int) (ns.map PyData.int)
  | [] => .nil
  | n :: r => .cons (.int n) (dp_ints r)
theorem lay_ints : ∀ ns : List Int, PyData.canLayAll0 (ns.map PyData.int) = true
  | [] => rfl
  | n :: r => by
    rw [List.map_cons]
    simp only [PyData.canLayAll0, PyData.canLay0, lay_ints r, Bool.and_self]
theorem depth_ints : ∀ ns : List Int, PyData.depthAll (ns.map PyData.int) = 0
  | [] => rfl
  | n :: r => by
    rw [List.map_cons]
    simp only [PyData.depthAll, PyData.depth, depth_ints r, Nat.max_self]
theorem shaped_ints (ns : List Int) : SeqAt.shaped (.list (ns.map PyData.int)) = true := by
  show (PyData.canLay0 (.list (ns.map PyData.int)) && decide (PyData.depth (.list (ns.map PyData.int)) ≤ 64)) = true
  rw [Bool.and_eq_true]
  refine ⟨lay_ints ns, decide_eq_true ?_⟩
  simp only [PyData.depth, depth_ints]
  omega
theorem eqv_ints : ∀ ns ms : List Int, PyData.eqv (.list (ns.map PyData.int)) (.list (ms.map PyData.int)) = decide (ns = ms) := by
  have all : ∀ ns ms : List Int, PyData.eqvAll (ns.map PyData.int) (ms.map PyData.int) = decide (ns = ms) := by
    intro ns
    induction ns with
    | nil =>
      intro ms
      cases ms with
      | nil => rfl
      | cons m r => rfl
    | cons n r ih =>
      intro ms
      cases ms with
      | nil => rfl
      | cons m t =>
        rw [List.map_cons, List.map_cons, PyData.eqvAll, ih t, PyData.eqv]
        by_cases e1 : n = m
        · subst e1
          simp
        · simp [e1]
  intro ns ms
  rw [PyData.eqv]
  exact all ns ms
theorem last_ints {g : List Int} (h : g ≠ []) : ∃ c : Int, (g.map V.int)[(g.map V.int).length - 1]? = some (.int c) ∧ (g.map V.int).dropLast = (g.dropLast).map V.int := by
  have hl : g.length - 1 < g.length := by
    have := List.length_pos_iff.mpr h
    omega
  refine ⟨g[g.length - 1], ?_, ?_⟩
  · rw [List.length_map, List.getElem?_map, List.getElem?_eq_getElem hl]
    rfl
  · rw [List.map_dropLast]
section
variable {P : Program} {w : World} {K : PySem.W.Frag} {mg : Str → Option Value} {base : Heap}
theorem scDraw : FnScope ["deck", "many", "cell", "one", "two"] ["deck", "many"] (defScope sDraw) := ⟨rfl, rfl, rfl, by decide +kernel, rfl, by decide +kernel, by decide +kernel⟩
theorem ok_draw {f : Addr} {fd : FuncData} (F : Fun K "_law_draw" "_law_draw" sDraw f fd) (B : Blt mg) : FnOk P w K mg base CX0 1 f fd ["deck", "many"] spDraw := by
  refine F.ok scDraw (fun vs H Q E h => ?_) (fun cdv A outer s H vs Q E hr h => ?_)
  · obtain ⟨_, _, _, rfl, _⟩ := h
    rfl
  obtain ⟨dk, gl, many, rfl, hD, hmany, q⟩ := h
  have nd := scDraw.nd
  have hu := hu_of hr
  have hu64 : (A.deeper (PyProof.Rows.envOfC "_law_draw" (defScope sDraw) s.heap.objs.size f cdv)).units + 64 < cLine := by
    have := hr.un
    omega
  refine ⟨_, pss_cons (ps_if (pt_cmpR op_lt (pv 1) pe_int (nomark _)) (pss_one (ps_ret pe_int)) pss_nil)
    (pss_cons (ps_if (pt_cmpR (op_neD hu64) (pe_dget hu (pv 0) pe_str (fun _ _ => rfl)) (pe_lst pa_nil) (nomark _))
      (pss_cons (ps_set (i := 2) nd rfl (Or.inl rfl) (pe_bm0 PySem.F.plainAttrs_list PySem.F.slot_list_pop PySem.F.type_list_pop mt_pop (pe_dget hu (pv 0) pe_str (fun _ _ => rfl))))
      (pss_cons (ps_if (pt_cmpR op_ge (pv 2) (pv 1) (nomark _)) (pss_one (ps_expr (pe_bm PySem.F.plainAttrs_list PySem.F.slot_list_append PySem.F.type_list_append mt_append (pe_dget hu (pv 0) pe_str (fun _ _ => rfl)) (pa_cons (pe_op op_fdivN (pv 2) (pv 1)) pa_nil)))) pss_nil)
      (pss_one (ps_ret (pe_op op_modN (pe_callTy call_int1 (by rfl) B.int (by decide +kernel) (pa_cons (pv 2) pa_nil)) (pv 1)))))) pss_nil)
    (pss_cons (ps_dput hu (pv 0) pe_str (pe_op op_add (pe_dget hu (pv 0) pe_str (fun _ _ => rfl)) pe_int) rfl)
    (pss_cons (ps_set (i := 3) nd rfl (Or.inl rfl) (pe_op op_mod (pe_callTy call_int1 (by rfl) B.int (by decide +kernel) (pa_cons (pe_op op_add (pe_dget hu (pv 0) pe_str (fun _ _ => rfl)) (pe_op op_mul (pe_dget hu (pv 0) pe_str (fun _ _ => rfl)) pe_int)) pa_nil)) pe_int))
    (pss_cons (ps_set (i := 4) nd rfl (Or.inl rfl) (pe_op op_mod (pe_callTy call_int1 (by rfl) B.int (by decide +kernel) (pa_cons (pe_op op_add (pe_op op_add (pe_op op_mul (pv 3) (pv 3)) (pe_op op_mul (pe_dget hu (pv 0) pe_str (fun _ _ => rfl)) pe_int)) pe_int) pa_nil)) pe_int))
    (pss_one (ps_ret (pe_op op_modN (pe_callTy call_int1 (by rfl) B.int (by decide +kernel) (pa_cons (pe_op op_fdiv (pe_op op_mod (pe_callTy call_int1 (by rfl) B.int (by decide +kernel) (pa_cons (pe_op op_add (pe_op op_mul (pv 4) (pv 4)) (pv 3)) pa_nil)) pe_int) pe_int) pa_nil)) (pv 1)))))))), ?_⟩
  obtain ⟨great, sd, tn, h1, h2, h3⟩ := hD.ex
  have gk : ∀ {H' : Hp}, H' dk = some (.dK (deckKV gl sd tn)) → DGet H' dk (kV (Sum.inr "great")) (some (.ref gl)) := fun e => dget_of e (deck_great _ _ _)
  refine ⟨_, rfl, _, _, rfl, rfl, _, rfl, ?_⟩
  refine ite2 (fun c => ?_) (fun c => ?_)
  · exact q 0 H Ext.refl hD (Int.le_refl 0) (.inr ⟨rfl, of_decide_eq_true c⟩)
  have hm : 2 ≤ many := by
    have c2 := of_decide_eq_false (Bool.eq_false_iff.mpr c)
    omega
  refine ⟨_, rfl, dk, _, rfl, gk h1, Nat.zero_le _, fun l hl => ?_⟩
  have s1 : Same H (upd H l (.lst [])) := same_new hl _
  have hl2 : upd H l (.lst []) l = some (.lst []) := upd_same
  refine ⟨.list (great.map PyData.int), .list (([] : List Int).map PyData.int), .lst (SqL.of (s1 _ _ h2)) (dp_ints great), .lst (SqL.of upd_same) .nil, shaped_ints great, shaped_ints [], _, rfl, ?_⟩
  rw [eqv_ints]
  have f1 := s1 _ _ h1
  have f2 := s1 _ _ h2
  have D1 : DeckAt dk gl (upd H l (.lst [])) := hD.same s1
  have E1 : Ext (avD dk gl) H (upd H l (.lst [])) := Ext.of_same s1
  generalize upd H l (.lst []) = H1 at f1 f2 D1 E1
  refine ite2 (fun c => ?_) (fun c => ?_)
  · have hg : great ≠ [] := by simpa using c
    obtain ⟨cell, hc, hdl⟩ := last_ints hg
    have ng := D1.ne
    refine ⟨_, rfl, dk, _, rfl, gk f1, .inl ⟨rfl, _, SqL.of f2⟩, gl, _, _, rfl, rfl, f2, hc, ?_⟩
    rw [hdl]
    have f3 : upd H1 gl (.lst (great.dropLast.map V.int)) dk = some (.dK (deckKV gl sd tn)) := by
      rw [upd_ne ng]
      exact f1
    have l3 : great.dropLast.length ≤ 62 := by
      rw [List.length_dropLast]
      omega
    have E2 : Ext (avD dk gl) H (upd H1 gl (.lst (great.dropLast.map V.int))) := E1.trans (Ext.put (.inr rfl) _)
    have D2 : DeckAt dk gl (upd H1 gl (.lst (great.dropLast.map V.int))) := ⟨_, _, _, f3, upd_same, by omega⟩
    have f4 : upd H1 gl (.lst (great.dropLast.map V.int)) gl = some (.lst (great.dropLast.map V.int)) := upd_same
    generalize upd H1 gl (.lst (great.dropLast.map V.int)) = H2 at f3 f4 E2 D2
    have fin : ∀ H3, Ext (avD dk gl) H H3 → DeckAt dk gl H3 → Q (.int (cell.fmod many)) H3 := fun H3 e d => by
      have p0 : 0 ≤ cell.fmod many := Int.fmod_nonneg_of_pos cell (by omega)
      have p1 : cell.fmod many < many := Int.fmod_lt_of_pos cell (by omega)
      exact q _ H3 e d p0 (.inl p1)
    refine ⟨_, rfl, _, rfl, _, _, rfl, rfl, _, rfl, ?_⟩
    refine ite2 (fun _ => ?_) (fun _ => ?_)
    · refine ⟨_, rfl, dk, _, rfl, gk f3, .inl ⟨rfl, _, SqL.of f4⟩, _, rfl, _, rfl, _, _, rfl, rfl, ⟨by omega, by omega⟩, gl, _, _, rfl, rfl, f4, szlt (by rw [List.length_map]; omega), ?_⟩
      refine ⟨_, rfl, .inl ⟨_, rfl, _, rfl, _, _, rfl, rfl, by omega, ?_⟩⟩
      refine fin _ (E2.trans (Ext.put (.inr rfl) _)) ⟨great.dropLast ++ [cell.fdiv many], sd, tn, ?_, ?_, ?_⟩
      · rw [upd_ne ng]
        exact f3
      · rw [upd_same, List.map_append]
        rfl
      · rw [List.length_append, List.length_singleton]
        omega
    · exact ⟨_, rfl, .inl ⟨_, rfl, _, rfl, _, _, rfl, rfl, by omega, fin _ E2 D2⟩⟩
  · -- the second way: a mixed number
    have ng := D1.ne
    have gt : ∀ {H' : Hp} {z : Int}, H' dk = some (.dK (deckKV gl sd z)) → DGet H' dk (kV (Sum.inr "turn")) (some (.int z)) := fun e => dget_of e (deck_turn _ _ _)
    have gs : ∀ {H' : Hp} {z : Int}, H' dk = some (.dK (deckKV gl sd z)) → DGet H' dk (kV (Sum.inr "seal")) (some (.int sd)) := fun e => dget_of e (deck_seal _ _ _)
    have put : DPut H1 dk (kV (Sum.inr "turn")) (.int (tn + 1)) (upd H1 dk (.dK (deckKV gl sd (tn + 1)))) := by
      have p := DPut.k (k := Sum.inr "turn") (v := .int (tn + 1)) f1 (by show 3 < sizeLine; decide)
      rw [deck_put] at p
      exact p
    refine ⟨_, rfl, dk, _, rfl, gt f1, _, _, rfl, rfl, _, rfl, dk, _, rfl, put, ?_⟩
    have f3 : upd H1 dk (.dK (deckKV gl sd (tn + 1))) dk = some (.dK (deckKV gl sd (tn + 1))) := upd_same
    have f4 : upd H1 dk (.dK (deckKV gl sd (tn + 1))) gl = some (.lst (great.map V.int)) := by
      rw [upd_ne ng.symm]
      exact f2
    have E2 : Ext (avD dk gl) H (upd H1 dk (.dK (deckKV gl sd (tn + 1)))) := E1.trans (Ext.put (.inl rfl) _)
    generalize upd H1 dk (.dK (deckKV gl sd (tn + 1))) = H2 at f3 f4 E2
    have D2 : DeckAt dk gl H2 := ⟨great, sd, tn + 1, f3, f4, h3⟩
    have b1 : ∀ z : Int, -(2 ^ 64) < z % 4294967291 ∧ z % 4294967291 < 2 ^ 64 := fun z => by
      have k1 := Int.emod_nonneg z (b := 4294967291) (by decide)
      have k2 := Int.emod_lt_of_pos z (b := 4294967291) (by decide)
      omega
    have b2 : ∀ z : Int, -(2 ^ 64) < z % 4294967279 ∧ z % 4294967279 < 2 ^ 64 := fun z => by
      have k1 := Int.emod_nonneg z (b := 4294967279) (by decide)
      have k2 := Int.emod_lt_of_pos z (b := 4294967279) (by decide)
      omega
    refine ⟨_, rfl, dk, _, rfl, gs f3, _, rfl, dk, _, rfl, gt f3, _, _, rfl, rfl, .inr ⟨by decide, by decide⟩, _, _, rfl, rfl, .inl ⟨_, rfl, _, _, rfl, rfl, (by show (0 : Int) < 4294967291; decide), ?_⟩⟩
    refine ⟨_, rfl, _, rfl, _, _, rfl, rfl, .inl (b1 _), _, rfl, dk, _, rfl, gt f3, _, _, rfl, rfl, .inr ⟨by decide, by decide⟩, _, _, rfl, rfl, _, _, rfl, rfl, .inl ⟨_, rfl, _, _, rfl, rfl, (by show (0 : Int) < 4294967279; decide), ?_⟩⟩
    refine ⟨_, rfl, _, rfl, _, _, rfl, rfl, .inl (b2 _), _, rfl, _, _, rfl, rfl, .inl ⟨_, rfl, _, _, rfl, rfl, (by show (0 : Int) < 4294967231; decide), _, _, rfl, rfl, ⟨by decide, by decide⟩, .inl ⟨_, rfl, _, rfl, _, _, rfl, rfl, by omega, ?_⟩⟩⟩
    have p0 : ∀ z : Int, 0 ≤ z.fmod many := fun z => Int.fmod_nonneg_of_pos z (by omega)
    have p1 : ∀ z : Int, z.fmod many < many := fun z => Int.fmod_lt_of_pos z (by omega)
    exact q _ H2 E2 D2 (p0 _) (.inl (p1 _))
end
end Rw
namespace Rw
open PySem L2

/-! ### data that can be shown: short leaves, not too deep, not too heavy -/
structure Nc (k : Nat) (d : PyData) : Prop where
  sh : d.leavesShort 25 = true
  sw : d.showable = true
  dp : d.depth ≤ k
structure NcAll (k : Nat) (ds : List PyData) : Prop where
  sh : PyData.leavesShortAll 25 ds = true
  sw : PyData.showableAll ds = true
  dp : PyData.depthAll ds ≤ k
theorem Nc.up {k j : Nat} {d : PyData} (h : Nc k d) (e : k ≤ j) : Nc j d := ⟨h.sh, h.sw, Nat.le_trans h.dp e⟩
theorem NcAll.up {k j : Nat} {d : List PyData} (h : NcAll k d) (e : k ≤ j) : NcAll j d := ⟨h.sh, h.sw, Nat.le_trans h.dp e⟩
theorem Nc.non {k : Nat} : Nc k .none := ⟨rfl, rfl, Nat.zero_le _⟩
theorem Nc.bl {k : Nat} (b : Bool) : Nc k (.bool b) := ⟨rfl, rfl, Nat.zero_le _⟩
theorem Nc.int {k : Nat} {i : Int} (h : i.natAbs < 10 ^ 20) : Nc k (.int i) := by
  refine ⟨?_, ?_, Nat.zero_le _⟩
  · have e := int_text_length_le10 (k := 20) (by decide) h
    have e2 : (PyData.shown (.int i)).length ≤ 25 := by
      show (Str.ofString (toString i)).length ≤ 25
      rw [ofString_length]
      omega
    simp only [PyData.leavesShort, decide_eq_true e2]
  · have l : i.natAbs.log2 < 1920 := by
      by_cases h0 : i.natAbs = 0
      · rw [h0]
        decide
      · have q : i.natAbs.log2 < 69 := (Nat.log2_lt h0).mpr (Nat.lt_trans h (by decide))
        omega
    simp only [PyData.showable, decide_eq_true l]
theorem Nc.str {k : Nat} {x : Str} (h : (x.cps.toList.all fun c => decide (c < 16 ^ 8)) = true) : Nc k (.str x) := ⟨h, rfl, Nat.zero_le _⟩
theorem NcAll.nil {k : Nat} : NcAll k [] := ⟨rfl, rfl, Nat.zero_le _⟩
theorem NcAll.cons {k : Nat} {d : PyData} {ds : List PyData} (a : Nc k d) (b : NcAll k ds) : NcAll k (d :: ds) := by
  refine ⟨?_, ?_, ?_⟩
  · simp only [PyData.leavesShortAll, a.sh, b.sh, Bool.and_self]
  · simp only [PyData.showableAll, a.sw, b.sw, Bool.and_self]
  · simp only [PyData.depthAll]
    exact Nat.max_le.mpr ⟨a.dp, b.dp⟩
theorem NcAll.parts {k : Nat} {d : PyData} {ds : List PyData} (h : NcAll k (d :: ds)) : Nc k d ∧ NcAll k ds := by
  have h1 : d.leavesShort 25 = true ∧ PyData.leavesShortAll 25 ds = true := by
    have q := h.sh
    simpa only [PyData.leavesShortAll, Bool.and_eq_true] using q
  have h2 : d.showable = true ∧ PyData.showableAll ds = true := by
    have q := h.sw
    simpa only [PyData.showableAll, Bool.and_eq_true] using q
  have h3 : d.depth ≤ k ∧ PyData.depthAll ds ≤ k := by
    have q := h.dp
    simp only [PyData.depthAll] at q
    exact Nat.max_le.mp q
  exact ⟨⟨h1.1, h2.1, h3.1⟩, ⟨h1.2, h2.2, h3.2⟩⟩
theorem NcAll.iff {k : Nat} : ∀ {ds : List PyData}, NcAll k ds ↔ ∀ d ∈ ds, Nc k d
  | [] => ⟨fun _ d h => absurd h (by simp), fun _ => NcAll.nil⟩
  | d :: ds => by
    constructor
    · intro h x hx
      rcases List.mem_cons.mp hx with e | e
      · rw [e]
        exact h.parts.1
      · exact NcAll.iff.mp h.parts.2 x e
    · intro h
      exact .cons (h d List.mem_cons_self) (NcAll.iff.mpr fun x hx => h x (List.mem_cons_of_mem _ hx))
theorem Nc.tup {k : Nat} {ds : List PyData} (h : NcAll k ds) : Nc (k + 1) (.tuple ds) := by
  refine ⟨?_, ?_, ?_⟩
  · simp only [PyData.leavesShort, h.sh]
  · simp only [PyData.showable, h.sw]
  · simp only [PyData.depth]
    have := h.dp
    omega
theorem Nc.lst {k : Nat} {ds : List PyData} (h : NcAll k ds) : Nc (k + 1) (.list ds) := by
  refine ⟨?_, ?_, ?_⟩
  · simp only [PyData.leavesShort, h.sh]
  · simp only [PyData.showable, h.sw]
  · simp only [PyData.depth]
    have := h.dp
    omega
theorem Nc.dct {k : Nat} {x : Str} {d : PyData} (hx : Nc k (.str x)) (h : Nc k d) : Nc (k + 1) (.dict [(.str x, d)]) := by
  refine ⟨?_, ?_, ?_⟩
  · simp only [PyData.leavesShort, PyData.leavesShortKv, h.sh, Bool.and_true]
    exact hx.sh
  · simp only [PyData.showable, PyData.showableKv, h.sw, Bool.and_self]
  · simp only [PyData.depth, PyData.depthKv]
    have := h.dp
    omega
theorem Nc.of_tup {k : Nat} {ds : List PyData} (h : Nc k (.tuple ds)) : NcAll (k - 1) ds ∧ 1 ≤ k := by
  have h1 := h.sh
  have h2 := h.sw
  have h3 := h.dp
  simp only [PyData.leavesShort] at h1
  simp only [PyData.showable] at h2
  simp only [PyData.depth] at h3
  exact ⟨⟨h1, h2, by omega⟩, by omega⟩
theorem NcAll.app {k : Nat} {ds es : List PyData} (a : NcAll k ds) (b : NcAll k es) : NcAll k (ds ++ es) := NcAll.iff.mpr fun d hd => by
  rcases List.mem_append.mp hd with e | e
  · exact NcAll.iff.mp a d e
  · exact NcAll.iff.mp b d e
theorem NcAll.sub {k : Nat} {ds es : List PyData} (a : NcAll k ds) (h : ∀ d ∈ es, d ∈ ds) : NcAll k es := NcAll.iff.mpr fun d hd => NcAll.iff.mp a d (h d hd)
theorem NcAll.set {k : Nat} {ds : List PyData} {d : PyData} (a : NcAll k ds) (b : Nc k d) (i : Nat) : NcAll k (ds.set i d) := NcAll.iff.mpr fun x hx => by
  rcases List.mem_or_eq_of_mem_set hx with e | e
  · exact NcAll.iff.mp a x e
  · rw [e]
    exact b
theorem wA_app : ∀ ds es : List PyData, PyData.weightAll (ds ++ es) = PyData.weightAll ds + PyData.weightAll es
  | [], es => by simp [PyData.weightAll]
  | d :: ds, es => by
    rw [List.cons_append]
    simp only [PyData.weightAll, wA_app ds es]
    omega
theorem wA_mem : ∀ {ds : List PyData} {d : PyData}, d ∈ ds → d.weight + 1 ≤ PyData.weightAll ds
  | e :: ds, d, h => by
    simp only [PyData.weightAll]
    rcases List.mem_cons.mp h with q | q
    · rw [q]
      omega
    · have := wA_mem q
      omega
theorem wA_take (n : Nat) (ds : List PyData) : PyData.weightAll (ds.take n) ≤ PyData.weightAll ds := by
  have h := wA_app (ds.take n) (ds.drop n)
  rw [List.take_append_drop] at h
  omega
theorem wA_drop (n : Nat) (ds : List PyData) : PyData.weightAll (ds.drop n) ≤ PyData.weightAll ds := by
  have h := wA_app (ds.take n) (ds.drop n)
  rw [List.take_append_drop] at h
  omega
theorem wA_set : ∀ (ds : List PyData) (i : Nat) (d : PyData), PyData.weightAll (ds.set i d) ≤ PyData.weightAll ds + d.weight + 1
  | [], _, _ => by simp [PyData.weightAll]
  | e :: ds, 0, d => by
    rw [List.set_cons_zero]
    simp only [PyData.weightAll]
    omega
  | e :: ds, i + 1, d => by
    rw [List.set_cons_succ]
    simp only [PyData.weightAll]
    have := wA_set ds i d
    omega
theorem wA_len : ∀ ds : List PyData, ds.length ≤ PyData.weightAll ds
  | [] => Nat.zero_le _
  | d :: ds => by
    simp only [PyData.weightAll, List.length_cons]
    have := wA_len ds
    omega
theorem w_int {i : Int} (h : i.natAbs < 10 ^ 20) : (PyData.int i).weight ≤ 70 := by
  simp only [PyData.weight]
  split
  · omega
  · rename_i h0
    have n0 : i.natAbs ≠ 0 := by
      intro e
      apply h0
      simp [Int.natAbs_eq_zero.mp e]
    have : i.natAbs.log2 < 69 := (Nat.log2_lt n0).mpr (Nat.lt_trans h (by decide))
    omega
theorem Nc.fits {k : Nat} {d : PyData} (h : Nc k d) (w : d.weight ≤ 500000) : d.shown.length ≤ sizeLine := by
  have e := PyData.shown_le 25 (by decide) d h.sh
  rw [sizeLine_eq]
  omega
end Rw
namespace Rw
open PySem L2
/-! ### a def of the text, by its name -/
structure Def (K : PySem.W.Frag) (mg : Str → Option Value) (x : Str) (st : Stmt) (ps : List Str) : Prop where
  ex : ∃ (f : Addr) (fd : FuncData), Fun K x x st f fd ∧ mg x = some (.ref f) ∧ Binds K fd ps []
structure Dfn (P : Program) (w : World) (K : PySem.W.Frag) (mg : Str → Option Value) (base : Heap) (x : Str) (ps : List Str) (k : Nat) (sp : Sp) : Prop where
  ex : ∃ (f : Addr) (fd : FuncData), FnOk P w K mg base CX0 k f fd ps sp ∧ mg x = some (.ref f) ∧ PySem.W.keepIn K (.ref f) = true ∧ Binds K fd ps []
theorem Def.ok {P : Program} {w : World} {K : PySem.W.Frag} {mg : Str → Option Value} {base : Heap} {x : Str} {st : Stmt} {ps : List Str} {k : Nat} {sp : Sp} (D : Def K mg x st ps)
    (h : ∀ (f : Addr) (fd : FuncData), Fun K x x st f fd → FnOk P w K mg base CX0 k f fd ps sp) : Dfn P w K mg base x ps k sp := by
  obtain ⟨f, fd, F, m, b⟩ := D.ex
  exact ⟨f, fd, h f fd F, m, F.kp, b⟩
theorem Dfn.mono {P : Program} {w : World} {K : PySem.W.Frag} {mg : Str → Option Value} {base : Heap} {x : Str} {ps : List Str} {j k : Nat} {sp : Sp} (D : Dfn P w K mg base x ps j sp) (h : j ≤ k) : Dfn P w K mg base x ps k sp := by
  obtain ⟨f, fd, F, m, c, b⟩ := D.ex
  exact ⟨f, fd, F.mono h, m, c, b⟩
section
variable {X : Cx} {k : Nat} {x : Str} {ps : List Str} {sp : Sp} {e : Expr} {es : List Expr} {t : TA} {p pos : Pos}
theorem pe_own (D : Dfn X.prog X.w X.K X.mg X.base x ps k sp) (hr : Room k X.A) (ha : PA X (e :: es) t) (hg : Gl X x := by rfl) (hdb : (x == ("__debug__" : Str)) = false := by decide)
    (he : starEach (e :: es) X.env = (false, eval e X.env) :: starEach es X.env := by rfl) (hpl : (backTo pos (starEach es X.env)).any (·.1) = false := by rfl) : PE X (.Call (.Name x p) (e :: es) [] pos) (tCall sp [] E0 t) := by
  obtain ⟨f, fd, F, m, c, b⟩ := D.ex
  exact pe_call F hr hg m c b .nil pass0 ha hdb he hpl
end

theorem bt_int : bootBuiltins ("int" : Str) = some (.type "int") := by decide +kernel
theorem bt_bool : bootBuiltins ("bool" : Str) = some (.type "bool") := by decide +kernel
theorem bt_str : bootBuiltins ("str" : Str) = some (.type "str") := by decide +kernel
theorem bt_tuple : bootBuiltins ("tuple" : Str) = some (.type "tuple") := by decide +kernel
theorem bt_list : bootBuiltins ("list" : Str) = some (.type "list") := by decide +kernel
theorem bt_isi : bootBuiltins ("isinstance" : Str) = some (.builtin "isinstance") := by decide +kernel
theorem bt_repr : bootBuiltins ("repr" : Str) = some (.builtin "repr") := by decide +kernel
section
variable {X : Cx} {x : Str} {pos p1 p2 : Pos} {n : String} {e : Expr} {te : TE}
theorem pe_ty (hm : X.mg x = none) (hv : bootBuiltins x = some (.type n)) (hg : Gl X x := by rfl) (hn : x ≠ "__name__" := by decide) (hd : (x == ("__debug__" : Str)) = false := by decide) : PE X (.Name x pos) (tC (.ty n)) := pe_bltn hg hm hv (show RelV (.ty n) (.type n) from rfl) hn hd
/-- isinstance(e, T) -/
theorem pe_isi (hn : n ∈ ["tuple", "int", "bool", "str", "list"]) (he : PE X e te) (hi : X.mg ("isinstance" : Str) = none) (hm : X.mg x = none) (hv : bootBuiltins x = some (.type n)) (hg : Gl X ("isinstance" : Str) := by rfl) (hg2 : Gl X x := by rfl) (hn2 : x ≠ "__name__" := by decide) (hd2 : (x == ("__debug__" : Str)) = false := by decide)
    (hs : starEach [e, .Name x p2] X.env = (false, eval e X.env) :: starEach [.Name x p2] X.env := by rfl) (hp : (backTo pos (starEach [.Name x p2] X.env)).any (·.1) = false := by rfl) : PE X (.Call (.Name ("isinstance" : Str) p1) [e, .Name x p2] [] pos) (tCB (rIsD X.K n) (tCons te (tCons (tC (.ty n)) tNil))) :=
  pe_callB (call_isD hn) hg hi bt_isi (pa_cons he (pa_cons (pe_ty hm hv hg2 hn2 hd2) pa_nil) hs) (by decide) (by decide) hs hp
end

/-! ### small things about values -/
def isIntB : PyData → Bool
  | .int _ => true
  | _ => false
def wholeB (l m : Int) : PyData → Bool
  | .int i => decide (l ≤ i) && decide (i ≤ m)
  | _ => false
theorem isT_int (d : PyData) : (isT "int" d && !isT "bool" d) = isIntB d := by
  cases d <;> (simp only [isT, clsOf, isIntB]; decide)
theorem int_of {d : PyData} (h : isIntB d = true) : ∃ i, d = .int i := by
  cases d <;> first | exact ⟨_, rfl⟩ | cases h
theorem isT_tup {d : PyData} : isT "tuple" d = true ↔ ∃ ds, d = .tuple ds := by
  cases d with
  | tuple ds => exact ⟨fun _ => ⟨ds, rfl⟩, fun _ => (by decide : isC "tuple" "tuple" = true)⟩
  | none => exact ⟨fun h => absurd h (by decide), fun ⟨_, e⟩ => by cases e⟩
  | bool b => exact ⟨fun h => absurd (show isC "tuple" "bool" = true from h) (by decide), fun ⟨_, e⟩ => by cases e⟩
  | int i => exact ⟨fun h => absurd (show isC "tuple" "int" = true from h) (by decide), fun ⟨_, e⟩ => by cases e⟩
  | str x => exact ⟨fun h => absurd (show isC "tuple" "str" = true from h) (by decide), fun ⟨_, e⟩ => by cases e⟩
  | list l => exact ⟨fun h => absurd (show isC "tuple" "list" = true from h) (by decide), fun ⟨_, e⟩ => by cases e⟩
  | dict l => exact ⟨fun h => absurd (show isC "tuple" "dict" = true from h) (by decide), fun ⟨_, e⟩ => by cases e⟩
theorem Rp.get_int {av : Addr → Prop} {H : Hp} {v : V} {i : Int} (h : Rp av H v (.int i)) : v = .int i := by
  cases h
  rfl
theorem Rp.get_str {av : Addr → Prop} {H : Hp} {v : V} {i : Str} (h : Rp av H v (.str i)) : v = .str i := by
  cases h
  rfl
theorem Rp.get_bl {av : Addr → Prop} {H : Hp} {v : V} {i : Bool} (h : Rp av H v (.bool i)) : v = .bl i := by
  cases h
  rfl
theorem Rp.get_non {av : Addr → Prop} {H : Hp} {v : V} (h : Rp av H v .none) : v = .non := by
  cases h
  rfl
theorem Rp.get_tup {av : Addr → Prop} {H : Hp} {v : V} {ds : List PyData} (h : Rp av H v (.tuple ds)) : ∃ a xs, v = .ref a ∧ ¬ av a ∧ H a = some (.tup xs) ∧ RpAll av H xs ds := by
  cases h with
  | tup n h r => exact ⟨_, _, rfl, n, h, r⟩

def spInteger : Sp := fun vs H Q _ => ∃ (av : Addr → Prop) (v : V) (d : PyData), vs = [v] ∧ Rp av H v d ∧ Q (.bl (isIntB d)) H
def spBelow : Sp := fun vs H Q _ => ∃ (av : Addr → Prop) (v : V) (d : PyData) (m : Int), vs = [v, .int m] ∧ Rp av H v d ∧ Q (.bl (wholeB 0 (m - 1) d)) H
def spWhole : Sp := fun vs H Q _ => ∃ (av : Addr → Prop) (v : V) (d : PyData) (l m : Int), vs = [v, .int l, .int m] ∧ Rp av H v d ∧ Q (.bl (wholeB l m d)) H
def tupOf (n : Int) : PyData → Bool
  | .tuple ds => decide ((ds.length : Int) = n)
  | _ => false
def spTupleOf : Sp := fun vs H Q _ => ∃ (av : Addr → Prop) (v : V) (d : PyData) (n : Int), vs = [v, .int n] ∧ Rp av H v d ∧ Q (.bl (tupOf n d)) H
abbrev sInteger : Stmt := top 2
abbrev sBelow : Stmt := top 3
abbrev sTupleOf : Stmt := top 4
abbrev sWhole : Stmt := top 14
section
variable {P : Program} {w : World} {K : PySem.W.Frag} {mg : Str → Option Value} {base : Heap} {f : Addr} {fd : FuncData}
theorem scInteger : FnScope ["value"] ["value"] (defScope sInteger) := ⟨rfl, rfl, rfl, by decide +kernel, rfl, by decide +kernel, by decide +kernel⟩
theorem ok_integer (F : Fun K "is_integer" "is_integer" sInteger f fd) (B : Blt mg) : FnOk P w K mg base CX0 1 f fd ["value"] spInteger := by
  refine F.ok scInteger (fun vs H Q E h => ?_) (fun cdv A outer s H vs Q E hr h => ?_)
  · obtain ⟨_, _, _, rfl, _⟩ := h
    rfl
  obtain ⟨av, v, d, rfl, hd, q⟩ := h
  refine ⟨_, pss_one (ps_ret (pe_and (pe_isi (n := "int") (by simp) (pv 0) B.isi B.int bt_int)
    (pe_one (pe_not (pe_isi (n := "bool") (by simp) (pv 0) B.isi B.bool bt_bool))))), ?_⟩
  refine ⟨_, rfl, av, v, d, rfl, hd, _, rfl, ?_⟩
  have e := isT_int d
  refine ite2 (fun c => ?_) (fun c => ?_)
  · refine ⟨_, rfl, av, v, d, rfl, hd, _, rfl, ?_⟩
    rw [c, Bool.true_and] at e
    show Q (.bl (!isT "bool" d)) H
    rw [e]
    exact q
  · rw [Bool.not_eq_true] at c
    rw [c, Bool.false_and] at e
    show Q (.bl false) H
    rw [e]
    exact q
end
end Rw
namespace Rw
open PySem L2
section
variable {P : Program} {w : World} {K : PySem.W.Frag} {mg : Str → Option Value} {base : Heap} {f : Addr} {fd : FuncData}
theorem scBelow : FnScope ["value", "many"] ["value", "many"] (defScope sBelow) := ⟨rfl, rfl, rfl, by decide +kernel, rfl, by decide +kernel, by decide +kernel⟩
theorem whole_at (l m i : Int) : wholeB l m (.int i) = (decide (l ≤ i) && decide (i ≤ m)) := rfl
theorem ok_below (F : Fun K "is_below" "is_below" sBelow f fd) (DI : Dfn P w K mg base "is_integer" ["value"] 1 spInteger) : FnOk P w K mg base CX0 2 f fd ["value", "many"] spBelow := by
  refine F.ok scBelow (fun vs H Q E h => ?_) (fun cdv A outer s H vs Q E hr h => ?_)
  · obtain ⟨_, _, _, _, rfl, _⟩ := h
    rfl
  obtain ⟨av, v, d, m, rfl, hd, q⟩ := h
  refine ⟨_, pss_one (ps_ret (pe_and (pe_own DI hr (pa_cons (pv 0) pa_nil)) (pe_one (pe_chain op_le op_lt pe_int (pv 0) (pv 1))))), ?_⟩
  refine ⟨_, rfl, av, v, d, rfl, hd, _, rfl, ?_⟩
  refine ite2 (fun c => ?_) (fun c => ?_)
  · obtain ⟨i, rfl⟩ := int_of c
    have e := hd.get_int
    subst e
    refine ⟨_, rfl, _, _, rfl, rfl, _, rfl, ?_⟩
    rw [whole_at] at q
    refine ite2 (fun c1 => ?_) (fun c1 => ?_)
    · refine ⟨_, rfl, _, _, rfl, rfl, ?_⟩
      rw [c1, Bool.true_and] at q
      have e2 : decide (i ≤ m - 1) = decide (i < m) := by
        by_cases h : i < m
        · rw [decide_eq_true h, decide_eq_true (by omega)]
        · rw [decide_eq_false h, decide_eq_false (by omega)]
      rw [e2] at q
      exact q
    · rw [Bool.not_eq_true] at c1
      rw [c1, Bool.false_and] at q
      exact q
  · have e : wholeB 0 (m - 1) d = false := by
      cases d <;> first | rfl | exact absurd rfl c
    rw [e] at q
    exact q
theorem scWhole : FnScope ["value", "least", "most"] ["value", "least", "most"] (defScope sWhole) := ⟨rfl, rfl, rfl, by decide +kernel, rfl, by decide +kernel, by decide +kernel⟩
theorem ok_whole (F : Fun K "_law_whole" "_law_whole" sWhole f fd) (B : Blt mg) : FnOk P w K mg base CX0 1 f fd ["value", "least", "most"] spWhole := by
  refine F.ok scWhole (fun vs H Q E h => ?_) (fun cdv A outer s H vs Q E hr h => ?_)
  · obtain ⟨_, _, _, _, _, rfl, _⟩ := h
    rfl
  obtain ⟨av, v, d, l, m, rfl, hd, q⟩ := h
  refine ⟨_, pss_one (ps_ret (pe_and (pe_isi (n := "int") (by simp) (pv 0) B.isi B.int bt_int) (pe_and (pe_not (pe_isi (n := "bool") (by simp) (pv 0) B.isi B.bool bt_bool)) (pe_one (pe_chain op_le op_le (pv 1) (pv 0) (pv 2)))))), ?_⟩
  refine ⟨_, rfl, av, v, d, rfl, hd, _, rfl, ?_⟩
  have e := isT_int d
  have no : isIntB d = false → Q (.bl false) H := fun c => by
    have e : wholeB l m d = false := by
      cases d <;> first | rfl | cases c
    rw [e] at q
    exact q
  refine ite2 (fun c => ?_) (fun c => ?_)
  · refine ⟨_, rfl, av, v, d, rfl, hd, _, rfl, _, rfl, ?_⟩
    rw [c, Bool.true_and] at e
    refine ite2 (fun c1 => ?_) (fun c1 => ?_)
    · rw [c1] at e
      obtain ⟨i, rfl⟩ := int_of e.symm
      have e := hd.get_int
      subst e
      refine ⟨_, rfl, _, rfl, _, _, rfl, rfl, _, rfl, ?_⟩
      rw [whole_at] at q
      refine ite2 (fun c1 => ?_) (fun c1 => ?_)
      · refine ⟨_, rfl, _, _, rfl, rfl, ?_⟩
        rw [c1, Bool.true_and] at q
        exact q
      · rw [Bool.not_eq_true] at c1
        rw [c1, Bool.false_and] at q
        exact q
    · rw [Bool.not_eq_true] at c1
      rw [c1] at e
      exact no e.symm
  · rw [Bool.not_eq_true] at c
    rw [c, Bool.false_and] at e
    exact no e.symm
theorem scTupleOf : FnScope ["value", "many"] ["value", "many"] (defScope sTupleOf) := ⟨rfl, rfl, rfl, by decide +kernel, rfl, by decide +kernel, by decide +kernel⟩
theorem ok_tupleOf (F : Fun K "is_tuple_of" "is_tuple_of" sTupleOf f fd) (B : Blt mg) : FnOk P w K mg base CX0 1 f fd ["value", "many"] spTupleOf := by
  refine F.ok scTupleOf (fun vs H Q E h => ?_) (fun cdv A outer s H vs Q E hr h => ?_)
  · obtain ⟨_, _, _, _, rfl, _⟩ := h
    rfl
  obtain ⟨av, v, d, n, rfl, hd, q⟩ := h
  refine ⟨_, pss_one (ps_ret (pe_and (pe_isi (n := "tuple") (by simp) (pv 0) B.isi B.tup bt_tuple) (pe_one (pe_cmpR op_eq (pe_callB call_len_seq (by rfl) B.len PySem.boot_len (pa_cons (pv 0) pa_nil)) (pv 1) (nomark _))))), ?_⟩
  refine ⟨_, rfl, av, v, d, rfl, hd, _, rfl, ?_⟩
  refine ite2 (fun c => ?_) (fun c => ?_)
  · obtain ⟨ds, rfl⟩ := isT_tup.mp c
    obtain ⟨a, xs, rfl, _, ha, hx⟩ := hd.get_tup
    refine ⟨_, rfl, a, xs, rfl, .inr (SqT.of ha), _, rfl, rfl, ?_⟩
    have e : decide (V.int ((xs.length : Nat) : Int) = V.int n) = tupOf n (.tuple ds) := by
      show _ = decide ((ds.length : Int) = n)
      rw [hx.len]
      by_cases h : ((ds.length : Nat) : Int) = n
      · rw [decide_eq_true h, decide_eq_true (by rw [h])]
      · rw [decide_eq_false h, decide_eq_false (fun z => h (V.int.inj z))]
    show Q (.bl (decide (V.int ((xs.length : Nat) : Int) = V.int n))) H
    rw [e]
    exact q
  · have e : tupOf n d = false := by
      cases d with
      | tuple ds => exact absurd (isT_tup.mpr ⟨ds, rfl⟩) c
      | _ => rfl
    rw [e] at q
    exact q
end
end Rw
namespace Rw
open PySem L2
theorem iteY {c A B : Prop} [Decidable c] (hc : c) (h : A) : if c then A else B := by
  rw [if_pos hc]
  exact h
theorem iteZ {c A B : Prop} [Decidable c] (hc : ¬ c) (h : B) : if c then A else B := by
  rw [if_neg hc]
  exact h
/-! ### what is wrong with a way: the mirror -/
def zsIO : List Str := ["in", "out"]
def stepB (m : Int) : PyData → Bool
  | .tuple [a, b] => zsIO.any (eqS a) && wholeB 0 (m - 1) b
  | _ => false
theorem stepB_ok {m : Int} {d : PyData} (h : stepB m d = true) : ∃ (z : Str) (i : Int), d = .tuple [.str z, .int i] ∧ (z = "in" ∨ z = "out") ∧ 0 ≤ i ∧ i < m := by
  cases d with
  | tuple ds =>
    match ds, h with
    | [a, b], h =>
      have h' : zsIO.any (eqS a) = true ∧ wholeB 0 (m - 1) b = true := by
        have q : (zsIO.any (eqS a) && wholeB 0 (m - 1) b) = true := h
        simpa only [Bool.and_eq_true] using q
      obtain ⟨h1, h2⟩ := h'
      cases a with
      | str z =>
        cases b with
        | int i =>
          have h3 : 0 ≤ i ∧ i ≤ m - 1 := by
            have q : (decide (0 ≤ i) && decide (i ≤ m - 1)) = true := h2
            simpa only [Bool.and_eq_true, decide_eq_true_eq] using q
          refine ⟨z, i, rfl, ?_, h3.1, by omega⟩
          have h4 : (("in" : Str) == z || (("out" : Str) == z || false)) = true := h1
          simp only [Bool.or_eq_true, Bool.or_false, beq_iff_eq] at h4
          rcases h4 with e | e
          · exact .inl e.symm
          · exact .inr e.symm
        | _ => cases h2
      | _ => exact absurd (show (false : Bool) = true from h1) (by decide)
  | _ => cases h
/-- the first item, from the place i on, that is no step -/
def badAt (m : Int) : Nat → List PyData → Option Nat
  | _, [] => none
  | i, d :: r => if stepB m d = true then badAt m (i + 1) r else some i
/-- word and room of a step -/
def wordOf : PyData → Str
  | .tuple [.str z, _] => z
  | _ => "in"
def roomOf : PyData → Int
  | .tuple [_, .int i] => i
  | _ => 0
/-- what is wrong with the order of steps, rooms being held, from the place i on -/
def nestE : Nat → List Int → List PyData → PyData
  | _, rs, [] => if rs = [] then .none else .str "held"
  | i, rs, d :: r =>
    if wordOf d = ("in" : Str) then
      if roomOf d ∈ rs then .tuple [.str "in", .int (i : Nat)] else nestE (i + 1) (rs ++ [roomOf d]) r
    else if rs.getLast? = some (roomOf d) then nestE (i + 1) rs.dropLast r else .tuple [.str "out", .int (i : Nat)]
theorem nestE_nil (i : Nat) (rs : List Int) : nestE i rs [] = if rs = [] then .none else .str "held" := rfl
theorem nestE_cons (i : Nat) (rs : List Int) (d : PyData) (r : List PyData) : nestE i rs (d :: r) = if wordOf d = ("in" : Str) then
      if roomOf d ∈ rs then .tuple [.str "in", .int (i : Nat)] else nestE (i + 1) (rs ++ [roomOf d]) r
    else if rs.getLast? = some (roomOf d) then nestE (i + 1) rs.dropLast r else .tuple [.str "out", .int (i : Nat)] := rfl
def wayE (m : Int) : PyData → PyData
  | .tuple ds => if 2 ≤ ds.length ∧ ds.length ≤ 24 then
      match badAt m 0 ds with
      | some k => .tuple [.str "step", .int (k : Nat)]
      | none => nestE 0 [] ds
    else .str "form"
  | _ => .str "form"
theorem badAt_drop {m : Int} : ∀ {ds : List PyData} {i : Nat} {d : PyData}, ds[i]? = some d → ds.drop i = d :: ds.drop (i + 1)
  | [], _, _, h => by simp at h
  | e :: ds, 0, d, h => by
    have q : e = d := Option.some.inj h
    rw [q]
    rfl
  | e :: ds, i + 1, d, h => badAt_drop (m := m) (ds := ds) (i := i) h
theorem badAt_none {m : Int} : ∀ {ds : List PyData} {i : Nat}, badAt m i ds = none → ∀ d ∈ ds, stepB m d = true
  | [], _, _, d, hd => by cases hd
  | e :: ds, i, h, d, hd => by
    unfold badAt at h
    by_cases c : stepB m e = true
    · rw [if_pos c] at h
      rcases List.mem_cons.mp hd with q | q
      · rw [q]
        exact c
      · exact badAt_none h d q
    · rw [if_neg c] at h
      cases h

def spStep : Sp := fun vs H Q _ => ∃ (av : Addr → Prop) (v : V) (d : PyData) (m : Int), vs = [.int m, v] ∧ Rp av H v d ∧ ∀ H', Same H H' → Q (.bl (stepB m d)) H'
/-- a value of the data d, new or old -/
def Gives (d : PyData) (H : Hp) (Q : VK) : Prop := ∀ (v : V) (H' : Hp), Same H H' → Rp (fun b => ∃ o, H b = some o) H' v d → Q v H'
def spNest : Sp := fun vs H Q _ => ∃ (av : Addr → Prop) (v : V) (ds : List PyData) (m : Int), vs = [v] ∧ Rp av H v (.tuple ds) ∧ (∀ d ∈ ds, stepB m d = true) ∧ ds.length ≤ 1000 ∧ Gives (nestE 0 [] ds) H Q
def spWayError : Sp := fun vs H Q _ => ∃ (av : Addr → Prop) (v : V) (d : PyData) (m : Int), vs = [.int m, v] ∧ Rp av H v d ∧ Gives (wayE m d) H Q
abbrev sStep : Stmt := top 7
abbrev sNest : Stmt := top 8
abbrev sWayError : Stmt := top 9
section
variable {P : Program} {w : World} {K : PySem.W.Frag} {mg : Str → Option Value} {base : Heap} {f : Addr} {fd : FuncData}
theorem scStep : FnScope ["many", "value"] ["many", "value"] (defScope sStep) := ⟨rfl, rfl, rfl, by decide +kernel, rfl, by decide +kernel, by decide +kernel⟩
theorem ok_step (F : Fun K "is_step" "is_step" sStep f fd) (DT : Dfn P w K mg base "is_tuple_of" ["value", "many"] 1 spTupleOf) (DB : Dfn P w K mg base "is_below" ["value", "many"] 2 spBelow) : FnOk P w K mg base CX0 3 f fd ["many", "value"] spStep := by
  refine F.ok scStep (fun vs H Q E h => ?_) (fun cdv A outer s H vs Q E hr h => ?_)
  · obtain ⟨_, _, _, _, rfl, _⟩ := h
    rfl
  obtain ⟨av, v, d, m, rfl, hd, q⟩ := h
  have hu := hu_of hr
  refine ⟨_, pss_one (ps_ret (pe_and (pe_own DT (hr.mono (by decide)) (pa_cons (pv 1) (pa_cons pe_int pa_nil)))
    (pe_and (pe_cmpR (op_inS hu) (pe_ix ix_tup (pv 1) pe_int (fun _ _ => rfl)) (pe_tup (pa_cons pe_str (pa_cons pe_str pa_nil))) (by rfl))
      (pe_one (pe_own DB hr (pa_cons (pe_ix ix_tup (pv 1) pe_int (fun _ _ => rfl)) (pa_cons (pv 0) pa_nil))))))), ?_⟩
  refine ⟨_, rfl, av, v, d, 2, rfl, hd, _, rfl, ?_⟩
  have no : ∀ H', Same H H' → stepB m d = false → Q (.bl false) H' := fun H' s e => by
    have z := q H' s
    rw [e] at z
    exact z
  refine ite2 (fun c => ?_) (fun c => ?_)
  · cases d with
    | tuple ds =>
      have hl : ((ds.length : Nat) : Int) = 2 := of_decide_eq_true c
      match ds, hl with
      | [a, b], _ =>
        obtain ⟨p, xs, rfl, _, hp, hx⟩ := hd.get_tup
        cases hx with
        | cons ra rt =>
          cases rt with
          | cons rb rn =>
            cases rn
            refine ⟨_, rfl, p, _, _, _, rfl, rfl, SqT.of hp, rfl, (by show 2 ≤ sizeLine; decide), fun t ht => ?_⟩
            have s1 : Same H (upd H t (.tup [.str "in", .str "out"])) := same_new ht _
            refine ⟨av, a, t, zsIO, ra.mono (Ext.of_same s1), rfl, SqT.of upd_same, _, rfl, ?_⟩
            have e0 : stepB m (.tuple [a, b]) = (zsIO.any (eqS a) && wholeB 0 (m - 1) b) := rfl
            refine ite2 (fun c1 => ?_) (fun c1 => ?_)
            · refine ⟨_, rfl, p, _, _, _, rfl, rfl, SqT.of (s1 _ _ hp), rfl, _, rfl, av, _, b, m, rfl, rb.mono (Ext.of_same s1), ?_⟩
              have z := q _ s1
              have c2 : zsIO.any (eqS a) = true := by simpa using c1
              rw [e0, c2, Bool.true_and] at z
              exact z
            · refine no _ s1 ?_
              have c2 : zsIO.any (eqS a) = false := by simpa using c1
              rw [e0, c2, Bool.false_and]
    | _ => cases c
  · refine no _ (Same.refl _) ?_
    cases d with
    | tuple ds =>
      match ds, c with
      | [], _ => rfl
      | [_], _ => rfl
      | [_, _], c => exact absurd rfl c
      | _ :: _ :: _ :: _, _ => rfl
    | _ => rfl
theorem inV_ints (r : Int) : ∀ rs : List Int, inV (.int r) (rs.map V.int) = decide (r ∈ rs)
  | [] => rfl
  | a :: rs => by
    have ih := inV_ints r rs
    unfold inV at ih ⊢
    rw [List.map_cons, List.any_cons, ih]
    show ((a == r) || decide (r ∈ rs)) = decide (r ∈ a :: rs)
    by_cases e : a = r
    · subst e
      simp
    · have e2 : ¬ r = a := fun z => e z.symm
      have e3 : (a == r) = false := beq_eq_false_iff_ne.mpr e
      rw [e3, Bool.false_or]
      by_cases h : r ∈ rs
      · rw [decide_eq_true h, decide_eq_true (List.mem_cons_of_mem _ h)]
      · rw [decide_eq_false h, decide_eq_false]
        intro z
        rcases List.mem_cons.mp z with y | y
        · exact e2 y
        · exact h y
theorem flat_ints : ∀ rs : List Int, (rs.map V.int).all flatV = true
  | [] => rfl
  | a :: rs => by
    rw [List.map_cons, List.all_cons, flat_ints rs]
    rfl
theorem scNest : FnScope ["steps", "rooms", "place", "word", "room"] ["steps"] (defScope sNest) := ⟨rfl, rfl, rfl, by decide +kernel, rfl, by decide +kernel, by decide +kernel⟩
theorem ok_nest (F : Fun K "nesting_error" "nesting_error" sNest f fd) (B : Blt mg) : FnOk P w K mg base CX0 1 f fd ["steps"] spNest := by
  refine F.ok scNest (fun vs H Q E h => ?_) (fun cdv A outer s H vs Q E hr h => ?_)
  · obtain ⟨_, _, _, _, rfl, _⟩ := h
    rfl
  obtain ⟨av, v, ds, m, rfl, hd, hst, hlen, q⟩ := h
  have nd := scNest.nd
  refine ⟨_, pss_cons (ps_set (i := 1) nd rfl (Or.inl rfl) (pe_lst pa_nil))
    (pss_cons (ps_for PassesOwn.never rfl (pi_enumT (by rfl) B.enu (pa_cons (pv 0) pa_nil))
      (pg_tup rfl (pgs_cons (pg_name (i := 2) nd rfl (Or.inl rfl)) (pgs_cons (pg_tup rfl (pgs_cons (pg_name (i := 3) nd rfl (Or.inl rfl)) (pgs_cons (pg_name (i := 4) nd rfl (Or.inl rfl)) pgs_nil))) pgs_nil)))
      (pss_one (ps_if (pt_cmpR op_eq (pv 3) pe_str (nomark _))
        (pss_cons (ps_if (pt_cmpR op_in_seq (pv 4) (pv 1) (by rfl)) (pss_one (ps_ret (pe_tup (pa_cons pe_str (pa_cons (pv 2) pa_nil))))) pss_nil)
          (pss_one (ps_expr (pe_bm PySem.F.plainAttrs_list PySem.F.slot_list_append PySem.F.type_list_append mt_append (pv 1) (pa_cons (pv 4) pa_nil)))))
        (pss_one (ps_if (PW.pt (pw_or (pt_not (pt_truth (pv 1) (by intro _; rfl))) (pw_or1 (pt_cmpR op_ne (pe_bm0 PySem.F.plainAttrs_list PySem.F.slot_list_pop PySem.F.type_list_pop mt_pop (pv 1)) (pv 4) (nomark _)))))
          (pss_one (ps_ret (pe_tup (pa_cons pe_str (pa_cons (pv 2) pa_nil))))) pss_nil)))))
    (pss_cons (ps_if (pt_truth (pv 1) (by intro _; rfl)) (pss_one (ps_ret pe_str)) pss_nil)
    (pss_one (ps_ret pe_non)))), ?_⟩
  obtain ⟨a, xs, rfl, _, ha, hx⟩ := hd.get_tup
  refine ⟨Nat.zero_le _, fun rl hrl => ?_⟩
  have s0 : Same H (upd H rl (.lst [])) := same_new hrl _
  have hxl : xs.length = ds.length := hx.len
  refine ⟨_, rfl, a, xs, rfl, SqT.of (s0 _ _ ha), for_it (walk_enumT (K := K) (a := a) (xs := xs)) (fun i σ H' => ∃ (rs : List Int) (v2 v3 v4 : Option V), σ = [some (.ref a), some (.ref rl), v2, v3, v4] ∧ Same H H' ∧ H' rl = some (.lst (rs.map V.int)) ∧ rs.length ≤ i ∧ nestE i rs (ds.drop i) = nestE 0 [] ds)
    ⟨[], none, none, none, rfl, s0, upd_same, Nat.le_refl _, rfl⟩ ?_ ?_ ?_⟩
  · rintro i σ H' _ ⟨_, _, _, _, _, s1, _⟩
    exact SqT.of (s1 _ _ ha)
  · rintro i x σ H1 H2 hi ⟨rs, v2, v3, v4, rfl, s1, hr1, hl1, hn1⟩ ⟨T, x1, y, rfl, hT, rfl, e1, hy⟩
    cases (Option.some.inj e1)
    obtain ⟨d, hdi, hry⟩ := hx.at hy
    have hmem : d ∈ ds := List.mem_of_getElem? hdi
    obtain ⟨z, r, rfl, hz, _, _⟩ := stepB_ok (hst d hmem)
    obtain ⟨b, ys, rfl, _, hb, hys⟩ := hry.get_tup
    cases hys with
    | cons ra rt =>
    cases rt with
    | cons rb rn =>
    cases rn
    cases ra
    cases rb
    have s2 : Same H (upd H1 T (.tup [.int (i : Nat), .ref b])) := s1.trans (same_new hT _)
    have hb2 := s2 _ _ hb
    have hr2 : upd H1 T (.tup [.int (i : Nat), .ref b]) rl = some (.lst (rs.map V.int)) := (same_new hT _) _ _ hr1
    rw [badAt_drop (m := m) hdi] at hn1
    refine ⟨T, _, rfl, SqT.of upd_same, rfl, _, _, rfl, _, _, rfl, b, _, rfl, SqT.of hb2, rfl, _, _, rfl, _, _, rfl, rfl, rfl, ?_⟩
    generalize upd H1 T (.tup [.int (i : Nat), .ref b]) = H3 at s2 hb2 hr2
    have give : ∀ (zz : Str) (p : Addr) (hp : H3 p = none), nestE 0 [] ds = .tuple [.str zz, .int (i : Nat)] → Q (.ref p) (upd H3 p (.tup [.str zz, .int (i : Nat)])) := fun zz p hp e => by
      rw [e] at q
      refine q _ _ (s2.trans (same_new hp _)) (.tup ?_ upd_same (.cons (.str _) (.cons (.int _) .nil)))
      rintro ⟨o, ho⟩
      rw [s2 _ _ ho] at hp
      cases hp
    refine ⟨_, rfl, rfl, _, rfl, ?_⟩
    refine ite2 (fun c => ?_) (fun c => ?_)
    · have hz1 : z = ("in" : Str) := V.str.inj (of_decide_eq_true c)
      have w1 : wordOf (.tuple [.str z, .int r]) = ("in" : Str) := hz1
      have n2 := hn1
      rw [nestE_cons, if_pos w1] at n2
      refine ⟨_, rfl, _, rfl, rl, _, rfl, .inl (SqL.of hr2), rfl, flat_ints rs, _, rfl, ?_⟩
      have e2 : (if false then !inV (V.int r) (rs.map V.int) else inV (V.int r) (rs.map V.int)) = decide (r ∈ rs) := inV_ints r rs
      refine ite2 (fun c2 => ?_) (fun c2 => ?_)
      · have hm2 : r ∈ rs := of_decide_eq_true (e2.symm.trans c2)
        rw [if_pos (show roomOf (.tuple [.str z, .int r]) ∈ rs from hm2)] at n2
        refine ⟨_, rfl, (by show 2 ≤ sizeLine; decide), fun p hp => ?_⟩
        exact give "in" p hp n2.symm
      · have hm2 : ¬ r ∈ rs := fun z => c2 (e2.trans (decide_eq_true z))
        rw [if_neg (show ¬ roomOf (.tuple [.str z, .int r]) ∈ rs from hm2)] at n2
        refine ⟨_, rfl, .inl ⟨rfl, _, SqL.of hr2⟩, _, rfl, rl, _, _, rfl, rfl, hr2, szlt (by rw [List.length_map]; omega), ?_⟩
        refine ⟨rs ++ [r], _, _, _, rfl, same_upd s2 hrl _, ?_, ?_, n2⟩
        · rw [upd_same, List.map_append]
          rfl
        · rw [List.length_append, List.length_singleton]
          omega
    · have hz1 : ¬ z = ("in" : Str) := fun e => c (decide_eq_true (by rw [e]))
      have w1 : ¬ wordOf (.tuple [.str z, .int r]) = ("in" : Str) := hz1
      have n2 := hn1
      rw [nestE_cons, if_neg w1] at n2
      refine ⟨_, rfl, _, .inl ⟨_, SqL.of hr2, rfl⟩, ?_⟩
      by_cases hr0 : rs = []
      · subst hr0
        rw [if_neg (by simp)] at n2
        refine iteY (by simp) ?_
        refine iteT (B := True) ?_
        refine ⟨_, rfl, (by show 2 ≤ sizeLine; decide), fun p hp => ?_⟩
        exact give "out" p hp n2.symm
      · refine iteZ (by simp [hr0]) ?_
        obtain ⟨c0, hc0, hdl⟩ := last_ints hr0
        have hlast : rs.getLast? = some c0 := by
          rw [List.length_map, List.getElem?_map] at hc0
          rw [List.getLast?_eq_getElem?]
          cases e : rs[rs.length - 1]? with
          | none =>
            rw [e] at hc0
            cases hc0
          | some z0 =>
            rw [e] at hc0
            cases hc0
            rfl
        refine ⟨_, rfl, .inl ⟨rfl, _, SqL.of hr2⟩, rl, _, _, rfl, rfl, hr2, hc0, ?_⟩
        rw [hdl]
        have s3 : Same H (upd H3 rl (.lst (rs.dropLast.map V.int))) := same_upd s2 hrl _
        refine ⟨_, rfl, rfl, _, rfl, ?_⟩
        refine ite2 (fun c2 => ?_) (fun c2 => ?_)
        · have ne : ¬ c0 = r := fun e => by
            rw [e] at c2
            simp at c2
          rw [if_neg (by rw [hlast]; exact fun e => ne (Option.some.inj e))] at n2
          refine ⟨_, rfl, (by show 2 ≤ sizeLine; decide), fun p hp => ?_⟩
          rw [← n2] at q
          refine q _ _ (s3.trans (same_new hp _)) (.tup ?_ upd_same (.cons (.str _) (.cons (.int _) .nil)))
          rintro ⟨o, ho⟩
          rw [s3 _ _ ho] at hp
          cases hp
        · have eq : c0 = r := by
            by_cases e : c0 = r
            · exact e
            · exact absurd (by simp [e]) c2
          subst eq
          rw [if_pos (by rw [hlast]; rfl)] at n2
          refine ⟨rs.dropLast, _, _, _, rfl, s3, upd_same, ?_, n2⟩
          rw [List.length_dropLast]
          omega
  · rintro σ H' ⟨rs, v2, v3, v4, rfl, s1, hr1, hl1, hn1⟩
    rw [hxl, List.drop_length] at hn1
    refine ⟨_, rfl, _, .inl ⟨_, SqL.of hr1, rfl⟩, ?_⟩
    rw [nestE_nil] at hn1
    cases rs with
    | nil =>
      rw [if_pos rfl] at hn1
      rw [← hn1] at q
      rw [if_neg (by simp)]
      exact q _ _ s1 .non
    | cons r0 rr =>
      rw [if_neg (by simp)] at hn1
      rw [← hn1] at q
      rw [if_pos (by simp)]
      exact q _ _ s1 (.str _)
end
end Rw
namespace Rw
open PySem L2
theorem Rp.weak {av av' : Addr → Prop} {H : Hp} (e : ∀ b, av' b → av b) {v : V} {d : PyData} (h : Rp av H v d) : Rp av' H v d := by
  induction h using Rp.rec (motive_2 := fun vs ds _ => RpAll av' H vs ds) with
  | non => exact .non
  | bl b => exact .bl b
  | int i => exact .int i
  | str x => exact .str x
  | lst n h _ r => exact .lst (fun z => n (e _ z)) h r
  | tup n h _ r => exact .tup (fun z => n (e _ z)) h r
  | dct n h _ r => exact .dct (fun z => n (e _ z)) h r
  | nil => exact .nil
  | cons _ _ a b => exact .cons a b
theorem Gives.ext {d : PyData} {H H' : Hp} {Q : VK} (g : Gives d H Q) (s : Same H H') : Gives d H' Q := fun v H2 s2 r => g v H2 (s.trans s2) (r.weak fun b ⟨o, h⟩ => ⟨o, s _ _ h⟩)
theorem Gives.pair {x : Str} {i : Int} {H H3 : Hp} {Q : VK} (g : Gives (.tuple [.str x, .int i]) H Q) (s : Same H H3) {p : Addr} (hp : H3 p = none) : Q (.ref p) (upd H3 p (.tup [.str x, .int i])) := by
  refine g _ _ (s.trans (same_new hp _)) (.tup ?_ upd_same (.cons (.str _) (.cons (.int _) .nil)))
  rintro ⟨o, ho⟩
  rw [s _ _ ho] at hp
  cases hp
theorem badAt_nil (m : Int) (i : Nat) : badAt m i [] = none := rfl
theorem badAt_cons (m : Int) (i : Nat) (d : PyData) (r : List PyData) : badAt m i (d :: r) = if stepB m d = true then badAt m (i + 1) r else some i := rfl
theorem wayE_tup (m : Int) (ds : List PyData) : wayE m (.tuple ds) = if 2 ≤ ds.length ∧ ds.length ≤ 24 then
      match badAt m 0 ds with
      | some k => .tuple [.str "step", .int (k : Nat)]
      | none => nestE 0 [] ds
    else .str "form" := rfl
section
variable {P : Program} {w : World} {K : PySem.W.Frag} {mg : Str → Option Value} {base : Heap} {f : Addr} {fd : FuncData}
theorem scWayError : FnScope ["many", "value", "place", "step"] ["many", "value"] (defScope sWayError) := ⟨rfl, rfl, rfl, by decide +kernel, rfl, by decide +kernel, by decide +kernel⟩
theorem ok_wayError (F : Fun K "way_error" "way_error" sWayError f fd) (B : Blt mg) (hmin : ∃ t, mg "MIN_STEPS" = some (.int 2 t)) (hmax : ∃ t, mg "MAX_STEPS" = some (.int 24 t))
    (DS : Dfn P w K mg base "is_step" ["many", "value"] 3 spStep) (DN : Dfn P w K mg base "nesting_error" ["steps"] 1 spNest) : FnOk P w K mg base CX0 4 f fd ["many", "value"] spWayError := by
  refine F.ok scWayError (fun vs H Q E h => ?_) (fun cdv A outer s H vs Q E hr h => ?_)
  · obtain ⟨_, _, _, _, rfl, _⟩ := h
    rfl
  obtain ⟨av, v, d, m, rfl, hd, q⟩ := h
  obtain ⟨t1, hmin⟩ := hmin
  obtain ⟨t2, hmax⟩ := hmax
  have nd := scWayError.nd
  refine ⟨_, pss_cons (ps_if (PW.pt (pw_or (pt_not (pt_val (pe_isi (n := "tuple") (by simp) (pv 1) B.isi B.tup bt_tuple)))
      (pw_or1 (pt_not (pt_chain op_le op_le (pe_glob (v := .int 2) (by rfl) hmin ⟨_, rfl⟩) (pe_callB call_len_seq (by rfl) B.len PySem.boot_len (pa_cons (pv 1) pa_nil)) (pe_glob (v := .int 24) (by rfl) hmax ⟨_, rfl⟩)))))) (pss_one (ps_ret pe_str)) pss_nil)
    (pss_cons (ps_for PassesOwn.never rfl (pi_enumT (by rfl) B.enu (pa_cons (pv 1) pa_nil)) (pg_tup rfl (pgs_cons (pg_name (i := 2) nd rfl (Or.inl rfl)) (pgs_cons (pg_name (i := 3) nd rfl (Or.inl rfl)) pgs_nil)))
      (pss_one (ps_if (pt_not (pt_val (pe_own DS hr (pa_cons (pv 0) (pa_cons (pv 3) pa_nil))))) (pss_one (ps_ret (pe_tup (pa_cons pe_str (pa_cons (pv 2) pa_nil))))) pss_nil)))
    (pss_one (ps_ret (pe_own DN (hr.mono (by decide)) (pa_cons (pv 1) pa_nil))))), ?_⟩
  refine ⟨_, rfl, av, v, d, rfl, hd, _, rfl, ?_⟩
  by_cases ht : isT "tuple" d = true
  case neg =>
    have e : wayE m d = .str "form" := by
      cases d with
      | tuple ds => exact absurd (isT_tup.mpr ⟨ds, rfl⟩) ht
      | _ => rfl
    rw [e] at q
    refine iteY (by simpa using ht) ?_
    refine iteT (B := True) ?_
    exact q _ _ (Same.refl _) (.str _)
  obtain ⟨ds, rfl⟩ := isT_tup.mp ht
  refine iteZ (by simpa using ht) ?_
  obtain ⟨a, xs, rfl, _, ha, hx⟩ := hd.get_tup
  have hl := hx.len
  have form : ¬ (2 ≤ ds.length ∧ ds.length ≤ 24) → Q (.str "form") H := fun n => by
    rw [wayE_tup, if_neg n] at q
    exact q _ _ (Same.refl _) (.str _)
  refine ⟨_, rfl, a, xs, rfl, .inr (SqT.of ha), _, _, rfl, rfl, _, rfl, ?_⟩
  by_cases c1 : (2 : Int) ≤ ((xs.length : Nat) : Int)
  case neg =>
    refine iteZ (by simpa using c1) ?_
    refine ⟨_, rfl, ?_⟩
    refine iteT (B := True) ?_
    exact form (by omega)
  refine iteY (by simpa using c1) ?_
  refine ⟨_, _, rfl, rfl, _, rfl, ?_⟩
  by_cases c2 : ((xs.length : Nat) : Int) ≤ 24
  case neg =>
    refine iteY (by simpa using c2) ?_
    exact form (by omega)
  refine iteZ (by simpa using c2) ?_
  have hlen : 2 ≤ ds.length ∧ ds.length ≤ 24 := by omega
  rw [wayE_tup, if_pos hlen] at q
  refine ⟨_, rfl, a, xs, rfl, SqT.of ha, for_it (walk_enumT (K := K) (a := a) (xs := xs)) (fun i σ H' => ∃ (v2 v3 : Option V), σ = [some (.int m), some (.ref a), v2, v3] ∧ Same H H' ∧ badAt m i (ds.drop i) = badAt m 0 ds) ⟨none, none, rfl, Same.refl _, rfl⟩ ?_ ?_ ?_⟩
  · rintro i σ H' _ ⟨_, _, _, s1, _⟩
    exact SqT.of (s1 _ _ ha)
  · rintro i x σ H1 H2 hi ⟨v2, v3, rfl, s1, hb1⟩ ⟨T, x1, y, rfl, hT, rfl, e1, hy⟩
    cases (Option.some.inj e1)
    obtain ⟨d, hdi, hry⟩ := hx.at hy
    have s2 : Same H (upd H1 T (.tup [.int (i : Nat), y])) := s1.trans (same_new hT _)
    rw [badAt_drop (m := m) hdi, badAt_cons] at hb1
    refine ⟨T, _, rfl, SqT.of upd_same, rfl, _, _, rfl, _, _, rfl, rfl, ?_⟩
    generalize upd H1 T (.tup [.int (i : Nat), y]) = H3 at s2
    refine ⟨_, rfl, _, rfl, av, y, d, m, rfl, hry.mono (Ext.of_same s2), fun H4 s3 => ⟨_, rfl, ?_⟩⟩
    have s4 := s2.trans s3
    by_cases c : stepB m d = true
    · refine iteZ (by simpa using c) ?_
      rw [if_pos c] at hb1
      exact ⟨_, _, rfl, s4, hb1⟩
    · refine iteY (by simpa using c) ?_
      rw [if_neg c] at hb1
      rw [← hb1] at q
      refine ⟨_, rfl, (by show 2 ≤ sizeLine; decide), fun p hp => ?_⟩
      exact q.pair s4 hp
  · rintro σ H' ⟨v2, v3, rfl, s1, hb1⟩
    rw [hl, List.drop_length, badAt_nil] at hb1
    rw [← hb1] at q
    refine ⟨_, rfl, av, _, ds, m, rfl, hd.mono (Ext.of_same s1), badAt_none hb1.symm, by omega, Gives.ext q s1⟩
end
end Rw
namespace Rw
open PySem L2
abbrev sWayFault : Stmt := top 21
theorem cut_last (rs : List Int) : cutV (rs.map V.int) (some (-1)) none = (rs.getLast?.toList).map V.int := by
  unfold cutV
  rw [List.length_map]
  have e1 : HT.sIx rs.length 0 (some (-1)) = rs.length - 1 := by
    show (if (-1 : Int) < 0 then ((-1 : Int) + (rs.length : Int)).toNat else min (-1 : Int).toNat rs.length) = _
    rw [if_pos (by decide)]
    omega
  have e2 : HT.sIx rs.length rs.length none = rs.length := rfl
  rw [e1, e2, ← List.map_drop, ← List.map_take]
  congr 1
  by_cases h : rs = []
  · subst h
    rfl
  · have hl := List.length_pos_iff.mpr h
    have e3 : rs.getLast? = some (rs[rs.length - 1]'(by omega)) := by
      rw [List.getLast?_eq_getElem?, List.getElem?_eq_getElem (by omega)]
    rw [e3, List.drop_eq_getElem_cons (show rs.length - 1 < rs.length by omega)]
    have e4 : rs.length - 1 + 1 = rs.length := by omega
    have e5 : rs.length - (rs.length - 1) = 1 := by omega
    rw [e4, e5, List.drop_length]
    rfl
theorem lastL_eq (rs : List Int) (r : Int) : decide (rs.getLast?.toList = [r]) = decide (rs.getLast? = some r) := by
  cases rs.getLast? with
  | none => rfl
  | some x =>
    by_cases h : x = r
    · subst h
      simp
    · simp [h]
section
variable {P : Program} {w : World} {K : PySem.W.Frag} {mg : Str → Option Value} {base : Heap} {f : Addr} {fd : FuncData}
theorem scWayFault : FnScope ["many", "value", "k", "step", "inside"] ["many", "value"] (defScope sWayFault) := ⟨rfl, rfl, rfl, by decide +kernel, rfl, by decide +kernel, by decide +kernel⟩
theorem ok_wayFault (F : Fun K "_law_way_fault" "_law_way_fault" sWayFault f fd) (B : Blt mg) (DW : Dfn P w K mg base "_law_whole" ["value", "least", "most"] 1 spWhole) : FnOk P w K mg base CX0 2 f fd ["many", "value"] spWayError := by
  refine F.ok scWayFault (fun vs H Q E h => ?_) (fun cdv A outer s H vs Q E hr h => ?_)
  · obtain ⟨_, _, _, _, rfl, _⟩ := h
    rfl
  obtain ⟨av, v, d, m, rfl, hd, q⟩ := h
  have nd := scWayFault.nd
  have hu := hu_of hr
  have hu64 : (A.deeper (PyProof.Rows.envOfC "_law_way_fault" (defScope sWayFault) s.heap.objs.size f cdv)).units + 64 < cLine := by
    have := hr.un
    omega
  refine ⟨_, pss_cons (ps_if (PW.pt (pw_or (pt_not (pt_val (pe_isi (n := "tuple") (by simp) (pv 1) B.isi B.tup bt_tuple)))
      (pw_or1 (pt_not (pt_chain op_le op_le pe_int (pe_callB call_len_seq (by rfl) B.len PySem.boot_len (pa_cons (pv 1) pa_nil)) pe_int))))) (pss_one (ps_ret pe_str)) pss_nil)
    (pss_cons (ps_for PassesOwn.never rfl (pi_enumT (by rfl) B.enu (pa_cons (pv 1) pa_nil)) (pg_tup rfl (pgs_cons (pg_name (i := 2) nd rfl (Or.inl rfl)) (pgs_cons (pg_name (i := 3) nd rfl (Or.inl rfl)) pgs_nil)))
      (pss_cons (ps_if (PW.pt (pw_or (pt_not (pt_val (pe_isi (n := "tuple") (by simp) (pv 3) B.isi B.tup bt_tuple)))
          (pw_or (pt_cmpR op_ne (pe_callB call_len_seq (by rfl) B.len PySem.boot_len (pa_cons (pv 3) pa_nil)) pe_int (nomark _))
            (pw_or1 (pt_cmpR (op_notInS hu) (pe_ix ix_tup (pv 3) pe_int (fun _ _ => rfl)) (pe_tup (pa_cons pe_str (pa_cons pe_str pa_nil))) (by rfl)))))) (pss_one (ps_ret (pe_tup (pa_cons pe_str (pa_cons (pv 2) pa_nil))))) pss_nil)
        (pss_one (ps_if (pt_not (pt_val (pe_own DW hr (pa_cons (pe_ix ix_tup (pv 3) pe_int (fun _ _ => rfl)) (pa_cons pe_int (pa_cons (pe_op op_sub (pv 0) pe_int) pa_nil))))))
          (pss_one (ps_ret (pe_tup (pa_cons pe_str (pa_cons (pv 2) pa_nil))))) pss_nil))))
    (pss_cons (ps_set (i := 4) nd rfl (Or.inl rfl) (pe_lst pa_nil))
    (pss_cons (ps_for PassesOwn.never rfl (pi_enumT (by rfl) B.enu (pa_cons (pv 1) pa_nil)) (pg_tup rfl (pgs_cons (pg_name (i := 2) nd rfl (Or.inl rfl)) (pgs_cons (pg_name (i := 3) nd rfl (Or.inl rfl)) pgs_nil)))
      (pss_cons (ps_if (PW.pt (pw_or (PW.pt (pw_and (pt_cmpR op_eq (pe_ix ix_tup (pv 3) pe_int (fun _ _ => rfl)) pe_str (nomark _)) (pw_and1 (pt_cmpR op_in_seq (pe_ix ix_tup (pv 3) pe_int (fun _ _ => rfl)) (pv 4) (by rfl)))))
          (pw_or1 (PW.pt (pw_and (pt_cmpR op_eq (pe_ix ix_tup (pv 3) pe_int (fun _ _ => rfl)) pe_str (nomark _))
            (pw_and1 (pt_cmpR (op_neD hu64) (pe_slice sl_list (pv 4) (po_some (pe_un un_neg pe_int)) po_none) (pe_lst (pa_cons (pe_ix ix_tup (pv 3) pe_int (fun _ _ => rfl)) pa_nil)) (nomark _))))))))
          (pss_one (ps_ret (pe_tup (pa_cons (pe_ix ix_tup (pv 3) pe_int (fun _ _ => rfl)) (pa_cons (pv 2) pa_nil))))) pss_nil)
        (pss_one (ps_if (pt_cmpR op_eq (pe_ix ix_tup (pv 3) pe_int (fun _ _ => rfl)) pe_str (nomark _))
          (pss_one (ps_expr (pe_bm PySem.F.plainAttrs_list PySem.F.slot_list_append PySem.F.type_list_append mt_append (pv 4) (pa_cons (pe_ix ix_tup (pv 3) pe_int (fun _ _ => rfl)) pa_nil))))
          (pss_one (ps_expr (pe_bm0 PySem.F.plainAttrs_list PySem.F.slot_list_pop PySem.F.type_list_pop mt_pop (pv 4))))))))
    (pss_one (ps_ret (pe_ifExp (pt_cmpR (op_neD hu64) (pv 4) (pe_lst pa_nil) (nomark _)) pe_str pe_non)))))), ?_⟩
  refine ⟨_, rfl, av, v, d, rfl, hd, _, rfl, ?_⟩
  by_cases ht : isT "tuple" d = true
  case neg =>
    have e : wayE m d = .str "form" := by
      cases d with
      | tuple ds => exact absurd (isT_tup.mpr ⟨ds, rfl⟩) ht
      | _ => rfl
    rw [e] at q
    refine iteY (by simpa using ht) ?_
    refine iteT (B := True) ?_
    exact q _ _ (Same.refl _) (.str _)
  obtain ⟨ds, rfl⟩ := isT_tup.mp ht
  refine iteZ (by simpa using ht) ?_
  obtain ⟨a, xs, rfl, _, ha, hx⟩ := hd.get_tup
  have hl := hx.len
  have form : ¬ (2 ≤ ds.length ∧ ds.length ≤ 24) → Q (.str "form") H := fun n => by
    rw [wayE_tup, if_neg n] at q
    exact q _ _ (Same.refl _) (.str _)
  refine ⟨_, rfl, a, xs, rfl, .inr (SqT.of ha), _, _, rfl, rfl, _, rfl, ?_⟩
  by_cases c1 : (2 : Int) ≤ ((xs.length : Nat) : Int)
  case neg =>
    refine iteZ (by simpa using c1) ?_
    refine ⟨_, rfl, ?_⟩
    refine iteT (B := True) ?_
    exact form (by omega)
  refine iteY (by simpa using c1) ?_
  refine ⟨_, _, rfl, rfl, _, rfl, ?_⟩
  by_cases c2 : ((xs.length : Nat) : Int) ≤ 24
  case neg =>
    refine iteY (by simpa using c2) ?_
    exact form (by omega)
  refine iteZ (by simpa using c2) ?_
  have hlen : 2 ≤ ds.length ∧ ds.length ≤ 24 := by omega
  rw [wayE_tup, if_pos hlen] at q
  refine ⟨_, rfl, a, xs, rfl, SqT.of ha, for_it (walk_enumT (K := K) (a := a) (xs := xs)) (fun i σ H' => ∃ (v2 v3 : Option V), σ = [some (.int m), some (.ref a), v2, v3, none] ∧ Same H H' ∧ badAt m i (ds.drop i) = badAt m 0 ds) ⟨none, none, rfl, Same.refl _, rfl⟩ ?_ ?_ ?_⟩
  · rintro i σ H' _ ⟨_, _, _, s1, _⟩
    exact SqT.of (s1 _ _ ha)
  · rintro i x σ H1 H2 hi ⟨v2, v3, rfl, s1, hb1⟩ ⟨T, x1, y, rfl, hT, rfl, e1, hy⟩
    cases (Option.some.inj e1)
    obtain ⟨d, hdi, hry⟩ := hx.at hy
    have s2 : Same H (upd H1 T (.tup [.int (i : Nat), y])) := s1.trans (same_new hT _)
    rw [badAt_drop (m := m) hdi, badAt_cons] at hb1
    refine ⟨T, _, rfl, SqT.of upd_same, rfl, _, _, rfl, _, _, rfl, rfl, ?_⟩
    generalize upd H1 T (.tup [.int (i : Nat), y]) = H3 at s2
    have bad : ∀ {H4 : Hp}, Same H H4 → ¬ stepB m d = true → ∀ p, H4 p = none → Q (.ref p) (upd H4 p (.tup [.str "step", .int (i : Nat)])) := fun s4 c p hp => by
      rw [if_neg c] at hb1
      rw [← hb1] at q
      exact q.pair s4 hp
    refine ⟨_, rfl, av, y, d, rfl, hry.mono (Ext.of_same s2), _, rfl, ?_⟩
    by_cases t1 : isT "tuple" d = true
    case neg =>
      refine iteY (by simpa using t1) ?_
      refine iteT (B := True) ?_
      refine ⟨_, rfl, (by show 2 ≤ sizeLine; decide), fun p hp => bad s2 (fun c => ?_) p hp⟩
      obtain ⟨z, r, rfl, _⟩ := stepB_ok c
      exact t1 (isT_tup.mpr ⟨_, rfl⟩)
    obtain ⟨es, rfl⟩ := isT_tup.mp t1
    refine iteZ (by simpa using t1) ?_
    obtain ⟨b, ys, rfl, _, hb, hys⟩ := hry.get_tup
    refine ⟨_, rfl, b, ys, rfl, .inr (SqT.of (s2 _ _ hb)), rfl, _, rfl, ?_⟩
    by_cases l2 : es.length = 2
    case neg =>
      refine iteY (by have := hys.len; simp; omega) ?_
      refine iteT (B := True) ?_
      refine ⟨_, rfl, (by show 2 ≤ sizeLine; decide), fun p hp => bad s2 (fun c => ?_) p hp⟩
      obtain ⟨z, r, e, _⟩ := stepB_ok c
      cases e
      exact l2 rfl
    refine iteZ (by have := hys.len; simp; omega) ?_
    match es, l2 with
    | [d0, d1], _ =>
    cases hys with
    | cons ra rt =>
    cases rt with
    | cons rb rn =>
    cases rn
    rename_i y0 _ y1 _
    refine ⟨_, rfl, b, _, _, _, rfl, rfl, SqT.of (s2 _ _ hb), rfl, (by show 2 ≤ sizeLine; decide), fun t ht2 => ?_⟩
    have s3 : Same H (upd H3 t (.tup [.str "in", .str "out"])) := s2.trans (same_new ht2 _)
    have w1 : upd H3 t (.tup [.str "in", .str "out"]) t = some (.tup (zsIO.map V.str)) := upd_same
    generalize upd H3 t (.tup [.str "in", .str "out"]) = H4 at s3 w1
    refine ⟨av, d0, t, zsIO, ra.mono (Ext.of_same s3), rfl, SqT.of w1, _, rfl, ?_⟩
    have e0 : stepB m (.tuple [d0, d1]) = (zsIO.any (eqS d0) && wholeB 0 (m - 1) d1) := rfl
    by_cases c3 : zsIO.any (eqS d0) = true
    case neg =>
      refine iteY (by simpa using c3) ?_
      refine ⟨_, rfl, (by show 2 ≤ sizeLine; decide), fun p hp => bad s3 (fun c => ?_) p hp⟩
      rw [e0, Bool.and_eq_true] at c
      exact c3 c.1
    refine iteZ (by simpa using c3) ?_
    refine ⟨_, rfl, b, _, _, _, rfl, rfl, SqT.of (s3 _ _ hb), rfl, _, rfl, _, _, rfl, rfl, av, _, d1, 0, m - 1, rfl, rb.mono (Ext.of_same s3), _, rfl, ?_⟩
    by_cases c4 : wholeB 0 (m - 1) d1 = true
    · refine iteZ (by simpa using c4) ?_
      rw [if_pos (show stepB m (.tuple [d0, d1]) = true by rw [e0, c3, c4]; rfl)] at hb1
      exact ⟨_, _, rfl, s3, hb1⟩
    · refine iteY (by simpa using c4) ?_
      refine ⟨_, rfl, (by show 2 ≤ sizeLine; decide), fun p hp => bad s3 (fun c => ?_) p hp⟩
      rw [e0, Bool.and_eq_true] at c
      exact c4 c.2
  rintro σ H1 ⟨v2, v3, rfl, s1, hb1⟩
  rw [hl, List.drop_length, badAt_nil] at hb1
  have hst := badAt_none hb1.symm
  rw [← hb1] at q
  have q : Gives (nestE 0 [] ds) H Q := q
  refine ⟨Nat.zero_le _, fun rl hrl => ?_⟩
  have hrl0 : H rl = none := s1.free hrl
  have s2 : Same H (upd H1 rl (.lst [])) := s1.trans (same_new hrl _)
  refine ⟨_, rfl, a, xs, rfl, SqT.of (s2 _ _ ha), for_it (walk_enumT (K := K) (a := a) (xs := xs)) (fun i σ H' => ∃ (rs : List Int) (v2 v3 : Option V), σ = [some (.int m), some (.ref a), v2, v3, some (.ref rl)] ∧ Same H H' ∧ H' rl = some (.lst (rs.map V.int)) ∧ rs.length ≤ i ∧ nestE i rs (ds.drop i) = nestE 0 [] ds)
    ⟨[], v2, v3, rfl, s2, upd_same, Nat.le_refl _, rfl⟩ ?_ ?_ ?_⟩
  · rintro i σ H' _ ⟨_, _, _, _, s1, _⟩
    exact SqT.of (s1 _ _ ha)
  · rintro i x σ H2 H2' hi ⟨rs, u2, u3, rfl, s1, hr1, hl1, hn1⟩ ⟨T, x1, y, rfl, hT, rfl, e1, hy⟩
    cases (Option.some.inj e1)
    obtain ⟨d, hdi, hry⟩ := hx.at hy
    have hmem : d ∈ ds := List.mem_of_getElem? hdi
    obtain ⟨z, r, rfl, hz, _, _⟩ := stepB_ok (hst d hmem)
    obtain ⟨b, ys, rfl, _, hb, hys⟩ := hry.get_tup
    cases hys with
    | cons ra rt =>
    cases rt with
    | cons rb rn =>
    cases rn
    cases ra
    cases rb
    have s3 : Same H (upd H2 T (.tup [.int (i : Nat), .ref b])) := s1.trans (same_new hT _)
    have hb2 := s3 _ _ hb
    have hr2 : upd H2 T (.tup [.int (i : Nat), .ref b]) rl = some (.lst (rs.map V.int)) := (same_new hT _) _ _ hr1
    rw [badAt_drop (m := m) hdi, nestE_cons] at hn1
    refine ⟨T, _, rfl, SqT.of upd_same, rfl, _, _, rfl, _, _, rfl, rfl, ?_⟩
    generalize upd H2 T (.tup [.int (i : Nat), .ref b]) = H3 at s3 hb2 hr2
    have at0 : ∀ {H' : Hp}, H' b = some (.tup [.str z, .int r]) → SqT K H' b [.str z, .int r] := fun e => SqT.of e
    refine ⟨_, rfl, b, _, _, _, rfl, rfl, at0 hb2, rfl, rfl, _, rfl, ?_⟩
    by_cases hz1 : z = ("in" : Str)
    · subst hz1
      rw [if_pos (show wordOf (.tuple [.str "in", .int r]) = ("in" : Str) from rfl)] at hn1
      refine iteY (by simp) ?_
      refine ⟨_, rfl, b, _, _, _, rfl, rfl, at0 hb2, rfl, _, rfl, rl, _, rfl, .inl (SqL.of hr2), rfl, flat_ints rs, _, rfl, ?_⟩
      have e2 : (if false then !inV (V.int r) (rs.map V.int) else inV (V.int r) (rs.map V.int)) = decide (r ∈ rs) := inV_ints r rs
      by_cases hm2 : r ∈ rs
      · rw [if_pos (show roomOf (.tuple [.str "in", .int r]) ∈ rs from hm2)] at hn1
        refine iteY (e2.trans (decide_eq_true hm2)) ?_
        refine iteT (B := True) ?_
        refine ⟨_, rfl, b, _, _, _, rfl, rfl, at0 hb2, rfl, _, rfl, (by show 2 ≤ sizeLine; decide), fun p hp => ?_⟩
        rw [← hn1] at q
        exact q.pair s3 hp
      · rw [if_neg (show ¬ roomOf (.tuple [.str "in", .int r]) ∈ rs from hm2)] at hn1
        refine iteZ (fun c => hm2 (of_decide_eq_true (e2.symm.trans c))) ?_
        refine ⟨_, rfl, b, _, _, _, rfl, rfl, at0 hb2, rfl, rfl, _, rfl, ?_⟩
        refine iteZ (by decide) ?_
        refine iteF (A := True) ?_
        refine ⟨_, rfl, b, _, _, _, rfl, rfl, at0 hb2, rfl, rfl, _, rfl, ?_⟩
        refine iteY (by simp) ?_
        refine ⟨_, rfl, .inl ⟨rfl, _, SqL.of hr2⟩, _, rfl, b, _, _, _, rfl, rfl, at0 hb2, rfl, rl, _, _, rfl, rfl, hr2, szlt (by rw [List.length_map]; omega), ?_⟩
        refine ⟨rs ++ [r], _, _, rfl, same_upd s3 hrl0 _, ?_, ?_, hn1⟩
        · rw [upd_same, List.map_append]
          rfl
        · rw [List.length_append, List.length_singleton]
          omega
    · have hz2 : z = ("out" : Str) := hz.resolve_left hz1
      subst hz2
      rw [if_neg (show ¬ wordOf (.tuple [.str "out", .int r]) = ("in" : Str) from hz1)] at hn1
      refine iteZ (by decide) ?_
      refine iteF (A := True) ?_
      refine ⟨_, rfl, b, _, _, _, rfl, rfl, at0 hb2, rfl, rfl, _, rfl, ?_⟩
      refine iteY (by simp) ?_
      refine ⟨_, rfl, _, rfl, _, rfl, rl, _, rfl, SqL.of hr2, fun p1 hp1 => ?_⟩
      rw [cut_last]
      have s4 : Same H3 (upd H3 p1 (.lst (rs.getLast?.toList.map V.int))) := same_new hp1 _
      refine ⟨_, rfl, b, _, _, _, rfl, rfl, at0 (s4 _ _ hb2), rfl, (by show 1 ≤ sizeLine; decide), fun p2 hp2 => ?_⟩
      have s5 := same_new hp2 (.lst [.int r])
      refine ⟨.list (rs.getLast?.toList.map PyData.int), .list ([r].map PyData.int), .lst (SqL.of (s5 _ _ upd_same)) (dp_ints _), .lst (SqL.of upd_same) (dp_ints [r]), shaped_ints _, shaped_ints [r], _, rfl, ?_⟩
      rw [eqv_ints, lastL_eq]
      have s6 : Same H (upd (upd H3 p1 (.lst (rs.getLast?.toList.map V.int))) p2 (.lst [.int r])) := s3.trans (s4.trans s5)
      have hb3 := s6 _ _ hb
      have hr3 := s5 _ _ (s4 _ _ hr2)
      generalize upd (upd H3 p1 (.lst (rs.getLast?.toList.map V.int))) p2 (.lst [.int r]) = H5 at s6 hb3 hr3
      by_cases hm2 : rs.getLast? = some r
      · rw [if_pos (show rs.getLast? = some (roomOf (.tuple [.str "out", .int r])) from hm2)] at hn1
        refine iteZ (by simp [hm2]) ?_
        refine ⟨_, rfl, b, _, _, _, rfl, rfl, at0 hb3, rfl, rfl, _, rfl, ?_⟩
        refine iteZ (by decide) ?_
        have hr0 : rs ≠ [] := fun e => by
          rw [e] at hm2
          cases hm2
        obtain ⟨c0, hc0, hdl⟩ := last_ints hr0
        refine ⟨_, rfl, .inl ⟨rfl, _, SqL.of hr3⟩, rl, _, _, rfl, rfl, hr3, hc0, ?_⟩
        rw [hdl]
        refine ⟨rs.dropLast, _, _, rfl, same_upd s6 hrl0 _, upd_same, ?_, hn1⟩
        rw [List.length_dropLast]
        omega
      · rw [if_neg (show ¬ rs.getLast? = some (roomOf (.tuple [.str "out", .int r])) from hm2)] at hn1
        refine iteY (by simp [hm2]) ?_
        refine ⟨_, rfl, b, _, _, _, rfl, rfl, at0 hb3, rfl, _, rfl, (by show 2 ≤ sizeLine; decide), fun p hp => ?_⟩
        rw [← hn1] at q
        exact q.pair s6 hp
  · rintro σ H2 ⟨rs, u2, u3, rfl, s1, hr1, hl1, hn1⟩
    rw [hl, List.drop_length, nestE_nil] at hn1
    refine ⟨_, rfl, Nat.zero_le _, fun p hp => ?_⟩
    have s3 := same_new hp (.lst [])
    refine ⟨.list (rs.map PyData.int), .list (([] : List Int).map PyData.int), .lst (SqL.of (s3 _ _ hr1)) (dp_ints _), .lst (SqL.of upd_same) .nil, shaped_ints _, shaped_ints [], _, rfl, ?_⟩
    rw [eqv_ints]
    by_cases hr0 : rs = []
    · rw [if_pos hr0] at hn1
      rw [← hn1] at q
      refine iteZ (by simp [hr0]) ?_
      exact q _ _ (s1.trans s3) .non
    · rw [if_neg hr0] at hn1
      rw [← hn1] at q
      refine iteY (by simp [hr0]) ?_
      exact q _ _ (s1.trans s3) (.str _)
end
end Rw
namespace Rw
open PySem L2
abbrev sSame : Stmt := top 15
def spPick : Sp := fun vs H Q _ => ∃ (dk gl l : Addr) (xs : List V), vs = [.ref dk, .ref l] ∧ DeckAt dk gl H ∧ H l = some (.lst xs) ∧ ¬ avD dk gl l ∧ 0 < xs.length ∧ xs.length < 1000 ∧ ∀ (v : V) (H' : Hp), v ∈ xs → Ext (avD dk gl) H H' → DeckAt dk gl H' → Q v H'
mutual
def plainT : PyData → Bool
  | .list _ => false
  | .dict _ => false
  | .tuple ds => plainAll ds
  | .none => true
  | .bool _ => true
  | .int _ => true
  | .str _ => true
def plainAll : List PyData → Bool
  | [] => true
  | d :: ds => plainT d && plainAll ds
end
theorem plain_mem : ∀ {ds : List PyData} {d : PyData}, plainAll ds = true → d ∈ ds → plainT d = true
  | e :: ds, d, h, hd => by
    have h' : plainT e = true ∧ plainAll ds = true := by simpa only [plainAll, Bool.and_eq_true] using h
    rcases List.mem_cons.mp hd with q | q
    · rw [q]
      exact h'.1
    · exact plain_mem h'.2 q
theorem depth_mem : ∀ {ds : List PyData} {d : PyData}, d ∈ ds → d.depth ≤ PyData.depthAll ds
  | e :: ds, d, hd => by
    simp only [PyData.depthAll]
    rcases List.mem_cons.mp hd with q | q
    · rw [q]
      exact Nat.le_max_left _ _
    · exact Nat.le_trans (depth_mem q) (Nat.le_max_right _ _)
def spSame (n : Nat) : Sp := fun vs H Q _ => ∃ (av av' : Addr → Prop) (x y : V) (d : PyData), vs = [x, y] ∧ Rp av H x d ∧ Rp av' H y d ∧ plainT d = true ∧ d.depth < n ∧ ∀ H', Same H H' → Q (.bl true) H'
section
variable {P : Program} {w : World} {K : PySem.W.Frag} {mg : Str → Option Value} {base : Heap} {f : Addr} {fd : FuncData}
theorem scPick : FnScope ["deck", "items"] ["deck", "items"] (defScope sPick) := ⟨rfl, rfl, rfl, by decide +kernel, rfl, by decide +kernel, by decide +kernel⟩
theorem ok_pick (F : Fun K "_law_pick" "_law_pick" sPick f fd) (B : Blt mg) (DD : Dfn P w K mg base "_law_draw" ["deck", "many"] 1 spDraw) : FnOk P w K mg base CX0 2 f fd ["deck", "items"] spPick := by
  refine F.ok scPick (fun vs H Q E h => ?_) (fun cdv A outer s H vs Q E hr h => ?_)
  · obtain ⟨_, _, _, _, rfl, _⟩ := h
    rfl
  obtain ⟨dk, gl, l, xs, rfl, hD, hl, nl, h0, h1, q⟩ := h
  refine ⟨_, pss_one (ps_ret (pe_ix ix_list (pv 1) (pe_own DD hr (pa_cons (pv 0) (pa_cons (pe_callB call_len_seq (by rfl) B.len PySem.boot_len (pa_cons (pv 1) pa_nil)) pa_nil))) (fun _ _ => rfl))), ?_⟩
  refine ⟨_, rfl, _, rfl, _, rfl, l, xs, rfl, .inl (SqL.of hl), dk, gl, _, rfl, hD, by omega, fun r H' e d r0 r1 => ?_⟩
  have rl : r < (xs.length : Int) := by
    rcases r1 with z | z
    · exact z
    · omega
  have rn : r.toNat < xs.length := by omega
  exact ⟨l, xs, r, xs[r.toNat], rfl, rfl, SqL.of (e _ _ nl hl), at_of (j := r.toNat) (by omega) (List.getElem?_eq_getElem rn), q _ _ (List.getElem_mem rn) e d⟩
theorem scSame : FnScope ["found", "due", "spot", "own"] ["found", "due"] (defScope sSame) := ⟨rfl, rfl, rfl, by decide +kernel, rfl, by decide +kernel, by decide +kernel⟩
theorem ok_same {n : Nat} (F : Fun K "_law_same" "_law_same" sSame f fd) (B : Blt mg) (DS : Dfn P w K mg base "_law_same" ["found", "due"] n (spSame n)) : FnOk P w K mg base CX0 (n + 1) f fd ["found", "due"] (spSame (n + 1)) := by
  refine F.ok scSame (fun vs H Q E h => ?_) (fun cdv A outer s H vs Q E hr h => ?_)
  · obtain ⟨_, _, _, _, _, rfl, _⟩ := h
    rfl
  obtain ⟨av, av', x, y, d, rfl, hx, hy, hp, hdp, q⟩ := h
  have nd := scSame.nd
  refine ⟨_, pss_cons (ps_if (pt_val (pe_isi (n := "tuple") (by simp) (pv 1) B.isi B.tup bt_tuple))
      (pss_cons (ps_if (PW.pt (pw_or (pt_not (pt_val (pe_isi (n := "tuple") (by simp) (pv 0) B.isi B.tup bt_tuple))) (pw_or1 (pt_cmpR op_ne (pe_callB call_len_seq (by rfl) B.len PySem.boot_len (pa_cons (pv 0) pa_nil)) (pe_callB call_len_seq (by rfl) B.len PySem.boot_len (pa_cons (pv 1) pa_nil)) (nomark _))))) (pss_one (ps_ret pe_bl)) pss_nil)
      (pss_cons (ps_for PassesOwn.never rfl (pi_enumT (by rfl) B.enu (pa_cons (pv 1) pa_nil)) (pg_tup rfl (pgs_cons (pg_name (i := 2) nd rfl (Or.inl rfl)) (pgs_cons (pg_name (i := 3) nd rfl (Or.inl rfl)) pgs_nil)))
        (pss_one (ps_if (pt_not (pt_val (pe_own DS hr (pa_cons (pe_ix ix_tup (pv 0) (pv 2) (fun _ _ => rfl)) (pa_cons (pv 3) pa_nil))))) (pss_one (ps_ret pe_bl)) pss_nil)))
      (pss_one (ps_ret pe_bl)))) pss_nil)
    (pss_cons (ps_if (pt_cmpR op_isN (pv 1) pe_non (nomark _)) (pss_one (ps_ret (pe_cmpR op_isN (pv 0) pe_non (nomark _)))) pss_nil)
    (pss_cons (ps_if (pt_val (pe_isi (n := "bool") (by simp) (pv 1) B.isi B.bool bt_bool)) (pss_one (ps_ret (pe_ifExp (pt_val (pv 1)) (pe_cmpR op_isBl (pv 0) pe_bl (nomark _)) (pe_cmpR op_isBl (pv 0) pe_bl (nomark _))))) pss_nil)
    (pss_cons (ps_if (pt_val (pe_isi (n := "int") (by simp) (pv 1) B.isi B.int bt_int)) (pss_one (ps_ret (pe_and (pe_isi (n := "int") (by simp) (pv 0) B.isi B.int bt_int) (pe_and (pe_not (pe_isi (n := "bool") (by simp) (pv 0) B.isi B.bool bt_bool)) (pe_one (pe_cmpR op_eq (pv 0) (pv 1) (nomark _))))))) pss_nil)
    (pss_one (ps_ret (pe_and (pe_isi (n := "str") (by simp) (pv 0) B.isi B.str bt_str) (pe_one (pe_cmpR op_eq (pv 0) (pv 1) (nomark _))))))))), ?_⟩
  have true_ : Q (.bl true) H := q _ (Same.refl _)
  refine ⟨_, rfl, av', y, d, rfl, hy, _, rfl, ?_⟩
  cases d with
  | tuple ds =>
    refine iteY (by show isC "tuple" "tuple" = true; decide) ?_
    obtain ⟨a, xs, rfl, _, ha, hxs⟩ := hx.get_tup
    obtain ⟨b, ys, rfl, _, hb, hys⟩ := hy.get_tup
    have l1 := hxs.len
    have l2 := hys.len
    have hp2 : plainAll ds = true := by simpa only [plainT] using hp
    have hd2 : PyData.depthAll ds < n := by
      simp only [PyData.depth] at hdp
      omega
    refine ⟨_, rfl, av, _, .tuple ds, rfl, hx, _, rfl, ?_⟩
    refine iteZ (by show ¬ (!isC "tuple" "tuple") = true; decide) ?_
    refine ⟨_, rfl, a, xs, rfl, .inr (SqT.of ha), _, rfl, b, ys, rfl, .inr (SqT.of hb), rfl, _, rfl, ?_⟩
    refine iteZ (by simp [l1, l2]) ?_
    refine ⟨_, rfl, b, ys, rfl, SqT.of hb, for_it (walk_enumT (K := K) (a := b) (xs := ys)) (fun i σ H' => ∃ (v2 v3 : Option V), σ = [some (.ref a), some (.ref b), v2, v3] ∧ Same H H') ⟨none, none, rfl, Same.refl _⟩ ?_ ?_ ?_⟩
    · rintro i σ H' _ ⟨_, _, _, s1⟩
      exact SqT.of (s1 _ _ hb)
    · rintro i x σ H1 H2 hi ⟨v2, v3, rfl, s1⟩ ⟨T, x1, y, rfl, hT, rfl, e1, hy1⟩
      cases (Option.some.inj e1)
      obtain ⟨d, hdi, hry⟩ := hys.at hy1
      have hix : i < xs.length := by
        have := (List.getElem?_eq_some_iff.mp hdi).1
        omega
      have hx1 : xs[i]? = some xs[i] := List.getElem?_eq_getElem hix
      obtain ⟨d2, hdi2, hrx⟩ := hxs.at hx1
      have ed : d2 = d := Option.some.inj (hdi2.symm.trans hdi)
      subst ed
      have hmem : d2 ∈ ds := List.mem_of_getElem? hdi
      have s2 : Same H (upd H1 T (.tup [.int (i : Nat), y])) := s1.trans (same_new hT _)
      refine ⟨T, _, rfl, SqT.of upd_same, rfl, _, _, rfl, _, _, rfl, rfl, ?_⟩
      generalize upd H1 T (.tup [.int (i : Nat), y]) = H3 at s2
      refine ⟨_, rfl, _, rfl, a, _, _, _, rfl, rfl, SqT.of (s2 _ _ ha), atI_nat hx1, _, rfl, av, av', _, y, d2, rfl, hrx.mono (Ext.of_same s2), hry.mono (Ext.of_same s2), plain_mem hp2 hmem, Nat.lt_of_le_of_lt (depth_mem hmem) hd2, fun H4 s3 => ⟨_, rfl, ?_⟩⟩
      refine iteF (A := True) ?_
      exact ⟨_, _, rfl, s2.trans s3⟩
    · rintro σ H' ⟨_, _, rfl, s1⟩
      exact q _ s1
  | none =>
    cases hx.get_non
    cases hy.get_non
    refine iteZ (by decide) ?_
    refine ⟨_, rfl, rfl, _, rfl, ?_⟩
    refine iteY (by decide) ?_
    exact ⟨_, rfl, rfl, true_⟩
  | bool b =>
    cases hx.get_bl
    cases hy.get_bl
    refine iteZ (by show ¬ isC "tuple" "bool" = true; decide) ?_
    refine ⟨_, rfl, rfl, _, rfl, ?_⟩
    refine iteZ (by simp) ?_
    refine ⟨_, rfl, av', _, _, rfl, hy, _, rfl, ?_⟩
    refine iteY (by show isC "bool" "bool" = true; decide) ?_
    refine ⟨_, rfl, _, rfl, ?_⟩
    cases b with
    | true =>
      refine iteY rfl ?_
      exact ⟨_, rfl, _, _, rfl, rfl, true_⟩
    | false =>
      refine iteZ (by decide) ?_
      exact ⟨_, rfl, _, _, rfl, rfl, true_⟩
  | int i =>
    cases hx.get_int
    cases hy.get_int
    refine iteZ (by show ¬ isC "tuple" "int" = true; decide) ?_
    refine ⟨_, rfl, rfl, _, rfl, ?_⟩
    refine iteZ (by simp) ?_
    refine ⟨_, rfl, av', _, _, rfl, hy, _, rfl, ?_⟩
    refine iteZ (by show ¬ isC "bool" "int" = true; decide) ?_
    refine ⟨_, rfl, av', _, _, rfl, hy, _, rfl, ?_⟩
    refine iteY (by show isC "int" "int" = true; decide) ?_
    refine ⟨_, rfl, av, _, _, rfl, hx, _, rfl, ?_⟩
    refine iteY (by show isC "int" "int" = true; decide) ?_
    refine ⟨_, rfl, av, _, _, rfl, hx, _, rfl, _, rfl, ?_⟩
    refine iteY (by show (!isC "bool" "int") = true; decide) ?_
    refine ⟨_, rfl, _, rfl, rfl, ?_⟩
    have e : decide (V.int i = V.int i) = true := decide_eq_true rfl
    show Q (.bl (decide (V.int i = V.int i))) H
    rw [e]
    exact true_
  | str z =>
    cases hx.get_str
    cases hy.get_str
    refine iteZ (by show ¬ isC "tuple" "str" = true; decide) ?_
    refine ⟨_, rfl, rfl, _, rfl, ?_⟩
    refine iteZ (by simp) ?_
    refine ⟨_, rfl, av', _, _, rfl, hy, _, rfl, ?_⟩
    refine iteZ (by show ¬ isC "bool" "str" = true; decide) ?_
    refine ⟨_, rfl, av', _, _, rfl, hy, _, rfl, ?_⟩
    refine iteZ (by show ¬ isC "int" "str" = true; decide) ?_
    refine ⟨_, rfl, av, _, _, rfl, hx, _, rfl, ?_⟩
    refine iteY (by show isC "str" "str" = true; decide) ?_
    refine ⟨_, rfl, _, rfl, rfl, ?_⟩
    have e : decide (V.str z = V.str z) = true := decide_eq_true rfl
    show Q (.bl (decide (V.str z = V.str z))) H
    rw [e]
    exact true_
  | list l => cases hp
  | dict l => cases hp
theorem none_ok {ps : List Str} {sp : Sp} (no : ∀ vs H Q E, ¬ sp vs H Q E) : FnOk P w K mg base CX0 0 f fd ps sp :=
  ⟨fun vs H Q E h => absurd h (no vs H Q E), fun A outer s H args us vs Q E _ _ _ _ h => absurd h (no vs H Q E)⟩
theorem same_all (D : Def K mg "_law_same" sSame ["found", "due"]) (B : Blt mg) : ∀ n : Nat, Dfn P w K mg base "_law_same" ["found", "due"] n (spSame n)
  | 0 => by
    obtain ⟨f, fd, F, m, b⟩ := D.ex
    refine ⟨f, fd, none_ok fun vs H Q E h => ?_, m, F.kp, b⟩
    obtain ⟨_, _, _, _, _, _, _, _, _, h0, _⟩ := h
    omega
  | n + 1 => D.ok fun f fd F => ok_same F B (same_all D B n)
end
end Rw
namespace Rw
open PySem L2
abbrev sAny : Stmt := top 16
def wAny : Nat → Nat
  | 0 => 70
  | k + 1 => 3 * (wAny k + 1) + 10
theorem wAny_mono : ∀ k, 70 ≤ wAny k
  | 0 => Nat.le_refl _
  | k + 1 => by
    have := wAny_mono k
    show 70 ≤ 3 * (wAny k + 1) + 10
    omega
theorem RpAll.weak2 {av av' : Addr → Prop} {H : Hp} (e : ∀ b, av' b → av b) : ∀ {vs : List V} {ds : List PyData}, RpAll av H vs ds → RpAll av' H vs ds
  | _, _, .nil => .nil
  | _, _, .cons a b => .cons (a.weak e) (RpAll.weak2 e b)
/-- something stands there -/
def dom (H : Hp) : Addr → Prop := fun b => ∃ o, H b = some o
theorem dom_ext {dk gl : Addr} {H H1 : Hp} (e : Ext (avD dk gl) H H1) (D : DeckAt dk gl H1) {b : Addr} (h : dom H b) : dom H1 b := by
  obtain ⟨g, s, t, h1, h2, _⟩ := D.ex
  obtain ⟨o, h⟩ := h
  by_cases c : avD dk gl b
  · rcases c with z | z
    · exact ⟨_, z ▸ h1⟩
    · exact ⟨_, z ▸ h2⟩
  · exact ⟨o, e _ _ c h⟩
theorem dom_deck {dk gl : Addr} {H : Hp} (D : DeckAt dk gl H) {b : Addr} (h : avD dk gl b) : dom H b := by
  obtain ⟨g, s, t, h1, h2, _⟩ := D.ex
  rcases h with z | z
  · exact ⟨_, z ▸ h1⟩
  · exact ⟨_, z ▸ h2⟩
theorem not_dom {H : Hp} {p : Addr} (h : H p = none) : ¬ dom H p := fun ⟨o, e⟩ => by
  rw [h] at e
  cases e
theorem ext_upd {av : Addr → Prop} {H0 H : Hp} {L : Addr} (e : Ext av H0 H) (h : H0 L = none) (o : HO) : Ext av H0 (upd H L o) := fun b u n q => by
  rw [upd_ne (ne_of_none q h)]
  exact e b u n q
theorem DeckAt.put {dk gl : Addr} {H : Hp} (D : DeckAt dk gl H) {L : Addr} (n : ¬ avD dk gl L) (o : HO) : DeckAt dk gl (upd H L o) := by
  obtain ⟨g, s, t, h1, h2, h3⟩ := D.ex
  refine ⟨g, s, t, ?_, ?_, h3⟩
  · rw [upd_ne fun e => n (.inl e.symm)]
    exact h1
  · rw [upd_ne fun e => n (.inr e.symm)]
    exact h2
/-- some new value is given: data that can be shown, of depth k and weight n at most -/
def GivesNew (dk gl : Addr) (k n : Nat) (H : Hp) (Q : VK) : Prop := ∀ (v : V) (d : PyData) (H' : Hp), Ext (avD dk gl) H H' → DeckAt dk gl H' → Rp (dom H) H' v d → Nc k d → d.weight ≤ n → Q v H'
theorem GivesNew.ext {dk gl : Addr} {k n : Nat} {H H1 : Hp} {Q : VK} (g : GivesNew dk gl k n H Q) (e : Ext (avD dk gl) H H1) (D : DeckAt dk gl H1) : GivesNew dk gl k n H1 Q := fun v d H' e2 hD r c w => g v d H' (e.trans e2) hD (r.weak fun _ h => dom_ext e D h) c w
theorem GivesNew.less {dk gl : Addr} {k n k' n' : Nat} {H : Hp} {Q : VK} (g : GivesNew dk gl k n H Q) (hk : k' ≤ k) (hn : n' ≤ n) : GivesNew dk gl k' n' H Q := fun v d H' e2 hD r c w => g v d H' e2 hD r (c.up hk) (Nat.le_trans w hn)
def spAny (n : Nat) : Sp := fun vs H Q _ => ∃ (dk gl : Addr) (deep : Int), vs = [.ref dk, .int deep] ∧ DeckAt dk gl H ∧ 0 ≤ deep ∧ deep < (n : Int) ∧ GivesNew dk gl (2 * deep.toNat) (wAny deep.toNat) H Q
def nsAny : List Int := [-1, 0, 1, 2, 4, 5, 6, 23, 24, 1000000000000000007]
def zsAny : List Str := ["in", "out", "", "-", "stand", "bow", "even", "rest", "go", "plain", "way +0 -0"]
theorem nsAny_ok : ∀ i ∈ nsAny, i.natAbs < 10 ^ 20 := by decide +kernel
def zOk (z : Str) : Bool := (z.cps.toList.all fun c => decide (c < 16 ^ 8)) && decide (z.cps.size ≤ 70)
theorem zsAny_ok : ∀ z ∈ zsAny, zOk z = true := by decide +kernel
theorem Nc.ofZ {k : Nat} {z : Str} (h : zOk z = true) : Nc k (.str z) ∧ (PyData.str z).weight ≤ 70 := by
  have h' : (z.cps.toList.all fun c => decide (c < 16 ^ 8)) = true ∧ z.cps.size ≤ 70 := by
    have q : ((z.cps.toList.all fun c => decide (c < 16 ^ 8)) && decide (z.cps.size ≤ 70)) = true := h
    simpa only [Bool.and_eq_true, decide_eq_true_eq] using q
  refine ⟨.str h'.1, ?_⟩
  simp only [PyData.weight]
  exact h'.2
theorem mem_strs {zs : List Str} {v : V} (h : v ∈ zs.map V.str) : ∃ z ∈ zs, v = .str z := by
  obtain ⟨z, hz, e⟩ := List.mem_map.mp h
  exact ⟨z, hz, e.symm⟩
theorem mem_intsV {zs : List Int} {v : V} (h : v ∈ zs.map V.int) : ∃ z ∈ zs, v = .int z := by
  obtain ⟨z, hz, e⟩ := List.mem_map.mp h
  exact ⟨z, hz, e.symm⟩
section
variable {P : Program} {w : World} {K : PySem.W.Frag} {mg : Str → Option Value} {base : Heap} {f : Addr} {fd : FuncData}
theorem scAny : FnScope ["deck", "deep", "sort", "items", "turn"] ["deck", "deep"] (defScope sAny) := ⟨rfl, rfl, rfl, by decide +kernel, rfl, by decide +kernel, by decide +kernel⟩
theorem ok_any {n : Nat} (F : Fun K "_law_any" "_law_any" sAny f fd) (B : Blt mg) (DD : Dfn P w K mg base "_law_draw" ["deck", "many"] 1 spDraw) (DP : Dfn P w K mg base "_law_pick" ["deck", "items"] 2 spPick)
    (DA : Dfn P w K mg base "_law_any" ["deck", "deep"] (n + 2) (spAny n)) : FnOk P w K mg base CX0 (n + 3) f fd ["deck", "deep"] (spAny (n + 1)) := by
  refine F.ok scAny (fun vs H Q E h => ?_) (fun cdv A outer s H vs Q E hr h => ?_)
  · obtain ⟨_, _, _, rfl, _⟩ := h
    rfl
  obtain ⟨dk, gl, deep, rfl, hD, d0, d1, q⟩ := h
  have nd := scAny.nd
  have hr1 : Room 1 (A.deeper (PyProof.Rows.envOfC "_law_any" (defScope sAny) s.heap.objs.size f cdv)) := hr.mono (by omega)
  have hr2 : Room 2 (A.deeper (PyProof.Rows.envOfC "_law_any" (defScope sAny) s.heap.objs.size f cdv)) := hr.mono (by omega)
  refine ⟨_, pss_cons (ps_set (i := 2) nd rfl (Or.inl rfl) (pe_own DD hr1 (pa_cons (pv 0) (pa_cons (pe_ifExp (pt_cmpR op_gt (pv 1) pe_int (nomark _)) pe_int pe_int) pa_nil))))
    (pss_cons (ps_if (pt_cmpR op_lt (pv 2) pe_int (nomark _)) (pss_one (ps_ret (pe_ix ix_list (pe_lst (pa_cons pe_non (pa_cons pe_bl (pa_cons pe_bl pa_nil)))) (pv 2) (fun _ _ => rfl)))) pss_nil)
    (pss_cons (ps_if (pt_cmpR op_lt (pv 2) pe_int (nomark _)) (pss_one (ps_ret (pe_own DP hr2 (pa_cons (pv 0) (pa_cons (pe_lst (pa_cons (pe_un un_neg pe_int) (pa_cons pe_int (pa_cons pe_int (pa_cons pe_int (pa_cons pe_int (pa_cons pe_int (pa_cons pe_int (pa_cons pe_int (pa_cons pe_int (pa_cons (pe_op op_add (pe_op op_pow pe_int pe_int) pe_int) pa_nil))))))))))) pa_nil))))) pss_nil)
    (pss_cons (ps_if (pt_cmpR op_lt (pv 2) pe_int (nomark _)) (pss_one (ps_ret (pe_own DP hr2 (pa_cons (pv 0) (pa_cons (pe_lst (pa_cons pe_str (pa_cons pe_str (pa_cons pe_str (pa_cons pe_str (pa_cons pe_str (pa_cons pe_str (pa_cons pe_str (pa_cons pe_str (pa_cons pe_str (pa_cons pe_str (pa_cons pe_str pa_nil)))))))))))) pa_nil))))) pss_nil)
    (pss_cons (ps_setLc (i := 3) (own := [("turn", 4)]) (g := gName 4) (tt := tYes) (by rfl) nd rfl rfl (sw_true rfl rfl rfl (by decide +kernel)) (pi_range1 (by rfl) B.rng (pa_cons (pe_own DD hr1 (pa_cons (pv 0) (pa_cons pe_int pa_nil))) pa_nil))
      (blkOk_by (N := ["deck", "deep", "sort", "items", "turn"]) (sc := defScope sAny) (by decide +kernel)) (fun _ _ _ _ _ => pg_name (i := 4) nd rfl (Or.inl rfl)) (fun _ _ _ _ _ => pts_nil)
      (fun _ _ _ _ _ => pe_own DA hr (pa_cons (pv 0) (pa_cons (pe_op op_sub (pv 1) pe_int) pa_nil))))
    (pss_cons (ps_if (pt_cmpR op_lt (pv 2) pe_int (nomark _)) (pss_one (ps_ret (pv 3))) pss_nil)
    (pss_one (ps_ret (pe_ifExp (pt_cmpR op_eq (pv 2) pe_int (nomark _)) (pe_disp (pps_cons pe_str (pv 3) pps_nil) (by rfl) (by rfl) (fun z => by cases z) (by decide)) (pe_callTy call_tuple_of (by rfl) B.tup (by decide +kernel) (pa_cons (pv 3) pa_nil)))))))))), ?_⟩
  refine ⟨_, rfl, _, rfl, _, _, rfl, rfl, _, rfl, ?_⟩
  refine ite2 (fun c => ?_) (fun c => ?_)
  all_goals refine ⟨dk, gl, _, rfl, hD, by decide, fun r H1 e1 D1 r0 r1 => ?_⟩
  all_goals have hr16 : r < 16 ∧ (deep ≤ 0 → r < 10) := by first | (have c := of_decide_eq_true c; omega) | (have c := of_decide_eq_false (Bool.eq_false_iff.mpr c); omega)
  all_goals clear r1 c
  all_goals replace q := q.ext e1 D1
  all_goals clear e1 hD
  all_goals (
    refine ⟨_, rfl, _, _, rfl, rfl, _, rfl, ?_⟩
    refine ite2 (fun c => ?_) (fun c => ?_)
    · have c := of_decide_eq_true c
      refine ⟨(by show 3 ≤ sizeLine; decide), fun l hl => ?_⟩
      have e2 : Ext (avD dk gl) H1 (upd H1 l (.lst [.non, .bl true, .bl false])) := Ext.new hl _
      have D2 := D1.same (same_new hl (.lst [.non, .bl true, .bl false]))
      have hr3 : r = 0 ∨ r = 1 ∨ r = 2 := by omega
      have w0 : ∀ n, 0 ≤ wAny n := fun n => Nat.zero_le _
      rcases hr3 with e | e | e <;> subst e
      · exact ⟨_, rfl, l, _, _, .non, rfl, rfl, SqL.of upd_same, rfl, q _ _ _ e2 D2 .non .non (w0 _)⟩
      · exact ⟨_, rfl, l, _, _, .bl true, rfl, rfl, SqL.of upd_same, rfl, q _ _ _ e2 D2 (.bl _) (.bl _) (w0 _)⟩
      · exact ⟨_, rfl, l, _, _, .bl false, rfl, rfl, SqL.of upd_same, rfl, q _ _ _ e2 D2 (.bl _) (.bl _) (w0 _)⟩
    refine ⟨_, rfl, _, _, rfl, rfl, _, rfl, ?_⟩
    refine ite2 (fun _ => ?_) (fun _ => ?_)
    · refine ⟨_, rfl, _, rfl, _, _, rfl, rfl, ⟨by decide, by decide, by decide⟩, _, _, rfl, rfl, (by show 10 ≤ sizeLine; decide), fun l hl => ?_⟩
      have s1 := same_new hl (.lst (nsAny.map V.int))
      refine ⟨dk, gl, l, nsAny.map V.int, rfl, D1.same s1, upd_same, D1.new hl, by decide, by decide, fun v H' hv e2 D2 => ?_⟩
      obtain ⟨z, hz, rfl⟩ := mem_intsV hv
      exact q _ _ _ ((Ext.of_same s1).trans e2) D2 (.int z) (.int (nsAny_ok z hz)) (Nat.le_trans (w_int (nsAny_ok z hz)) (wAny_mono _))
    refine ⟨_, rfl, _, _, rfl, rfl, _, rfl, ?_⟩
    refine ite2 (fun _ => ?_) (fun c2 => ?_)
    · refine ⟨_, rfl, (by show 11 ≤ sizeLine; decide), fun l hl => ?_⟩
      have s1 := same_new hl (.lst (zsAny.map V.str))
      refine ⟨dk, gl, l, zsAny.map V.str, rfl, D1.same s1, upd_same, D1.new hl, by decide, by decide, fun v H' hv e2 D2 => ?_⟩
      obtain ⟨z, hz, rfl⟩ := mem_strs hv
      obtain ⟨n1, n2⟩ := Nc.ofZ (k := 2 * deep.toNat) (zsAny_ok z hz)
      exact q _ _ _ ((Ext.of_same s1).trans e2) D2 (.str z) n1 (Nat.le_trans n2 (wAny_mono _))
    have c2 := of_decide_eq_false (Bool.eq_false_iff.mpr c2)
    have hdeep : 1 ≤ deep := by omega
    obtain ⟨k, hk⟩ : ∃ k : Nat, deep.toNat = k + 1 := ⟨deep.toNat - 1, by omega⟩
    have hk2 : (deep - 1).toNat = k := by omega
    rw [hk] at q
    refine ⟨_, rfl, dk, gl, 4, rfl, D1, by decide, fun r2 H2 e2 D2 p0 p1 => ⟨_, rfl, by omega, by omega, fun L hL => ?_⟩⟩
    have q2 := q.ext e2 D2
    have nL : ¬ avD dk gl L := D2.new hL
    refine lc_range (lo := 0) (n := r2.toNat) (fun i H' => Ext (avD dk gl) H2 H' ∧ DeckAt dk gl H' ∧ ∃ (xs : List V) (ds : List PyData), H' L = some (.lst xs) ∧ RpAll (fun b => dom H2 b ∨ b = L) H' xs ds ∧ NcAll (2 * k) ds ∧ PyData.weightAll ds ≤ i * (wAny k + 1) ∧ xs.length = i) ?_ ?_ ?_
    · exact ⟨Ext.new hL _, D2.same (same_new hL _), [], [], upd_same, .nil, .nil, Nat.zero_le _, rfl⟩
    · rintro i H3 hi ⟨e3, D3, xs, ds, hx, rx, nx, wx, lx⟩
      refine ⟨rfl, ?_⟩
      refine iteT (B := True) ?_
      refine ⟨_, rfl, _, rfl, _, _, rfl, rfl, dk, gl, deep - 1, rfl, D3, by omega, by omega, fun v d H4 e4 D4 rv nv wv => ?_⟩
      rw [hk2] at nv wv
      have hx4 := e4 _ _ nL hx
      refine ⟨xs, hx4, szlt (by omega), ext_upd (e3.trans e4) hL _, D4.put nL _, xs ++ [v], ds ++ [d], upd_same, ?_, nx.app (.cons nv .nil), ?_, ?_⟩
      · have m1 : Ext (fun b => dom H2 b ∨ b = L) H3 H4 := fun b o n h => e4 b o (fun z => n (.inl (dom_deck D2 z))) h
        have m2 : Ext (fun b => dom H2 b ∨ b = L) H4 (upd H4 L (.lst (xs ++ [v]))) := Ext.put (.inr rfl) _
        refine ((rx.mono m1).snoc (rv.weak fun b hb => ?_)).mono m2
        rcases hb with z | z
        · exact dom_ext e3 D3 z
        · exact ⟨_, z ▸ hx⟩
      · rw [wA_app]
        simp only [PyData.weightAll]
        have : (i + 1) * (wAny k + 1) = i * (wAny k + 1) + (wAny k + 1) := Nat.succ_mul _ _
        omega
      · rw [List.length_append, List.length_singleton, lx]
    rintro H3 ⟨e3, D3, xs, ds, hx, rx, nx, wx, lx⟩
    have hi3 : r2.toNat ≤ 3 := by omega
    have wx3 : PyData.weightAll ds ≤ 3 * (wAny k + 1) := Nat.le_trans wx (Nat.mul_le_mul_right _ hi3)
    have wk : 3 * (wAny k + 1) + 10 = wAny (k + 1) := rfl
    have rl : Rp (dom H2) H3 (.ref L) (.list ds) := .lst (not_dom hL) hx (rx.weak2 fun b h => .inl h)
    have lenx : xs.length ≤ sizeLine := sz (by omega)
    refine ⟨_, rfl, _, _, rfl, rfl, _, rfl, ?_⟩
    refine ite2 (fun _ => ?_) (fun _ => ?_)
    · refine ⟨_, rfl, q2 _ _ _ e3 D3 rl ((Nc.lst nx).up (by omega)) ?_⟩
      simp only [PyData.weight]
      omega
    refine ⟨_, rfl, rfl, _, rfl, ?_⟩
    refine ite2 (fun _ => ?_) (fun _ => ?_)
    · refine fun p hp => ⟨_, rfl, upd_same, [(Sum.inr ("0" : Str), .ref L)], rfl, (by show 1 ≤ 15; decide), ?_⟩
      have em : mergeK [] [((Sum.inr ("0" : Str) : Key), V.ref L)] = [(Sum.inr ("0" : Str), .ref L)] := rfl
      rw [em]
      have hp2 : H2 p = none := by
        cases z : H2 p with
        | none => rfl
        | some o =>
          obtain ⟨u, hu⟩ := dom_ext e3 D3 ⟨o, z⟩
          rw [hu] at hp
          cases hp
      have s5 : Same H3 (upd (upd H3 p (.dK [])) p (.dK [(Sum.inr ("0" : Str), .ref L)])) := by
        rw [upd_upd]
        exact same_new hp _
      have r5 : Rp (dom H2) (upd (upd H3 p (.dK [])) p (.dK [(Sum.inr ("0" : Str), .ref L)])) (.ref p) (.dict [(.str "0", .list ds)]) := .dct (not_dom hp2) upd_same (rl.mono (Ext.of_same s5))
      refine q2 _ _ _ (e3.trans (Ext.of_same s5)) (D3.same s5) r5 ((Nc.dct (.str (by decide +kernel)) (Nc.lst nx)).up (by omega)) ?_
      simp only [PyData.weight, PyData.weightKv]
      have z0 : (Str.ofString "0").cps.size = 1 := by decide +kernel
      omega
    · refine ⟨_, rfl, L, xs, rfl, .inl ⟨SqL.of hx, fun p hp => ?_⟩⟩
      have hp2 : H2 p = none := by
        cases z : H2 p with
        | none => rfl
        | some o =>
          obtain ⟨u, hu⟩ := dom_ext e3 D3 ⟨o, z⟩
          rw [hu] at hp
          cases hp
      have s5 := same_new hp (.tup xs)
      refine q2 _ _ _ (e3.trans (Ext.of_same s5)) (D3.same s5) (.tup (not_dom hp2) upd_same ((rx.weak2 fun b h => .inl h).mono (Ext.of_same s5))) ((Nc.tup nx).up (by omega)) ?_
      simp only [PyData.weight]
      omega)
theorem any_all (D : Def K mg "_law_any" sAny ["deck", "deep"]) (B : Blt mg) (DD : Dfn P w K mg base "_law_draw" ["deck", "many"] 1 spDraw) (DP : Dfn P w K mg base "_law_pick" ["deck", "items"] 2 spPick) : ∀ n : Nat, Dfn P w K mg base "_law_any" ["deck", "deep"] (n + 2) (spAny n)
  | 0 => by
    obtain ⟨f, fd, F, m, b⟩ := D.ex
    refine ⟨f, fd, (none_ok fun vs H Q E h => ?_).mono (Nat.zero_le _), m, F.kp, b⟩
    obtain ⟨_, _, _, _, _, h0, h1, _⟩ := h
    omega
  | n + 1 => D.ok fun f fd F => ok_any F B DD DP (any_all D B DD DP n)
end
end Rw
section
namespace Rw
open PySem L2
/-! ### slices and sums of tuples, new or not -/
theorem cut_whole {xs : List V} {lo hi : Option Int} (h : HT.sIx xs.length 0 lo = 0 ∧ HT.sIx xs.length xs.length hi = xs.length) : cutV xs lo hi = xs := by
  unfold cutV
  rw [h.1, h.2, List.drop_zero, Nat.sub_zero, List.take_length]
section
variable {X : Cx}
def rSlB : V → Option Int → Option Int → Hp → VK → Prop := fun x lo hi H Q => ∃ (a : Addr) (xs : List V), x = .ref a ∧ H a = some (.tup xs) ∧ ∀ (r : Addr) (H' : Hp), Same H H' → H' r = some (.tup (cutV xs lo hi)) → (r = a ∨ H r = none) → Q (.ref r) H'
theorem sl_tupB : SlR X rSlB := by
  intro pins s σ H x v vl vu lo hi sl Q I rx hs pl pu h
  obtain ⟨a, xs, rfl, ha, q⟩ := h
  refine sl_tupA pins s σ H _ v vl vu lo hi sl Q I rx hs pl pu ⟨a, xs, rfl, SqT.of ha, fun hw => ?_, fun _ p hp => ?_⟩
  · exact q a H (Same.refl _) (by rw [cut_whole hw]; exact ha) (.inl rfl)
  · exact q p _ (same_new hp _) upd_same (.inr hp)
def rCatB : R2 := fun x y H Q => ∃ (a b : Addr) (xs ys : List V), x = .ref a ∧ y = .ref b ∧ H a = some (.tup xs) ∧ H b = some (.tup ys) ∧ xs.length + ys.length ≤ sizeLine ∧
  ∀ (r : Addr) (H' : Hp), Same H H' → H' r = some (.tup (xs ++ ys)) → (r = a ∨ r = b ∨ H r = none) → Q (.ref r) H'
theorem op_catB : OpR X (binaryOp .Add) rCatB := by
  intro pins s σ H x y v u Q I rx ry h
  obtain ⟨a, b, xs, ys, rfl, rfl, ha, hb, hz, q⟩ := h
  refine op_catA pins s σ H _ _ v u Q I rx ry ⟨a, b, xs, ys, rfl, rfl, SqT.of ha, SqT.of hb, hz, fun e => ?_, fun _ e => ?_, fun _ _ p hp => ?_⟩
  · subst e
    exact q b H (Same.refl _) hb (.inr (.inl rfl))
  · subst e
    exact q a H (Same.refl _) (by rw [List.append_nil]; exact ha) (.inl rfl)
  · exact q p _ (same_new hp _) upd_same (.inr (.inr hp))
end
theorem cut_to (xs : List V) (n : Nat) : cutV xs none (some (n : Int)) = xs.take n := by
  unfold cutV
  rw [HT.sIx_none, HT.sIx_nat, List.drop_zero, Nat.sub_zero]
  by_cases h : n ≤ xs.length
  · rw [Nat.min_eq_left h]
  · rw [Nat.min_eq_right (by omega), List.take_length, List.take_of_length_le (by omega)]
theorem cut_from (xs : List V) (n : Nat) : cutV xs (some (n : Int)) none = xs.drop n := by
  unfold cutV
  rw [HT.sIx_none, HT.sIx_nat]
  by_cases h : n ≤ xs.length
  · rw [Nat.min_eq_left h]
    exact List.take_of_length_le (by rw [List.length_drop]; omega)
  · rw [Nat.min_eq_right (by omega), List.drop_length, List.drop_of_length_le (by omega)]
    simp
abbrev sOther : Stmt := top 17
abbrev sBent : Stmt := top 18
/-- some value is given, no part of which is the deck's -/
def GivesAny (dk gl : Addr) (k n : Nat) (H : Hp) (Q : VK) : Prop := ∀ (v : V) (d : PyData) (H' : Hp), Ext (avD dk gl) H H' → DeckAt dk gl H' → Rp (avD dk gl) H' v d → Nc k d → d.weight ≤ n → Q v H'
theorem GivesAny.ext {dk gl : Addr} {k n : Nat} {H H1 : Hp} {Q : VK} (g : GivesAny dk gl k n H Q) (e : Ext (avD dk gl) H H1) : GivesAny dk gl k n H1 Q := fun v d H' e2 hD r c w => g v d H' (e.trans e2) hD r c w
theorem GivesAny.less {dk gl : Addr} {k n k' n' : Nat} {H : Hp} {Q : VK} (g : GivesAny dk gl k n H Q) (hk : k' ≤ k) (hn : n' ≤ n) : GivesAny dk gl k' n' H Q := fun v d H' e2 hD r c w => g v d H' e2 hD r (c.up hk) (Nat.le_trans w hn)
theorem GivesAny.new {dk gl : Addr} {k n : Nat} {H : Hp} {Q : VK} (g : GivesAny dk gl k n H Q) (D : DeckAt dk gl H) : GivesNew dk gl k n H Q := fun v d H' e2 hD r c w => g v d H' e2 hD (r.weak fun _ h => dom_deck D h) c w
def spOther : Sp := fun vs H Q _ => ∃ (dk gl : Addr) (v : V) (d : PyData) (k n : Nat), vs = [.ref dk, v] ∧ DeckAt dk gl H ∧ Rp (avD dk gl) H v d ∧ Nc k d ∧ 4 ≤ k ∧ d.weight ≤ n ∧ n ≤ 500000 ∧ GivesAny dk gl k (2 * n + 700) H Q
def zsOther : List Str := ["in", "out", "stand", "bow", "even", "-", "In", "in ", "rest", "go"]
def zsMore : List Str := ["hand", "look", "yield", "low"]
theorem zsOther_ok : ∀ z ∈ zsOther ++ zsMore, zOk z = true := by decide +kernel
set_option hygiene false
/-! the last three rows of _law_other, from the heap Hc on -/
local macro_rules | `(tactic| walk_at "other end") => `(tactic| (
  refine ⟨_, rfl, rfl, _, rfl, ?_⟩
  refine (if h6 : r = 6 then ?_ else ?_)
  · refine iteY (by simp [h6]) ?_
    refine ⟨_, rfl, avD dk gl, v, d, 0, 1, rfl, rp1, _, rfl, ?_⟩
    refine (if hw6 : wholeB 0 1 d = true then ?_ else ?_)
    · refine iteY hw6 ?_
      cases d with
      | int i =>
        cases rp1.get_int
        refine ⟨_, rfl, rfl, ?_⟩
        exact q _ _ _ Ext.refl DC (.bl _) (.bl _) (Nat.zero_le _)
      | _ => cases hw6
    · refine iteZ hw6 ?_
      refine ⟨_, rfl, (by show 2 ≤ sizeLine; decide), fun t9 ht9 => ?_⟩
      have s19 := same_new ht9 (.tup [.int 4, .int 7])
      refine ⟨t9, [.int 4, .int 7], rfl, .inr (SqT.of upd_same), rfl, rfl, _, rfl, ?_⟩
      refine iteZ (fun c => absurd (of_decide_eq_true ((inTup [4, 7]).symm.trans c)) (by simp; omega)) ?_
      exact ⟨_, rfl, dk, gl, 2, rfl, DC.same s19, by decide, by decide, ((q.ext (Ext.of_same s19)).new (DC.same s19)).less (show 2 * (2 : Int).toNat ≤ k from hk) (show wAny (2 : Int).toNat ≤ 2 * n + 700 from Nat.le_trans (by decide : wAny 2 ≤ 700) (Nat.le_add_left _ _))⟩
  · refine iteZ (by simp [h6]) ?_
    refine iteF (A := True) ?_
    refine ⟨_, rfl, (by show 2 ≤ sizeLine; decide), fun t9 ht9 => ?_⟩
    have s19 := same_new ht9 (.tup [.int 4, .int 7])
    refine ⟨t9, [.int 4, .int 7], rfl, .inr (SqT.of upd_same), rfl, rfl, _, rfl, ?_⟩
    have D19 := DC.same s19
    have q19 := q.ext (Ext.of_same s19)
    refine (if h47 : r ∈ [(4 : Int), 7] then ?_ else ?_)
    · refine iteY ((inTup [4, 7]).trans (decide_eq_true h47)) ?_
      refine ⟨_, rfl, dk, gl, 8, rfl, D19, by decide, fun z H8 e8 D8 z0 z1 => ?_⟩
      have sm : (z - 1).natAbs < 10 ^ 20 := by omega
      exact ⟨_, _, rfl, rfl, q19 _ _ _ e8 D8 (.int _) (.int sm) (Nat.le_trans (w_int sm) (by omega))⟩
    · refine iteZ (fun c => h47 (of_decide_eq_true ((inTup [4, 7]).symm.trans c))) ?_
      exact ⟨_, rfl, dk, gl, 2, rfl, D19, by decide, by decide, (q19.new D19).less (show 2 * (2 : Int).toNat ≤ k from hk) (show wAny (2 : Int).toNat ≤ 2 * n + 700 from Nat.le_trans (by decide : wAny 2 ≤ 700) (Nat.le_add_left _ _))⟩))
local macro_rules | `(tactic| walk_at "other tail") => `(tactic| (
  refine ⟨_, rfl, rfl, _, rfl, ?_⟩
  refine (if h5 : r = 5 then ?_ else ?_)
  · refine iteY (by simp [h5]) ?_
    refine ⟨_, rfl, avD dk gl, v, d, rfl, rp1, _, rfl, ?_⟩
    refine (if hs5 : isT "str" d = true then ?_ else ?_)
    · refine iteY hs5 ?_
      refine ⟨(by show 10 ≤ sizeLine; decide), fun l hl => ?_⟩
      have s11 := same_new hl (.lst (zsOther.map V.str))
      refine ⟨_, rfl, _, rfl, (by show 4 ≤ sizeLine; decide), fun l2 hl2 => ?_⟩
      have s12 := same_new hl2 (.lst (zsMore.map V.str))
      refine ⟨l, l2, zsOther.map V.str, zsMore.map V.str, rfl, rfl, s12 _ _ upd_same, upd_same, (by show 14 ≤ sizeLine; decide), fun l3 hl3 => ?_⟩
      have s13 := same_new hl3 (.lst (zsOther.map V.str ++ zsMore.map V.str))
      have s14 := s11.trans (s12.trans s13)
      refine ⟨dk, gl, l3, (zsOther ++ zsMore).map V.str, rfl, DC.same s14, upd_same, (DC.same (s11.trans s12)).new hl3, by decide, by decide, fun v9 H9 hv9 e9 D9 => ?_⟩
      obtain ⟨z9, hz9, rfl⟩ := mem_strs hv9
      obtain ⟨n1, n2⟩ := Nc.ofZ (k := k) (zsOther_ok z9 hz9)
      exact q _ _ _ ((Ext.of_same s14).trans e9) D9 (.str z9) n1 (by omega)
    · refine iteZ hs5 ?_
      walk_at "other end"
  · refine iteZ (by simp [h5]) ?_
    refine iteF (A := True) ?_
    walk_at "other end"))
section
variable {P : Program} {w : World} {K : PySem.W.Frag} {mg : Str → Option Value} {base : Heap} {f : Addr} {fd : FuncData}
theorem scOther : FnScope ["deck", "item", "sort", "words"] ["deck", "item"] (defScope sOther) := ⟨rfl, rfl, rfl, by decide +kernel, rfl, by decide +kernel, by decide +kernel⟩
theorem ok_other (F : Fun K "_law_other" "_law_other" sOther f fd) (B : Blt mg) (DD : Dfn P w K mg base "_law_draw" ["deck", "many"] 1 spDraw) (DP : Dfn P w K mg base "_law_pick" ["deck", "items"] 2 spPick)
    (DW : Dfn P w K mg base "_law_whole" ["value", "least", "most"] 1 spWhole) (DA : Dfn P w K mg base "_law_any" ["deck", "deep"] 5 (spAny 3)) : FnOk P w K mg base CX0 6 f fd ["deck", "item"] spOther := by
  refine F.ok scOther (fun vs H Q E h => ?_) (fun cdv A outer s H vs Q E hr h => ?_)
  · obtain ⟨_, _, _, _, _, _, rfl, _⟩ := h
    rfl
  obtain ⟨dk, gl, v, d, k, n, rfl, hD, rp, nc, hk, wd, hn, q⟩ := h
  have nd := scOther.nd
  have hr1 : Room 1 (A.deeper (PyProof.Rows.envOfC "_law_other" (defScope sOther) s.heap.objs.size f cdv)) := hr.mono (by omega)
  have hr2 : Room 2 (A.deeper (PyProof.Rows.envOfC "_law_other" (defScope sOther) s.heap.objs.size f cdv)) := hr.mono (by omega)
  refine ⟨_, pss_cons (ps_set (i := 2) nd rfl (Or.inl rfl) (pe_own DD hr1 (pa_cons (pv 0) (pa_cons pe_int pa_nil))))
    (pss_cons (ps_if (PW.pt (pw_and (pt_cmpR op_lt (pv 2) pe_int (nomark _)) (pw_and1 (pt_val (pe_own DW hr1 (pa_cons (pv 1) (pa_cons (pe_un un_neg pe_int) (pa_cons pe_int pa_nil)))))))) (pss_one (ps_ret (pe_op op_sub (pe_op op_add (pv 1) pe_int) (pe_op op_mul pe_int (pv 2))))) pss_nil)
    (pss_cons (ps_if (PW.pt (pw_and (pt_val (pe_isi (n := "tuple") (by simp) (pv 1) B.isi B.tup bt_tuple)) (pw_and1 (pt_cmpR op_in_seq (pv 2) (pe_tup (pa_cons pe_int (pa_cons pe_int (pa_cons pe_int (pa_cons pe_int pa_nil))))) (by rfl)))))
      (pss_one (ps_ret (pe_ix ix_list (pe_lst (pa_cons (pe_callTy call_list_of (by rfl) B.list (by decide +kernel) (pa_cons (pv 1) pa_nil)) (pa_cons (pe_op op_catB (pv 1) (pe_slice sl_tupB (pv 1) po_none (po_some pe_int)))
        (pa_cons (pe_slice sl_tupB (pv 1) (po_some pe_int) po_none) (pa_cons (pe_op op_catB (pv 1) (pe_tup (pa_cons pe_non pa_nil))) pa_nil))))) (pe_op op_sub (pv 2) pe_int) (fun _ _ => rfl)))) pss_nil)
    (pss_cons (ps_if (PW.pt (pw_and (pt_cmpR op_eq (pv 2) pe_int (nomark _)) (pw_and1 (pt_val (pe_isi (n := "str") (by simp) (pv 1) B.isi B.str bt_str)))))
      (pss_cons (ps_set (i := 3) nd rfl (Or.inl rfl) (pe_lst (pa_cons pe_str (pa_cons pe_str (pa_cons pe_str (pa_cons pe_str (pa_cons pe_str (pa_cons pe_str (pa_cons pe_str (pa_cons pe_str (pa_cons pe_str (pa_cons pe_str pa_nil))))))))))))
        (pss_one (ps_ret (pe_own DP hr2 (pa_cons (pv 0) (pa_cons (pe_op op_cat (pv 3) (pe_lst (pa_cons pe_str (pa_cons pe_str (pa_cons pe_str (pa_cons pe_str pa_nil)))))) pa_nil)))))) pss_nil)
    (pss_cons (ps_if (PW.pt (pw_and (pt_cmpR op_eq (pv 2) pe_int (nomark _)) (pw_and1 (pt_val (pe_own DW hr1 (pa_cons (pv 1) (pa_cons pe_int (pa_cons pe_int pa_nil)))))))) (pss_one (ps_ret (pe_cmpR op_eq (pv 1) pe_int (nomark _)))) pss_nil)
    (pss_one (ps_ret (pe_ifExp (pt_cmpR op_in_seq (pv 2) (pe_tup (pa_cons pe_int (pa_cons pe_int pa_nil))) (by rfl)) (pe_op op_sub (pe_own DD hr1 (pa_cons (pv 0) (pa_cons pe_int pa_nil))) pe_int) (pe_own DA hr (pa_cons (pv 0) (pa_cons pe_int pa_nil)))))))))), ?_⟩
  refine ⟨_, rfl, dk, gl, 9, rfl, hD, by decide, fun r H1 e1 D1 r0 r1 => ?_⟩
  have r9 : r < 9 := by omega
  replace q := q.ext e1
  have rp1 := rp.mono e1
  clear r1 rp e1 hD
  have ten20 : (10 : Nat) ^ 20 = 100000000000000000000 := by decide
  have numbers : ∀ i : Int, -9 ≤ i → i ≤ 99999 → Q (.int (i + 1 - 2 * r)) H1 := fun i a b => by
    have sm : (i + 1 - 2 * r).natAbs < 10 ^ 20 := by omega
    exact q _ _ _ Ext.refl D1 (.int _) (.int sm) (Nat.le_trans (w_int sm) (by omega))
  have inTup : ∀ (zs : List Int), (if false then !inV (V.int r) (zs.map V.int) else inV (V.int r) (zs.map V.int)) = decide (r ∈ zs) := fun zs => inV_ints r zs
  refine ⟨_, rfl, _, _, rfl, rfl, _, rfl, ?_⟩
  by_cases hr2 : r < 2
  · refine iteY (decide_eq_true hr2) ?_
    refine ⟨_, rfl, _, rfl, avD dk gl, v, d, -9, 99999, rfl, rp1, _, rfl, ?_⟩
    by_cases hw : wholeB (-9) 99999 d = true
    · refine iteY hw ?_
      cases d with
      | int i =>
        cases rp1.get_int
        have h3 : -9 ≤ i ∧ i ≤ 99999 := by
          rw [whole_at, Bool.and_eq_true, decide_eq_true_eq, decide_eq_true_eq] at hw
          exact hw
        refine ⟨_, rfl, _, _, rfl, rfl, _, rfl, _, _, rfl, rfl, .inl ⟨by decide, by decide⟩, _, _, rfl, rfl, numbers i h3.1 h3.2⟩
      | _ => cases hw
    refine iteZ hw ?_
    refine ⟨_, rfl, avD dk gl, v, d, rfl, rp1, _, rfl, ?_⟩
    by_cases ht : isT "tuple" d = true
    · refine iteY ht ?_
      refine ⟨_, rfl, (by show 4 ≤ sizeLine; decide), fun t ht2 => ?_⟩
      have s1 := same_new ht2 (.tup [.int 2, .int 3, .int 4, .int 5])
      refine ⟨t, [.int 2, .int 3, .int 4, .int 5], rfl, .inr (SqT.of upd_same), rfl, rfl, _, rfl, ?_⟩
      have hr5 : ¬ r ∈ [(2 : Int), 3, 4, 5] := by
        simp
        omega
      refine iteZ (fun c => hr5 (of_decide_eq_true ((inTup [2, 3, 4, 5]).symm.trans c))) ?_
      have D2 := D1.same s1
      replace q := q.ext (Ext.of_same s1)
      replace rp1 := rp1.mono (Ext.of_same s1)
      generalize upd H1 t (.tup [.int 2, .int 3, .int 4, .int 5]) = Hc at D2 q rp1
      have DC := D2
      walk_at "other tail"
    · refine iteZ ht ?_
      refine iteF (A := True) ?_
      have DC := D1
      walk_at "other tail"
  · refine iteZ (fun c => hr2 (of_decide_eq_true c)) ?_
    refine iteF (A := True) ?_
    refine ⟨_, rfl, avD dk gl, v, d, rfl, rp1, _, rfl, ?_⟩
    by_cases ht : isT "tuple" d = true
    · refine iteY ht ?_
      refine ⟨_, rfl, (by show 4 ≤ sizeLine; decide), fun t ht2 => ?_⟩
      have s1 := same_new ht2 (.tup [.int 2, .int 3, .int 4, .int 5])
      refine ⟨t, [.int 2, .int 3, .int 4, .int 5], rfl, .inr (SqT.of upd_same), rfl, rfl, _, rfl, ?_⟩
      by_cases hr5 : r ∈ [(2 : Int), 3, 4, 5]
      · refine iteY ((inTup [2, 3, 4, 5]).trans (decide_eq_true hr5)) ?_
        obtain ⟨ds, rfl⟩ := isT_tup.mp ht
        obtain ⟨a, xs, rfl, na, ha, hx⟩ := rp1.get_tup
        have ha1 := s1 _ _ ha
        have E1 : Ext (avD dk gl) H1 (upd H1 t (.tup [.int 2, .int 3, .int 4, .int 5])) := Ext.of_same s1
        have D2 := D1.same s1
        replace q := q.ext E1
        replace hx := hx.mono E1
        generalize upd H1 t (.tup [.int 2, .int 3, .int 4, .int 5]) = H2 at ha1 D2 q hx
        have hl := hx.len
        have hwl := wA_len ds
        have wd2 : PyData.weightAll ds ≤ n := by simpa only [PyData.weight] using wd
        obtain ⟨nc2, k1⟩ := nc.of_tup
        obtain ⟨k', rfl⟩ : ∃ k', k = k' + 1 := ⟨k - 1, by omega⟩
        have nc3 : NcAll k' ds := nc2
        have lim : xs.length + xs.length ≤ sizeLine := by
          rw [PySem.sizeLine_eq]
          omega
        -- list(item)
        refine ⟨_, rfl, a, xs, rfl, .inr (SqT.of ha1), fun l hl1 => ?_⟩
        have s3 := same_new hl1 (.lst xs)
        -- item + item[:1]
        refine ⟨_, rfl, _, rfl, 1, rfl, a, xs, rfl, s3 _ _ ha1, fun c1 H3 s4 hc1 oc1 => ?_⟩
        have ha3 := s4 _ _ (s3 _ _ ha1)
        rw [show (some (1 : Int)) = some ((1 : Nat) : Int) from rfl, cut_to] at hc1
        refine ⟨a, c1, xs, _, rfl, rfl, ha3, hc1, ?_, fun c2 H4 s5 hc2 oc2 => ?_⟩
        · rw [List.length_take]
          omega
        have ha4 := s5 _ _ ha3
        -- item[1:]
        refine ⟨_, rfl, 1, rfl, a, xs, rfl, ha4, fun c3 H5 s6 hc3 oc3 => ?_⟩
        rw [show (some (1 : Int)) = some ((1 : Nat) : Int) from rfl, cut_from] at hc3
        have ha5 := s6 _ _ ha4
        -- item + (None,)
        refine ⟨_, rfl, (by show 1 ≤ sizeLine; decide), fun t1 ht1 => ?_⟩
        have s7 := same_new ht1 (.tup [.non])
        refine ⟨a, t1, xs, [.non], rfl, rfl, s7 _ _ ha5, upd_same, ?_, fun c4 H6 s8 hc4 oc4 => ?_⟩
        · show xs.length + 1 ≤ sizeLine
          rw [PySem.sizeLine_eq]
          omega
        refine ⟨(by show 4 ≤ sizeLine; decide), fun z hz => ?_⟩
        have s9 := same_new hz (.lst [.ref l, .ref c2, .ref c3, .ref c4])
        have S3 := s3.trans s4
        have S4 := S3.trans s5
        have S5 := S4.trans s6
        have S7 := S5.trans s7
        have S8 := S7.trans s8
        have S9 := S8.trans s9
        have EX := Ext.of_same (av := avD dk gl) S9
        have DD9 := D2.same S9
        have hx9 := hx.mono EX
        have na2 : ¬ avD dk gl c1 := by
          rcases oc1 with e | e
          · rw [e]
            exact na
          · exact (D2.same s3).new e
        have na3 : ¬ avD dk gl c2 := by
          rcases oc2 with e | e | e
          · rw [e]
            exact na
          · rw [e]
            exact na2
          · exact (D2.same S3).new e
        have na4 : ¬ avD dk gl c3 := by
          rcases oc3 with e | e
          · rw [e]
            exact na
          · exact (D2.same S4).new e
        have na5 : ¬ avD dk gl c4 := by
          rcases oc4 with e | e | e
          · rw [e]
            exact na
          · rw [e]
            exact (D2.same S5).new ht1
          · exact (D2.same S7).new e
        have hl9 := s9 _ _ (s8 _ _ (s7 _ _ (s6 _ _ (s5 _ _ (s4 _ _ (upd_same (H := H2) (a := l) (o := .lst xs)))))))
        have hc29 := s9 _ _ (s8 _ _ (s7 _ _ (s6 _ _ hc2)))
        have hc39 := s9 _ _ (s8 _ _ (s7 _ _ hc3))
        have hc49 := s9 _ _ hc4
        have r2345 : r = 2 ∨ r = 3 ∨ r = 4 ∨ r = 5 := by simpa using hr5
        have wt1 := wA_take 1 ds
        have wd1 := wA_drop 1 ds
        rcases r2345 with e | e | e | e <;> subst e
        · refine ⟨_, rfl, _, _, rfl, rfl, z, _, _, .ref l, rfl, rfl, SqL.of upd_same, rfl, ?_⟩
          refine q _ _ _ EX DD9 (.lst (D2.new hl1) hl9 hx9) (Nc.lst nc3) ?_
          simp only [PyData.weight]
          omega
        · refine ⟨_, rfl, _, _, rfl, rfl, z, _, _, .ref c2, rfl, rfl, SqL.of upd_same, rfl, ?_⟩
          refine q _ _ _ EX DD9 (.tup na3 hc29 (hx9.app (hx9.take 1))) (Nc.tup (nc3.app (nc3.sub fun d h => List.mem_of_mem_take h))) ?_
          simp only [PyData.weight]
          rw [wA_app]
          omega
        · refine ⟨_, rfl, _, _, rfl, rfl, z, _, _, .ref c3, rfl, rfl, SqL.of upd_same, rfl, ?_⟩
          refine q _ _ _ EX DD9 (.tup na4 hc39 (hx9.drop 1)) (Nc.tup (nc3.sub fun d h => List.mem_of_mem_drop h)) ?_
          simp only [PyData.weight]
          omega
        · refine ⟨_, rfl, _, _, rfl, rfl, z, _, _, .ref c4, rfl, rfl, SqL.of upd_same, rfl, ?_⟩
          refine q _ _ _ EX DD9 (.tup na5 hc49 (hx9.snoc .non)) (Nc.tup (nc3.app (.cons .non .nil))) ?_
          simp only [PyData.weight]
          rw [wA_app]
          simp only [PyData.weightAll, PyData.weight]
          omega
      · refine iteZ (fun c => hr5 (of_decide_eq_true ((inTup [2, 3, 4, 5]).symm.trans c))) ?_
        have D2 := D1.same s1
        replace q := q.ext (Ext.of_same s1)
        replace rp1 := rp1.mono (Ext.of_same s1)
        generalize upd H1 t (.tup [.int 2, .int 3, .int 4, .int 5]) = Hc at D2 q rp1
        have DC := D2
        walk_at "other tail"
    · refine iteZ ht ?_
      refine iteF (A := True) ?_
      have DC := D1
      walk_at "other tail"
end
end Rw
end
namespace Rw
open PySem L2
def wB (n j : Nat) : Nat := (2 + j) * n + 700 + j
theorem wB_succ (n j : Nat) : wB n (j + 1) = n + wB n j + 1 := by
  unfold wB
  have : (2 + (j + 1)) * n = (2 + j) * n + n := by rw [← Nat.add_assoc]; exact Nat.succ_mul _ _
  omega
theorem wB_low (n j : Nat) : 3 * n ≤ wB n (j + 1) := by
  unfold wB
  have : 3 * n ≤ (2 + (j + 1)) * n := Nat.mul_le_mul_right _ (by omega)
  omega
theorem wB_zero (n j : Nat) : 2 * n + 700 ≤ wB n j := by
  unfold wB
  have : 2 * n ≤ (2 + j) * n := Nat.mul_le_mul_right _ (by omega)
  omega
def spBent (m : Nat) : Sp := fun vs H Q _ => ∃ (dk gl : Addr) (v : V) (d : PyData) (deep : Int) (k n : Nat), vs = [.ref dk, v, .int deep] ∧ DeckAt dk gl H ∧ Rp (avD dk gl) H v d ∧ Nc k d ∧ 4 + deep.toNat ≤ k ∧ d.weight ≤ n ∧ n ≤ 100000 ∧ 0 ≤ deep ∧ deep < (m : Int) ∧ GivesAny dk gl k (wB n deep.toNat) H Q
section
variable {P : Program} {w : World} {K : PySem.W.Frag} {mg : Str → Option Value} {base : Heap} {f : Addr} {fd : FuncData}
theorem scBent : FnScope ["deck", "value", "deep", "at", "sort", "other", "row"] ["deck", "value", "deep"] (defScope sBent) := ⟨rfl, rfl, rfl, by decide +kernel, rfl, by decide +kernel, by decide +kernel⟩
theorem ok_bent {m : Nat} (F : Fun K "_law_bent" "_law_bent" sBent f fd) (B : Blt mg) (DD : Dfn P w K mg base "_law_draw" ["deck", "many"] 1 spDraw) (DO : Dfn P w K mg base "_law_other" ["deck", "item"] 6 spOther)
    (DB : Dfn P w K mg base "_law_bent" ["deck", "value", "deep"] (m + 6) (spBent m)) : FnOk P w K mg base CX0 (m + 7) f fd ["deck", "value", "deep"] (spBent (m + 1)) := by
  refine F.ok scBent (fun vs H Q E h => ?_) (fun cdv A outer s H vs Q E hr h => ?_)
  · obtain ⟨_, _, _, _, _, _, _, rfl, _⟩ := h
    rfl
  obtain ⟨dk, gl, v, d, deep, k, n, rfl, hD, rp, nc, hk, wd, hn, d0, d1, q⟩ := h
  have nd := scBent.nd
  have hu := hu_of hr
  have hu0 : (A.deeper (PyProof.Rows.envOfC "_law_bent" (defScope sBent) s.heap.objs.size f cdv)).units < cLine := by omega
  have hr1 : Room 1 (A.deeper (PyProof.Rows.envOfC "_law_bent" (defScope sBent) s.heap.objs.size f cdv)) := hr.mono (by omega)
  have hr6 : Room 6 (A.deeper (PyProof.Rows.envOfC "_law_bent" (defScope sBent) s.heap.objs.size f cdv)) := hr.mono (by omega)
  refine ⟨_, pss_cons (ps_if (PW.pt (pw_or (pt_not (pt_val (pe_isi (n := "tuple") (by simp) (pv 1) B.isi B.tup bt_tuple))) (pw_or (pt_cmpR (op_eqNil hu0) (pv 1) (pe_tup pa_nil) (nomark _)) (pw_or (pt_cmpR op_eq (pv 2) pe_int (nomark _))
        (pw_or1 (pt_cmpR op_eq (pe_own DD hr1 (pa_cons (pv 0) (pa_cons pe_int pa_nil))) pe_int (nomark _))))))) (pss_one (ps_ret (pe_own DO hr6 (pa_cons (pv 0) (pa_cons (pv 1) pa_nil))))) pss_nil)
    (pss_cons (ps_par (i := 3) (j := 4) (by rfl) nd rfl rfl (by decide) rfl rfl (pa_cons (pe_own DD hr1 (pa_cons (pv 0) (pa_cons (pe_callB call_len_seq (by rfl) B.len PySem.boot_len (pa_cons (pv 1) pa_nil)) pa_nil))) (pa_cons (pe_own DD hr1 (pa_cons (pv 0) (pa_cons pe_int pa_nil))) pa_nil)) (by rfl))
    (pss_cons (ps_if (pt_cmpR op_eq (pv 4) pe_int (nomark _)) (pss_one (ps_ret (pe_op op_catB (pe_slice sl_tupB (pv 1) po_none (po_some (pv 3))) (pe_slice sl_tupB (pv 1) (po_some (pe_op op_add (pv 3) pe_int)) po_none)))) pss_nil)
    (pss_cons (ps_if (pt_cmpR op_eq (pv 4) pe_int (nomark _)) (pss_one (ps_ret (pe_op op_catB (pe_op op_catB (pe_slice sl_tupB (pv 1) po_none (po_some (pv 3))) (pe_tup (pa_cons (pe_ix ix_tup (pv 1) (pv 3) (fun _ _ => rfl)) pa_nil))) (pe_slice sl_tupB (pv 1) (po_some (pv 3)) po_none)))) pss_nil)
    (pss_cons (ps_if (pt_cmpR op_eq (pv 4) pe_int (nomark _))
      (pss_cons (ps_par (i := 5) (j := 6) (by rfl) nd rfl rfl (by decide) rfl rfl (pa_cons (pe_own DD hr1 (pa_cons (pv 0) (pa_cons (pe_callB call_len_seq (by rfl) B.len PySem.boot_len (pa_cons (pv 1) pa_nil)) pa_nil))) (pa_cons (pe_callTy call_list_of (by rfl) B.list (by decide +kernel) (pa_cons (pv 1) pa_nil)) pa_nil)) (by rfl))
      (pss_cons (ps_asg (pe_tup (pa_cons (pe_ix ix_tup (pv 1) (pv 5) (fun _ _ => rfl)) (pa_cons (pe_ix ix_tup (pv 1) (pv 3) (fun _ _ => rfl)) pa_nil))) (pg_tup rfl (pgs_cons (pg_sub (pv 6) (pv 3) set_list) (pgs_cons (pg_sub (pv 6) (pv 5) set_list) pgs_nil))))
      (pss_one (ps_ret (pe_callTy call_tuple_of (by rfl) B.tup (by decide +kernel) (pa_cons (pv 6) pa_nil)))))) pss_nil)
    (pss_one (ps_ret (pe_op op_catB (pe_op op_catB (pe_slice sl_tupB (pv 1) po_none (po_some (pv 3))) (pe_tup (pa_cons (pe_own DB hr (pa_cons (pv 0) (pa_cons (pe_ix ix_tup (pv 1) (pv 3) (fun _ _ => rfl)) (pa_cons (pe_op op_sub (pv 2) pe_int) pa_nil)))) pa_nil))) (pe_slice sl_tupB (pv 1) (po_some (pe_op op_add (pv 3) pe_int)) po_none)))))))), ?_⟩
  have other : ∀ H', Ext (avD dk gl) H H' → DeckAt dk gl H' → spOther [.ref dk, v] H' Q E0 := fun H' e D => ⟨dk, gl, v, d, k, n, rfl, D, rp.mono e, nc, by omega, wd, by omega, (q.ext e).less (Nat.le_refl _) (wB_zero _ _)⟩
  refine ⟨_, rfl, avD dk gl, v, d, rfl, rp, _, rfl, ?_⟩
  by_cases ht : isT "tuple" d = true
  case neg =>
    refine iteY (by simpa using ht) ?_
    refine iteT (B := True) ?_
    exact ⟨_, rfl, _, rfl, other H Ext.refl hD⟩
  refine iteZ (by simpa using ht) ?_
  obtain ⟨ds, rfl⟩ := isT_tup.mp ht
  obtain ⟨a, xs, rfl, na, ha, hx⟩ := id rp.get_tup
  have hl := hx.len
  refine ⟨_, rfl, Nat.zero_le _, fun t0 ht0 => ?_⟩
  have s0 := same_new ht0 (.tup [])
  refine ⟨a, t0, xs, rfl, rfl, SqT.of (s0 _ _ ha), SqT.of upd_same, _, rfl, ?_⟩
  have E0' := Ext.of_same (av := avD dk gl) s0
  have D0 := hD.same s0
  by_cases hx0 : xs = []
  · refine iteY (decide_eq_true hx0) ?_
    refine iteT (B := True) ?_
    exact ⟨_, rfl, _, rfl, other _ E0' D0⟩
  refine iteZ (fun c => hx0 (of_decide_eq_true c)) ?_
  refine ⟨_, rfl, rfl, _, rfl, ?_⟩
  by_cases hd0 : deep = 0
  · refine iteY (by simp [hd0]) ?_
    refine iteT (B := True) ?_
    exact ⟨_, rfl, _, rfl, other _ E0' D0⟩
  refine iteZ (by simp [hd0]) ?_
  refine ⟨_, rfl, dk, gl, 6, rfl, D0, by decide, fun z1 H1 e1 D1 _ _ => ?_⟩
  replace e1 := E0'.trans e1
  refine ⟨rfl, _, rfl, ?_⟩
  by_cases hz1 : z1 = 0
  · refine iteY (by simp [hz1]) ?_
    exact ⟨_, rfl, _, rfl, other _ e1 D1⟩
  refine iteZ (by simp [hz1]) ?_
  -- at, sort
  have len1 : 0 < xs.length := List.length_pos_iff.mpr hx0
  have hwl := wA_len ds
  have wd2 : PyData.weightAll ds ≤ n := by simpa only [PyData.weight] using wd
  have szx : xs.length ≤ 100000 := by omega
  refine ⟨_, rfl, _, rfl, a, xs, rfl, .inr (SqT.of (e1 _ _ na ha)), dk, gl, _, rfl, D1, by omega, fun at_ H2 e2 D2 a0 a1 => ?_⟩
  have at1 : at_.toNat < xs.length := by omega
  have e12 := e1.trans e2
  refine ⟨_, rfl, dk, gl, 9, rfl, D2, by decide, fun sort H3 e3 D3 s0 s1 => ?_⟩
  have e13 := e12.trans e3
  have ha3 := e13 _ _ na ha
  have hx3 := hx.mono e13
  replace q := q.ext e13
  obtain ⟨j, hj⟩ : ∃ j : Nat, deep.toNat = j + 1 := ⟨deep.toNat - 1, by omega⟩
  have hj2 : (deep - 1).toNat = j := by omega
  rw [hj] at q hk
  obtain ⟨nc2, k1⟩ := nc.of_tup
  obtain ⟨k', rfl⟩ : ∃ k', k = k' + 1 := ⟨k - 1, by omega⟩
  have nc3 : NcAll k' ds := nc2
  clear e1 e2 e3 e12 other E0' D0 D1 D2 ha hx hD rp
  obtain ⟨i, rfl⟩ : ∃ i : Nat, at_ = (i : Int) := ⟨at_.toNat, by omega⟩
  have hi : i < xs.length := by omega
  have hid : i < ds.length := by omega
  have gx : xs[i]? = some xs[i] := List.getElem?_eq_getElem hi
  have gd : ds[i]? = some ds[i] := List.getElem?_eq_getElem hid
  have next_ : (some ((i : Int) + 1)) = some ((i + 1 : Nat) : Int) := by congr 1
  have wlow := wB_low n j
  have wi : ds[i].weight + 1 ≤ PyData.weightAll ds := wA_mem (List.getElem_mem hid)
  have wt := wA_take i ds
  have wdr := wA_drop i ds
  have wsplit : PyData.weightAll (ds.take i) + PyData.weightAll (ds.drop i) = PyData.weightAll ds := by
    rw [← wA_app, List.take_append_drop]
  have wsplit2 : PyData.weightAll (ds.drop i) = ds[i].weight + 1 + PyData.weightAll (ds.drop (i + 1)) := by
    rw [List.drop_eq_getElem_cons hid]
    simp only [PyData.weightAll]
  have rpi : Rp (avD dk gl) H3 xs[i] ds[i] := by
    obtain ⟨d', e, r⟩ := hx3.at gx
    rw [gd] at e
    cases e
    exact r
  have nci : Nc k' ds[i] := NcAll.iff.mp nc3 _ (List.getElem_mem hid)
  have small : ∀ p : Nat, p ≤ 300000 → p ≤ sizeLine := fun p hp => by
    rw [PySem.sizeLine_eq]
    omega
  have fin : ∀ (r : Addr) (H' : Hp) (es : List PyData) (ys : List V), Ext (avD dk gl) H3 H' → DeckAt dk gl H' → ¬ avD dk gl r → H' r = some (.tup ys) → RpAll (avD dk gl) H' ys es → NcAll k' es → PyData.weightAll es ≤ wB n (j + 1) → Q (.ref r) H' := fun r H' es ys e D nr hr rr ne we =>
    q _ _ _ e D (.tup nr hr rr) (Nc.tup ne) (by simpa only [PyData.weight] using we)
  have was : ∀ {H : Hp} {r : Addr}, DeckAt dk gl H → (r = a ∨ H r = none) → ¬ avD dk gl r := fun D o => by
    rcases o with e | e
    · rw [e]
      exact na
    · exact D.new e
  refine ⟨_, _, rfl, ?_⟩
  refine ⟨_, rfl, rfl, _, rfl, ?_⟩
  by_cases hs0 : sort = 0
  · refine iteY (by simp [hs0]) ?_
    refine ⟨_, rfl, _, rfl, (i : Int), rfl, a, xs, rfl, ha3, fun c1 H4 t1 hc1 oc1 => ?_⟩
    rw [cut_to] at hc1
    refine ⟨_, rfl, _, rfl, _, _, rfl, rfl, _, rfl, a, xs, rfl, t1 _ _ ha3, fun c2 H5 t2 hc2 oc2 => ?_⟩
    rw [next_, cut_from] at hc2
    refine ⟨c1, c2, _, _, rfl, rfl, t2 _ _ hc1, hc2, small _ (by rw [List.length_take, List.length_drop]; omega), fun r H6 t3 hr6 or6 => ?_⟩
    have T := t1.trans (t2.trans t3)
    have D5 := D3.same (t1.trans t2)
    have nr : ¬ avD dk gl r := by
      rcases or6 with e | e | e
      · rw [e]
        exact was D3 oc1
      · rw [e]
        exact was (D3.same t1) oc2
      · exact D5.new e
    have hx6 := hx3.mono (Ext.of_same T)
    refine fin r H6 _ _ (Ext.of_same T) (D3.same T) nr hr6 ((hx6.take i).app (hx6.drop (i + 1))) ((nc3.sub fun d h => List.mem_of_mem_take h).app (nc3.sub fun d h => List.mem_of_mem_drop h)) ?_
    rw [wA_app]
    omega
  refine iteZ (by simp [hs0]) ?_
  refine ⟨_, rfl, rfl, _, rfl, ?_⟩
  by_cases hs1 : sort = 1
  · refine iteY (by simp [hs1]) ?_
    refine ⟨_, rfl, _, rfl, (i : Int), rfl, a, xs, rfl, ha3, fun c1 H4 t1 hc1 oc1 => ?_⟩
    rw [cut_to] at hc1
    refine ⟨_, rfl, _, rfl, a, xs, _, _, rfl, rfl, SqT.of (t1 _ _ ha3), atI_nat gx, (by show 1 ≤ sizeLine; decide), fun p2 hp2 => ?_⟩
    have t2 := same_new hp2 (.tup [xs[i]])
    refine ⟨c1, p2, _, _, rfl, rfl, t2 _ _ hc1, upd_same, small _ (by rw [List.length_take, List.length_singleton]; omega), fun c3 H5 t3 hc3 oc3 => ?_⟩
    have T5 := t1.trans (t2.trans t3)
    refine ⟨_, rfl, _, rfl, (i : Int), rfl, a, xs, rfl, T5 _ _ ha3, fun c4 H6 t4 hc4 oc4 => ?_⟩
    rw [cut_from] at hc4
    refine ⟨c3, c4, _, _, rfl, rfl, t4 _ _ hc3, hc4, small _ (by rw [List.length_append, List.length_take, List.length_drop, List.length_singleton]; omega), fun r H7 t5 hr7 or7 => ?_⟩
    have T7 := T5.trans (t4.trans t5)
    have n3 : ¬ avD dk gl c3 := by
      rcases oc3 with e | e | e
      · rw [e]
        exact was D3 oc1
      · rw [e]
        exact (D3.same t1).new hp2
      · exact (D3.same (t1.trans t2)).new e
    have nr : ¬ avD dk gl r := by
      rcases or7 with e | e | e
      · rw [e]
        exact n3
      · rw [e]
        exact was (D3.same T5) oc4
      · exact (D3.same (T5.trans t4)).new e
    have hx7 := hx3.mono (Ext.of_same T7)
    refine fin r H7 _ _ (Ext.of_same T7) (D3.same T7) nr hr7 (((hx7.take i).snoc (rpi.mono (Ext.of_same T7))).app (hx7.drop i)) (((nc3.sub fun d h => List.mem_of_mem_take h).app (.cons nci .nil)).app (nc3.sub fun d h => List.mem_of_mem_drop h)) ?_
    rw [wA_app, wA_app]
    simp only [PyData.weightAll]
    omega
  refine iteZ (by simp [hs1]) ?_
  refine ⟨_, rfl, rfl, _, rfl, ?_⟩
  by_cases hs2 : sort = 2
  · refine iteY (by simp [hs2]) ?_
    refine ⟨_, rfl, _, rfl, a, xs, rfl, .inr (SqT.of ha3), dk, gl, _, rfl, D3, by omega, fun o_ H4 e4 D4 o0 o1 => ?_⟩
    have oi1 : o_.toNat < xs.length := by omega
    obtain ⟨o, rfl⟩ : ∃ o : Nat, o_ = (o : Int) := ⟨o_.toNat, by omega⟩
    have oi : o < xs.length := by omega
    have oid : o < ds.length := by omega
    have ox : xs[o]? = some xs[o] := List.getElem?_eq_getElem oi
    have od : ds[o]? = some ds[o] := List.getElem?_eq_getElem oid
    have wo : ds[o].weight + 1 ≤ PyData.weightAll ds := wA_mem (List.getElem_mem oid)
    have ha4 := e4 _ _ na ha3
    refine ⟨_, rfl, a, xs, rfl, .inr (SqT.of ha4), fun l hl1 => ⟨_, _, rfl, ?_⟩⟩
    have t1 := same_new hl1 (.lst xs)
    have nl := D4.new hl1
    have al : a ≠ l := ne_of_none ha4 hl1
    refine ⟨_, rfl, _, rfl, a, xs, _, _, rfl, rfl, SqT.of (t1 _ _ ha4), atI_nat ox, _, rfl, _, rfl, a, xs, _, _, rfl, rfl, SqT.of (t1 _ _ ha4), atI_nat gx, (by show 2 ≤ sizeLine; decide), fun p2 hp2 => ?_⟩
    have t2 := same_new hp2 (.tup [xs[o], xs[i]])
    have hl2 := t2 _ _ (upd_same (H := H4) (a := l) (o := .lst xs))
    have E5 : Ext (avD dk gl) H3 (upd (upd H4 l (.lst xs)) p2 (.tup [xs[o], xs[i]])) := e4.trans (Ext.of_same (t1.trans t2))
    have D5 := D4.same (t1.trans t2)
    have m5 : upd (upd H4 l (.lst xs)) p2 (.tup [xs[o], xs[i]]) p2 = some (.tup [xs[o], xs[i]]) := upd_same
    have lnone : H3 l = none := by
      cases z : H3 l with
      | none => rfl
      | some u =>
        have := e4 _ _ nl z
        rw [this] at hl1
        cases hl1
    generalize upd (upd H4 l (.lst xs)) p2 (.tup [xs[o], xs[i]]) = H5 at hl2 E5 D5 m5
    have ix1 : ixN xs.length (i : Int) = some i := by
      unfold ixN
      rw [if_pos (by omega), if_pos (by omega), Int.toNat_natCast]
    have ix2 : ixN (xs.set i xs[o]).length (o : Int) = some o := by
      rw [List.length_set]
      unfold ixN
      rw [if_pos (by omega), if_pos (by omega), Int.toNat_natCast]
    refine ⟨p2, _, rfl, SqT.of m5, rfl, _, _, rfl, _, rfl, _, rfl, l, xs, _, i, rfl, rfl, hl2, ix1, _, _, rfl, _, rfl, _, rfl, l, xs.set i xs[o], _, o, rfl, rfl, upd_same, ix2, rfl, ?_⟩
    have E7 : Ext (avD dk gl) H3 (upd (upd H5 l (.lst (xs.set i xs[o]))) l (.lst ((xs.set i xs[o]).set o xs[i]))) := by
      rw [upd_upd]
      exact ext_upd E5 lnone _
    have D7 : DeckAt dk gl (upd (upd H5 l (.lst (xs.set i xs[o]))) l (.lst ((xs.set i xs[o]).set o xs[i]))) := by
      rw [upd_upd]
      exact D5.put nl _
    have m7 : upd (upd H5 l (.lst (xs.set i xs[o]))) l (.lst ((xs.set i xs[o]).set o xs[i])) l = some (.lst ((xs.set i xs[o]).set o xs[i])) := upd_same
    generalize upd (upd H5 l (.lst (xs.set i xs[o]))) l (.lst ((xs.set i xs[o]).set o xs[i])) = H7 at E7 D7 m7
    refine ⟨_, rfl, l, _, rfl, .inl ⟨SqL.of m7, fun r hr7 => ?_⟩⟩
    have t8 := same_new hr7 (.tup ((xs.set i xs[o]).set o xs[i]))
    have E8 := E7.trans (Ext.of_same t8)
    have rpo : Rp (avD dk gl) H3 xs[o] ds[o] := by
      obtain ⟨d', e, r⟩ := hx3.at ox
      rw [od] at e
      cases e
      exact r
    have nco : Nc k' ds[o] := NcAll.iff.mp nc3 _ (List.getElem_mem oid)
    refine fin r _ ((ds.set i ds[o]).set o ds[i]) _ E8 (D7.same t8) (D7.new hr7) upd_same (((hx3.set rpo i).set rpi o).mono E8) ((nc3.set nco i).set nci o) ?_
    have w1 := wA_set ds i ds[o]
    have w2 := wA_set (ds.set i ds[o]) o ds[i]
    omega
  refine iteZ (by simp [hs2]) ?_
  refine ⟨_, rfl, _, rfl, (i : Int), rfl, a, xs, rfl, ha3, fun c1 H4 t1 hc1 oc1 => ?_⟩
  rw [cut_to] at hc1
  have D4 := D3.same t1
  refine ⟨_, rfl, _, rfl, _, rfl, a, xs, _, _, rfl, rfl, SqT.of (t1 _ _ ha3), atI_nat gx, _, rfl, _, _, rfl, rfl, dk, gl, xs[i], ds[i], deep - 1, k', n, rfl, D4, rpi.mono (Ext.of_same t1), nci, by omega, by omega, hn, by omega, by omega, fun v5 d5 H5 e5 D5 r5 n5 w5 => ?_⟩
  rw [hj2] at w5
  have nc1 : ¬ avD dk gl c1 := was D3 oc1
  have hc15 := e5 _ _ nc1 hc1
  refine ⟨(by show 1 ≤ sizeLine; decide), fun p2 hp2 => ?_⟩
  have t2 := same_new hp2 (.tup [v5])
  refine ⟨c1, p2, _, _, rfl, rfl, t2 _ _ hc15, upd_same, small _ (by rw [List.length_take, List.length_singleton]; omega), fun c3 H6 t3 hc3 oc3 => ?_⟩
  have E6 : Ext (avD dk gl) H3 H6 := (Ext.of_same t1).trans (e5.trans (Ext.of_same (t2.trans t3)))
  have D6 := D5.same (t2.trans t3)
  refine ⟨_, rfl, _, rfl, _, _, rfl, rfl, _, rfl, a, xs, rfl, E6 _ _ na ha3, fun c4 H7 t4 hc4 oc4 => ?_⟩
  rw [next_, cut_from] at hc4
  refine ⟨c3, c4, _, _, rfl, rfl, t4 _ _ hc3, hc4, small _ (by rw [List.length_append, List.length_take, List.length_drop, List.length_singleton]; omega), fun r H8 t5 hr8 or8 => ?_⟩
  have n3 : ¬ avD dk gl c3 := by
    rcases oc3 with e | e | e
    · rw [e]
      exact nc1
    · rw [e]
      exact D5.new hp2
    · exact (D5.same t2).new e
  have nr : ¬ avD dk gl r := by
    rcases or8 with e | e | e
    · rw [e]
      exact n3
    · rw [e]
      exact was D6 oc4
    · exact (D6.same t4).new e
  have E8 := E6.trans (Ext.of_same (t4.trans t5))
  have hx8 := hx3.mono E8
  have r58 := r5.mono (Ext.of_same (t2.trans (t3.trans (t4.trans t5))))
  refine fin r H8 _ _ E8 (D6.same (t4.trans t5)) nr hr8 (((hx8.take i).snoc r58).app (hx8.drop (i + 1))) (((nc3.sub fun d h => List.mem_of_mem_take h).app (.cons n5 .nil)).app (nc3.sub fun d h => List.mem_of_mem_drop h)) ?_
  rw [wA_app, wA_app]
  simp only [PyData.weightAll]
  have ws := wB_succ n j
  omega
theorem bent_all (D : Def K mg "_law_bent" sBent ["deck", "value", "deep"]) (B : Blt mg) (DD : Dfn P w K mg base "_law_draw" ["deck", "many"] 1 spDraw) (DO : Dfn P w K mg base "_law_other" ["deck", "item"] 6 spOther) : ∀ m : Nat, Dfn P w K mg base "_law_bent" ["deck", "value", "deep"] (m + 6) (spBent m)
  | 0 => by
    obtain ⟨f, fd, F, mm, b⟩ := D.ex
    refine ⟨f, fd, (none_ok fun vs H Q E h => ?_).mono (Nat.zero_le _), mm, F.kp, b⟩
    obtain ⟨_, _, _, _, _, _, _, _, _, _, _, _, _, _, h0, h1, _⟩ := h
    omega
  | m + 1 => D.ok fun f fd F => ok_bent F B DD DO (bent_all D B DD DO m)
end
end Rw
section
namespace Rw
open PySem L2
abbrev sWay : Stmt := top 19
abbrev sLong : Stmt := top 20
def spWay : Sp := fun vs H Q _ => ∃ (dk gl : Addr) (rooms most : Int), vs = [.ref dk, .int rooms, .int most] ∧ DeckAt dk gl H ∧ 1 ≤ rooms ∧ rooms ≤ 900 ∧ 2 ≤ most ∧ most ≤ 24 ∧ GivesNew dk gl 2 4000 H Q
/-- within the loop of _law_way: the steps so far at SL, what is held at IL -/
structure WayAt (dk gl SL IL : Addr) (H H' : Hp) (rs : List Int) (sv : List V) (sd : List PyData) : Prop where
  ex : Ext (avD dk gl) H H'
  de : DeckAt dk gl H'
  st : H' SL = some (.lst sv)
  il : H' IL = some (.lst (rs.map V.int))
  rp : RpAll (fun b => dom H b ∨ b = SL ∨ b = IL) H' sv sd
theorem WayAt.ext {dk gl SL IL : Addr} {H H1 H2 : Hp} {rs : List Int} {sv : List V} {sd : List PyData} (w : WayAt dk gl SL IL H H1 rs sv sd) (hD : DeckAt dk gl H) (nS : ¬ avD dk gl SL) (nI : ¬ avD dk gl IL) (e : Ext (avD dk gl) H1 H2) (D : DeckAt dk gl H2) : WayAt dk gl SL IL H H2 rs sv sd where
  ex := w.ex.trans e
  de := D
  st := e _ _ nS w.st
  il := e _ _ nI w.il
  rp := w.rp.mono fun b o n h => e b o (fun z => n (.inl (dom_deck hD z))) h
theorem WayAt.putI {dk gl SL IL : Addr} {H H1 : Hp} {rs : List Int} {sv : List V} {sd : List PyData} (w : WayAt dk gl SL IL H H1 rs sv sd) (hI : H IL = none) (ne : SL ≠ IL) (nI : ¬ avD dk gl IL) (ts : List Int) : WayAt dk gl SL IL H (upd H1 IL (.lst (ts.map V.int))) ts sv sd where
  ex := ext_upd w.ex hI _
  de := w.de.put nI _
  st := by rw [upd_ne ne]; exact w.st
  il := upd_same
  rp := w.rp.mono (Ext.put (.inr (.inr rfl)) _)
theorem WayAt.putS {dk gl SL IL : Addr} {H H1 : Hp} {rs : List Int} {sv : List V} {sd : List PyData} (w : WayAt dk gl SL IL H H1 rs sv sd) (hS : H SL = none) (ne : SL ≠ IL) (nS : ¬ avD dk gl SL) {v : V} {d : PyData} (r : Rp (fun b => dom H b ∨ b = SL ∨ b = IL) H1 v d) : WayAt dk gl SL IL H (upd H1 SL (.lst (sv ++ [v]))) rs (sv ++ [v]) (sd ++ [d]) where
  ex := ext_upd w.ex hS _
  de := w.de.put nS _
  st := upd_same
  il := by rw [upd_ne ne.symm]; exact w.il
  rp := (w.rp.snoc r).mono (Ext.put (.inr (.inl rfl)) _)
def rOk (x : Int) : Prop := 0 ≤ x ∧ x < 1000
/-- ahead of a turn of the loop of _law_way -/
def WayW (dk gl SL IL : Addr) (H : Hp) (rooms most r : Int) (m : Nat) (σ : L2.St) (H' : Hp) : Prop := ∃ (c : Int) (rs : List Int) (sv : List V) (sd : List PyData) (v6 v7 : Option V), σ = [some (.ref dk), some (.int rooms), some (.int most), some (.int c), some (.ref SL), some (.ref IL), v6, v7] ∧
  0 ≤ c ∧ m = 2 * c.toNat + rs.length ∧ (sv.length : Int) + 2 * c + (rs.length : Int) = 2 * (1 + r) ∧ WayAt dk gl SL IL H H' rs sv sd ∧ NcAll 1 sd ∧ PyData.weightAll sd ≤ 143 * sv.length ∧ ∀ x ∈ rs, rOk x
theorem pair_ok {z : Str} {x : Int} (hz : zOk z = true) (hx : rOk x) : Nc 1 (.tuple [.str z, .int x]) ∧ (PyData.tuple [.str z, .int x]).weight ≤ 142 := by
  have sm : x.natAbs < 10 ^ 20 := by
    have ten20 : (10 : Nat) ^ 20 = 100000000000000000000 := by decide
    obtain ⟨a, b⟩ := hx
    omega
  obtain ⟨n1, n2⟩ := Nc.ofZ (k := 0) hz
  refine ⟨Nc.tup (.cons n1 (.cons (.int sm) .nil)), ?_⟩
  have n3 := w_int sm
  simp only [PyData.weight, PyData.weightAll] at n2 n3 ⊢
  omega
theorem z_in : zOk "in" = true := by decide +kernel
theorem z_out : zOk "out" = true := by decide +kernel
theorem at_last (rs : List Int) (z : Int) : atI ((rs ++ [z]).map V.int) (-1) = some (.int z) := by
  unfold atI ixN
  rw [if_neg (by decide), List.length_map, List.length_append, List.length_singleton, if_pos (by omega)]
  have e : ((-1 : Int) + ((rs.length + 1 : Nat) : Int)).toNat = rs.length := by omega
  rw [e]
  show ((rs ++ [z]).map V.int)[rs.length]? = _
  rw [List.getElem?_map, List.getElem?_append_right (Nat.le_refl _), Nat.sub_self]
  rfl
theorem WayAt.new {dk gl SL IL : Addr} {H H1 : Hp} {rs : List Int} {sv : List V} {sd : List PyData} (w : WayAt dk gl SL IL H H1 rs sv sd) {p : Addr} (hp : H1 p = none) : ¬ (dom H p ∨ p = SL ∨ p = IL) := by
  rintro (z | z | z)
  · exact not_dom hp (dom_ext w.ex w.de z)
  · rw [z, w.st] at hp
    cases hp
  · rw [z, w.il] at hp
    cases hp
set_option hygiene false
local macro_rules | `(tactic| walk_at "way then") => `(tactic| (
  obtain ⟨c9, hc9, hdl⟩ := last_ints hr1
  have lpos : 0 < rs.length := List.length_pos_iff.mpr hr1
  have c9in : c9 ∈ rs := by
    obtain ⟨y, hy, ey⟩ := List.mem_map.mp (List.mem_of_getElem? hc9)
    cases ey
    exact hy
  refine ⟨_, rfl, .inl ⟨rfl, _, SqL.of Wx.st⟩, _, rfl, .inl ⟨rfl, _, SqL.of Wx.il⟩, IL, _, _, rfl, rfl, Wx.il, hc9, (by show 2 ≤ sizeLine; decide), ?_⟩
  rw [hdl]
  intro p9 hp9
  have W9 := Wx.putI hI0 ne nI rs.dropLast
  have s9 := same_new hp9 (.tup [.str "out", .int c9])
  have W10 := W9.ext hD nS nI (Ext.of_same s9) (W9.de.same s9)
  obtain ⟨n1, n2⟩ := pair_ok z_out (hrs c9 c9in)
  refine ⟨SL, _, _, rfl, rfl, W10.st, szlt (by omega), ?_⟩
  refine ⟨_, ?_, c, rs.dropLast, _, _, _, _, rfl, c0, rfl, ?_, W10.putS hS0 ne nS (.tup (W9.new hp9) upd_same (.cons (.str _) (.cons (.int _) .nil))), nc.app (.cons n1 .nil), ?_, fun x hx => hrs x ((List.dropLast_sublist _).subset hx)⟩
  · rw [List.length_dropLast]
    omega
  · rw [List.length_dropLast, List.length_append, List.length_singleton]
    omega
  · rw [wA_app, List.length_append, List.length_singleton]
    simp only [PyData.weightAll]
    omega))
local macro_rules | `(tactic| walk_at "way else") => `(tactic| (
  refine ⟨_, rfl, .inl ⟨rfl, _, SqL.of Wx.il⟩, _, rfl, _, rfl, dk, gl, L, fs.map V.int, rfl, Wx.de, hFx, nL, by rw [List.length_map]; exact f0, by rw [List.length_map]; omega, fun v9 H9 hv9 e9 D9 => ?_⟩
  obtain ⟨z9, hz9, rfl⟩ := mem_intsV hv9
  have W9 := Wx.ext hD nS nI e9 D9
  refine ⟨IL, _, _, rfl, rfl, W9.il, szlt (by rw [List.length_map]; omega), ?_⟩
  have eL : (rs.map V.int ++ [V.int z9]) = (rs ++ [z9]).map V.int := by
    rw [List.map_append]
    rfl
  rw [eL]
  have W10 := W9.putI hI0 ne nI (rs ++ [z9])
  generalize upd H9 IL (.lst ((rs ++ [z9]).map V.int)) = H10 at W10
  refine ⟨_, rfl, .inl ⟨rfl, _, SqL.of W10.st⟩, _, rfl, _, rfl, IL, _, _, _, rfl, rfl, SqL.of W10.il, at_last rs z9, (by show 2 ≤ sizeLine; decide), fun p9 hp9 => ?_⟩
  have s9 := same_new hp9 (.tup [.str "in", .int z9])
  have W11 := W10.ext hD nS nI (Ext.of_same s9) (W10.de.same s9)
  obtain ⟨n1, n2⟩ := pair_ok z_in (hfs z9 hz9)
  refine ⟨SL, _, _, rfl, rfl, W11.st, szlt (by omega), ?_⟩
  refine ⟨_, rfl, _, _, rfl, rfl, ?_⟩
  refine ⟨_, ?_, c - 1, rs ++ [z9], _, _, _, _, rfl, by omega, rfl, ?_, W11.putS hS0 ne nS (.tup (W10.new hp9) upd_same (.cons (.str _) (.cons (.int _) .nil))), nc.app (.cons n1 .nil), ?_, ?_⟩
  · rw [List.length_append, List.length_singleton]
    omega
  · rw [List.length_append, List.length_singleton, List.length_append, List.length_singleton]
    omega
  · rw [wA_app, List.length_append, List.length_singleton]
    simp only [PyData.weightAll]
    omega
  · intro x hx
    rcases List.mem_append.mp hx with y | y
    · exact hrs x y
    · rw [List.mem_singleton.mp y]
      exact hfs z9 hz9))
local macro_rules | `(tactic| walk_at "way body") => `(tactic| (
  refine ⟨fun σ2 H2 => ∃ m', m' < 2 * c.toNat + rs.length ∧ WayW dk gl SL IL H rooms most r m' σ2 H2, fun _ _ h => h, ?_⟩
  refine ⟨_, rfl, _, rfl, by omega, by omega, fun L hL => ?_⟩
  have nL : ¬ avD dk gl L := Wc.de.new hL
  refine lc_range (lo := 0) (n := rooms.toNat) (fun i H2 => Same Hc H2 ∧ ∃ fs : List Int, H2 L = some (.lst (fs.map V.int)) ∧ (∀ x ∈ fs, rOk x) ∧ fs.length ≤ i ∧ (rs = [] → fs.length = i)) ?_ ?_ ?_
  · exact ⟨same_new hL _, [], upd_same, fun x hx => absurd hx (by simp), Nat.le_refl _, fun _ => rfl⟩
  · rintro i H2 hi ⟨s5, fs, hF, hfs, lf, lf2⟩
    refine ⟨rfl, ?_⟩
    refine ⟨_, rfl, _, rfl, IL, _, rfl, .inl (SqL.of (s5 _ _ Wc.il)), rfl, flat_ints rs, _, rfl, ?_⟩
    have eN : (if true then !inV (V.int (0 + (i : Nat))) (rs.map V.int) else inV (V.int (0 + (i : Nat))) (rs.map V.int)) = !decide ((0 + (i : Nat) : Int) ∈ rs) := by
      rw [if_pos rfl, inV_ints]
    refine ite2 (fun cN => ?_) (fun cN => ?_)
    · refine ⟨_, rfl, _, hF, szlt (by rw [List.length_map]; omega), same_upd s5 hL _, fs ++ [(0 + (i : Nat) : Int)], ?_, ?_, ?_, ?_⟩
      · rw [upd_same, List.map_append]
        rfl
      · intro x hx
        rcases List.mem_append.mp hx with y | y
        · exact hfs x y
        · rw [List.mem_singleton.mp y]
          exact ⟨by omega, by omega⟩
      · rw [List.length_append, List.length_singleton]
        omega
      · intro y
        rw [List.length_append, List.length_singleton, lf2 y]
    · refine ⟨s5, fs, hF, hfs, by omega, fun y => ?_⟩
      subst y
      exact absurd (eN.trans (by simp)) cN
  rintro H3 ⟨s5, fs, hF, hfs, lf, lf2⟩
  have W3 := Wc.ext hD nS nI (Ext.of_same s5) (Wc.de.same s5)
  have lfs : fs.length ≤ 900 := by omega
  refine ⟨_, rfl, Nat.zero_le _, fun p1 hp1 => ?_⟩
  have s6 := same_new hp1 (.lst [])
  refine ⟨.list (rs.map PyData.int), .list (([] : List Int).map PyData.int), .lst (SqL.of (s6 _ _ W3.il)) (dp_ints _), .lst (SqL.of upd_same) .nil, shaped_ints _, shaped_ints [], _, rfl, ?_⟩
  rw [eqv_ints]
  have hF6 := s6 _ _ hF
  have W6 := W3.ext hD nS nI (Ext.of_same s6) (W3.de.same s6)
  generalize upd H3 p1 (.lst []) = H6 at W6 hF6
  refine (if hr1 : rs = [] then ?_ else ?_)
  · refine iteZ (by simp [hr1]) ?_
    refine iteF (A := True) ?_
    have f0 : 0 < fs.length := by
      have := lf2 hr1
      omega
    have cp : 0 < c := go.resolve_right (fun z => z hr1)
    have Wx := W6
    have hFx := hF6
    generalize H6 = Hx at Wx hFx
    walk_at "way else"
  · refine iteY (by simp [hr1]) ?_
    refine ⟨_, rfl, rfl, _, rfl, ?_⟩
    refine (if hc1 : c = 0 then ?_ else ?_)
    · refine iteY (by simp [hc1]) ?_
      refine iteT (B := True) ?_
      have Wx := W6
      generalize H6 = Hx at Wx
      walk_at "way then"
    · refine iteZ (by simp [hc1]) ?_
      have cp : 0 < c := by omega
      refine ⟨_, rfl, Nat.zero_le _, fun p2 hp2 => ?_⟩
      have s7 := same_new hp2 (.lst [])
      refine ⟨.list (fs.map PyData.int), .list (([] : List Int).map PyData.int), .lst (SqL.of (s7 _ _ hF6)) (dp_ints _), .lst (SqL.of upd_same) .nil, shaped_ints _, shaped_ints [], _, rfl, ?_⟩
      rw [eqv_ints]
      have hF7 := s7 _ _ hF6
      have W7 := W6.ext hD nS nI (Ext.of_same s7) (W6.de.same s7)
      generalize upd H6 p2 (.lst []) = H7 at W7 hF7
      refine (if hf1 : fs = [] then ?_ else ?_)
      · refine iteY (by simp [hf1]) ?_
        refine iteT (B := True) ?_
        have Wx := W7
        generalize H7 = Hx at Wx
        walk_at "way then"
      · refine iteZ (by simp [hf1]) ?_
        have f0 : 0 < fs.length := List.length_pos_iff.mpr hf1
        refine ⟨_, rfl, dk, gl, 5, rfl, W7.de, by decide, fun z8 H8 e8 D8 _ _ => ⟨_, _, rfl, rfl, _, rfl, ?_⟩⟩
        have Wx := W7.ext hD nS nI e8 D8
        have hFx := e8 _ _ nL hF7
        generalize H8 = Hx at Wx hFx
        refine ite2 (fun _ => ?_) (fun _ => ?_)
        · walk_at "way then"
        · walk_at "way else"))
section
variable {P : Program} {w : World} {K : PySem.W.Frag} {mg : Str → Option Value} {base : Heap} {f : Addr} {fd : FuncData}
theorem scWay : FnScope ["deck", "rooms", "most", "count", "steps", "inside", "free", "room"] ["deck", "rooms", "most"] (defScope sWay) := ⟨rfl, rfl, rfl, by decide +kernel, rfl, by decide +kernel, by decide +kernel⟩
theorem ok_way (F : Fun K "_law_way" "_law_way" sWay f fd) (B : Blt mg) (DD : Dfn P w K mg base "_law_draw" ["deck", "many"] 1 spDraw) (DP : Dfn P w K mg base "_law_pick" ["deck", "items"] 2 spPick) : FnOk P w K mg base CX0 3 f fd ["deck", "rooms", "most"] spWay := by
  refine F.ok scWay (fun vs H Q E h => ?_) (fun cdv A outer s H vs Q E hr h => ?_)
  · obtain ⟨_, _, _, _, rfl, _⟩ := h
    rfl
  obtain ⟨dk, gl, rooms, most, rfl, hD, m0, m1, m2, m3, q⟩ := h
  have nd := scWay.nd
  have hu64 : (A.deeper (PyProof.Rows.envOfC "_law_way" (defScope sWay) s.heap.objs.size f cdv)).units + 64 < cLine := by
    have := hr.un
    omega
  have hr1 : Room 1 (A.deeper (PyProof.Rows.envOfC "_law_way" (defScope sWay) s.heap.objs.size f cdv)) := hr.mono (by omega)
  refine ⟨_, pss_cons (ps_asg (pe_tup (pa_cons (pe_op op_add pe_int (pe_own DD hr1 (pa_cons (pv 0) (pa_cons (pe_op op_fdiv (pv 2) pe_int) pa_nil)))) (pa_cons (pe_lst pa_nil) (pa_cons (pe_lst pa_nil) pa_nil))))
      (pg_tup rfl (pgs_cons (pg_name (i := 3) nd rfl (Or.inl rfl)) (pgs_cons (pg_name (i := 4) nd rfl (Or.inl rfl)) (pgs_cons (pg_name (i := 5) nd rfl (Or.inr rfl)) pgs_nil)))))
    (pss_cons (ps_while PassesOwn.never (PW.pt (pw_or (pt_cmpR op_gt (pv 3) pe_int (nomark _)) (pw_or1 (pt_cmpR (op_neD hu64) (pv 5) (pe_lst pa_nil) (nomark _)))))
      (pss_cons (ps_setLc (i := 6) (own := [("room", 7)]) (g := gName 7) (tt := _) (by rfl) nd rfl rfl (sw_true rfl rfl rfl (by decide +kernel)) (pi_range1 (by rfl) B.rng (pa_cons (pv 1) pa_nil))
        (blkOk_by (N := ["deck", "rooms", "most", "count", "steps", "inside", "free", "room"]) (sc := defScope sWay) (by decide +kernel)) (fun _ _ _ _ _ => pg_name (i := 7) nd rfl (Or.inl rfl)) (fun _ _ _ _ _ => pts_one (pt_cmpR (r := rIn K true) op_notIn_seq (pv 7) (pv 5) (by rfl))) (fun _ _ _ _ _ => pv 7))
      (pss_one (ps_if (PW.pt (pw_and (pt_cmpR (op_neD hu64) (pv 5) (pe_lst pa_nil) (nomark _)) (pw_and1 (PW.pt (pw_or (pt_cmpR op_eq (pv 3) pe_int (nomark _)) (pw_or (pt_cmpR (op_eqD hu64) (pv 6) (pe_lst pa_nil) (nomark _)) (pw_or1 (pt_cmpR op_lt (pe_own DD hr1 (pa_cons (pv 0) (pa_cons pe_int pa_nil))) pe_int (nomark _)))))))))
        (pss_one (ps_expr (pe_bm PySem.F.plainAttrs_list PySem.F.slot_list_append PySem.F.type_list_append mt_append (pv 4) (pa_cons (pe_tup (pa_cons pe_str (pa_cons (pe_bm0 PySem.F.plainAttrs_list PySem.F.slot_list_pop PySem.F.type_list_pop mt_pop (pv 5)) pa_nil))) pa_nil))))
        (pss_cons (ps_expr (pe_bm PySem.F.plainAttrs_list PySem.F.slot_list_append PySem.F.type_list_append mt_append (pv 5) (pa_cons (pe_own DP hr (pa_cons (pv 0) (pa_cons (pv 6) pa_nil))) pa_nil)))
        (pss_cons (ps_expr (pe_bm PySem.F.plainAttrs_list PySem.F.slot_list_append PySem.F.type_list_append mt_append (pv 4) (pa_cons (pe_tup (pa_cons pe_str (pa_cons (pe_ix ix_list (pv 5) (pe_un un_neg pe_int) (fun _ _ => rfl)) pa_nil))) pa_nil)))
        (pss_one (ps_set (i := 3) nd rfl (Or.inl rfl) (pe_op op_sub (pv 3) pe_int)))))))))
    (pss_one (ps_ret (pe_callTy call_tuple_of (by rfl) B.tup (by decide +kernel) (pa_cons (pv 4) pa_nil))))), ?_⟩
  refine ⟨_, rfl, _, rfl, _, _, rfl, rfl, ⟨by decide, by decide⟩, dk, gl, _, rfl, hD, by omega, fun r H1 e1 D1 r0 r1 => ?_⟩
  refine ⟨_, _, rfl, rfl, Nat.zero_le _, fun SL hSL => ⟨Nat.zero_le _, fun IL hIL => ⟨(by show 3 ≤ sizeLine; decide), fun T hT => ?_⟩⟩⟩
  have nS : ¬ avD dk gl SL := D1.new hSL
  have D1a := D1.same (same_new hSL (.lst []))
  have nI : ¬ avD dk gl IL := D1a.new hIL
  have ne : SL ≠ IL := ne_of_none upd_same hIL
  have sN : ∀ {p : Addr}, ¬ avD dk gl p → H1 p = none → H p = none := fun {p} n h => by
    cases z : H p with
    | none => rfl
    | some o =>
      rw [e1 _ _ n z] at h
      cases h
  have hS0 : H SL = none := sN nS hSL
  have hI1 : H1 IL = none := by
    have := hIL
    rw [upd_ne ne.symm] at this
    exact this
  have hI0 : H IL = none := sN nI hI1
  have W0 : WayAt dk gl SL IL H (upd (upd (upd H1 SL (.lst [])) IL (.lst [])) T (.tup [.int (1 + r), .ref SL, .ref IL])) [] [] [] := by
    have s3 := same_new hT (.tup [.int (1 + r), .ref SL, .ref IL])
    refine ⟨(ext_upd (ext_upd e1 hS0 _) hI0 _).trans (Ext.of_same s3), (D1a.put nI _).same s3, s3 _ _ ?_, s3 _ _ upd_same, .nil⟩
    rw [upd_ne ne]
    exact upd_same
  refine ⟨T, _, rfl, SqT.of upd_same, rfl, _, _, rfl, _, _, rfl, _, _, rfl, rfl, ?_⟩
  generalize upd (upd (upd H1 SL (.lst [])) IL (.lst [])) T (.tup [.int (1 + r), .ref SL, .ref IL]) = H2 at W0
  have hr12 : r < 12 := by omega
  refine ⟨WayW dk gl SL IL H rooms most r, ⟨2 * (1 + r).toNat, 1 + r, [], [], [], none, none, rfl, by omega, rfl, by simp, W0, .nil, Nat.zero_le _, fun x hx => absurd hx (by simp)⟩, ?_⟩
  rintro m σ H' ⟨c, rs, sv, sd, v6, v7, rfl, c0, rfl, hsum, W1, nc, wd, hrs⟩
  have lsv : sv.length ≤ 24 := by omega
  have lrs : rs.length ≤ 24 := by omega
  refine ⟨_, rfl, _, _, rfl, rfl, _, rfl, ?_⟩
  by_cases hc : 0 < c
  · refine iteY (decide_eq_true hc) ?_
    refine iteT (B := True) ?_
    have Wc := W1
    generalize H' = Hc at Wc
    have go : 0 < c ∨ rs ≠ [] := .inl hc
    walk_at "way body"
  · refine iteZ (fun z => hc (of_decide_eq_true z)) ?_
    refine ⟨_, rfl, Nat.zero_le _, fun p0 hp0 => ?_⟩
    have s4 := same_new hp0 (.lst [])
    refine ⟨.list (rs.map PyData.int), .list (([] : List Int).map PyData.int), .lst (SqL.of (s4 _ _ W1.il)) (dp_ints _), .lst (SqL.of upd_same) .nil, shaped_ints _, shaped_ints [], _, rfl, ?_⟩
    rw [eqv_ints]
    have Wc := W1.ext hD nS nI (Ext.of_same s4) (W1.de.same s4)
    generalize upd H' p0 (.lst []) = Hc at Wc
    by_cases hr0 : rs = []
    · have hc0 : c = 0 := by omega
      subst hr0
      refine iteZ (by simp) ?_
      refine ⟨_, rfl, SL, sv, rfl, .inl ⟨SqL.of Wc.st, fun p hp => ?_⟩⟩
      have s5 := same_new hp (.tup sv)
      have W5 := Wc.ext hD nS nI (Ext.of_same s5) (Wc.de.same s5)
      refine q _ (.tuple sd) _ W5.ex W5.de (.tup (fun z => Wc.new hp (.inl z)) upd_same (W5.rp.weak2 fun b z => .inl z)) (Nc.tup nc) ?_
      simp only [PyData.weight]
      omega
    · refine iteY (by simp [hr0]) ?_
      have go : 0 < c ∨ rs ≠ [] := .inr hr0
      walk_at "way body"
end
end Rw
end
section
namespace Rw
open PySem L2
def spLong : Sp := fun vs H Q _ => ∃ (dk gl : Addr) (rooms pairs : Int), vs = [.ref dk, .int rooms, .int pairs] ∧ DeckAt dk gl H ∧ 1 ≤ rooms ∧ rooms ≤ 900 ∧ 0 ≤ pairs ∧ pairs ≤ 13 ∧ GivesNew dk gl 2 5000 H Q
theorem free_of {dk gl : Addr} {H H1 : Hp} (e1 : Ext (avD dk gl) H H1) {p : Addr} (n : ¬ avD dk gl p) (h : H1 p = none) : H p = none := by
  cases z : H p with
  | none => rfl
  | some o =>
    rw [e1 _ _ n z] at h
    cases h
set_option hygiene false
local macro_rules | `(tactic| walk_at "long rest") => `(tactic| (
  refine ⟨(by show 0 ≤ sizeLine; decide), fun FL hFL => ?_⟩
  have nF : ¬ avD dk gl FL := Dx.new hFL
  have hF0 : H FL = none := free_of ex nF hFL
  have neF : FL ≠ Lx := fun e => by
    rw [e, hx] at hFL
    cases hFL
  have W0 : WayAt dk gl FL Lx H (upd Hx FL (.lst [])) xs [] [] := ⟨ex.trans (Ext.new hFL _), Dx.put nF _, upd_same, by rw [upd_ne neF.symm]; exact hx, .nil⟩
  generalize upd Hx FL (.lst []) = H5 at W0
  refine ⟨_, rfl, Lx, rfl, ⟨_, SqL.of W0.il⟩, for_list (K := K) (a := Lx) (xs := xs.map V.int) (fun i σ H' => ∃ (v6 v7 v8 : Option V) (sv : List V) (sd : List PyData), σ = [some (.ref dk), some (.int rooms), some (.int pairs), some (.ref Lx), some (.int ar), some (.ref FL), v6, v7, v8] ∧ WayAt dk gl FL Lx H H' xs sv sd ∧ NcAll 1 sd ∧ PyData.weightAll sd ≤ 143 * sv.length ∧ sv.length = 2 * i)
    ⟨_, _, _, [], [], rfl, W0, .nil, Nat.zero_le _, rfl⟩ ?_ ?_ ?_⟩
  · rintro i σ H' _ ⟨v6, v7, v8, sv, sd, rfl, W1, nc, wd, ls⟩
    exact SqL.of W1.il
  · rintro i x σ H' hi ⟨v6, v7, v8, sv, sd, rfl, W1, nc, wd, ls⟩
    obtain ⟨z, hz, rfl⟩ := mem_ints hi
    have hil : i < xs.length := (List.getElem?_eq_some_iff.mp hz).1
    have hzr := hrs z (List.mem_of_getElem? hz)
    obtain ⟨n1, n2⟩ := pair_ok z_in hzr
    obtain ⟨n3, n4⟩ := pair_ok z_out hzr
    refine ⟨_, rfl, .inl ⟨rfl, _, SqL.of W1.st⟩, _, rfl, (by show 2 ≤ sizeLine; decide), fun p1 hp1 => ?_⟩
    have s1 := same_new hp1 (.tup [.str "in", .int z])
    have W2 := W1.ext hD nF nL (Ext.of_same s1) (W1.de.same s1)
    have hc1 : upd H' p1 (.tup [.str "in", .int z]) p1 = some (.tup [.str "in", .int z]) := upd_same
    have n1' := W1.new hp1
    generalize upd H' p1 (.tup [.str "in", .int z]) = H2 at W2 hc1
    refine ⟨_, rfl, (by show 2 ≤ sizeLine; decide), fun p2 hp2 => ?_⟩
    have s2 := same_new hp2 (.tup [.str "out", .int z])
    have W3 := W2.ext hD nF nL (Ext.of_same s2) (W2.de.same s2)
    have hc1 := s2 _ _ hc1
    have neP : FL ≠ p2 := ne_of_none W2.st hp2
    have hc2 : upd H2 p2 (.tup [.str "out", .int z]) p2 = some (.tup [.str "out", .int z]) := upd_same
    have n2' := W2.new hp2
    generalize upd H2 p2 (.tup [.str "out", .int z]) = H3 at W3 hc1 hc2
    refine ⟨(by show 2 ≤ sizeLine; decide), fun p3 hp3 => ?_⟩
    have s3 := same_new hp3 (.lst [.ref p1, .ref p2])
    have W4 := W3.ext hD nF nL (Ext.of_same s3) (W3.de.same s3)
    have hc1 := s3 _ _ hc1
    have hc2 := s3 _ _ hc2
    have hc3 : upd H3 p3 (.lst [.ref p1, .ref p2]) p3 = some (.lst [.ref p1, .ref p2]) := upd_same
    generalize upd H3 p3 (.lst [.ref p1, .ref p2]) = H4 at W4 hc1 hc2 hc3
    refine ⟨FL, p3, sv, _, rfl, rfl, W4.st, hc3, (sz (by show sv.length + 2 ≤ _; omega)), ?_⟩
    have W5 := W4.putS hF0 neF nF (.tup n1' hc1 (.cons (.str _) (.cons (.int _) .nil)))
    have hc2' := hc2
    rw [← upd_ne (H := H4) (o := .lst (sv ++ [V.ref p1])) neP.symm] at hc2'
    have W6 := W5.putS hF0 neF nF (.tup n2' hc2' (.cons (.str _) (.cons (.int _) .nil)))
    rw [upd_upd, List.append_assoc, List.append_assoc] at W6
    refine ⟨_, _, _, _, _, rfl, W6, nc.app (.cons n1 (.cons n3 .nil)), ?_, ?_⟩
    · show PyData.weightAll (sd ++ [_, _]) ≤ 143 * (sv ++ [_, _]).length
      rw [wA_app, List.length_append]
      simp only [PyData.weightAll, List.length_cons, List.length_nil]
      omega
    · show (sv ++ [_, _]).length = _
      rw [List.length_append]
      simp only [List.length_cons, List.length_nil]
      omega
  rintro σ H6 ⟨v6, v7, v8, sv, sd, rfl, W6, nc, wd, ls⟩
  rw [List.length_map] at ls
  have finish : ∀ (S2 : Addr) (H7 : Hp) (tv : List V) (td : List PyData), Ext (avD dk gl) H H7 → DeckAt dk gl H7 → H7 S2 = some (.lst tv) → RpAll (dom H) H7 tv td → NcAll 1 td → PyData.weightAll td ≤ 143 * tv.length → tv.length ≤ 28 → ∀ p, H7 p = none → Q (.ref p) (upd H7 p (.tup tv)) := fun S2 H7 tv td e7 D7 h7 r7 n7 w7 l7 p hp => by
    have s5 := same_new hp (.tup tv)
    refine q _ (.tuple td) _ (e7.trans (Ext.of_same s5)) (D7.same s5) (.tup (fun z => not_dom hp (dom_ext e7 D7 z)) upd_same (r7.mono (Ext.of_same s5))) (Nc.tup n7) ?_
    simp only [PyData.weight]
    omega
  refine ⟨_, rfl, _, rfl, _, _, rfl, rfl, _, rfl, ?_⟩
  by_cases b1 : ar < rooms
  case neg =>
    refine iteZ (by simpa using b1) ?_
    refine iteF (A := True) ?_
    exact ⟨_, rfl, FL, sv, rfl, .inl ⟨SqL.of W6.st, finish FL _ sv sd W6.ex W6.de W6.st (W6.rp.weak2 fun b z => .inl z) nc wd (by omega)⟩⟩
  refine iteY (by simpa using b1) ?_
  refine ⟨_, rfl, _, _, rfl, rfl, _, rfl, ?_⟩
  by_cases b2 : 1 < rooms
  case neg =>
    refine iteZ (by simpa using b2) ?_
    exact ⟨_, rfl, FL, sv, rfl, .inl ⟨SqL.of W6.st, finish FL _ sv sd W6.ex W6.de W6.st (W6.rp.weak2 fun b z => .inl z) nc wd (by omega)⟩⟩
  refine iteY (by simpa using b2) ?_
  obtain ⟨n1, n2⟩ := pair_ok z_in (show rOk ar from ⟨a0, by omega⟩)
  obtain ⟨n3, n4⟩ := pair_ok z_out (show rOk ar from ⟨a0, by omega⟩)
  have e6 := W6.ex
  have D6 := W6.de
  have hf6 := W6.st
  have r6 : RpAll (dom H) H6 sv sd := W6.rp.weak2 fun b z => .inl z
  refine ⟨_, rfl, (by show 2 ≤ sizeLine; decide), fun p1 hp1 => ?_⟩
  have s1 := same_new hp1 (.tup [.str "in", .int ar])
  have q1 : Rp (dom H) (upd H6 p1 (.tup [.str "in", .int ar])) (.ref p1) (.tuple [.str "in", .int ar]) := .tup (fun z => not_dom hp1 (dom_ext e6 D6 z)) upd_same (.cons (.str _) (.cons (.int _) .nil))
  replace e6 := e6.trans (Ext.of_same s1)
  replace D6 := D6.same s1
  replace hf6 := s1 _ _ hf6
  replace r6 := r6.mono (Ext.of_same s1)
  generalize upd H6 p1 (.tup [.str "in", .int ar]) = H7 at e6 D6 hf6 r6 q1
  refine ⟨(by show 1 ≤ sizeLine; decide), fun l1 hl1 => ?_⟩
  replace s1 := same_new hl1 (.lst [.ref p1])
  have k1 : upd H7 l1 (.lst [.ref p1]) l1 = some (.lst [.ref p1]) := upd_same
  replace e6 := e6.trans (Ext.of_same s1)
  replace D6 := D6.same s1
  replace hf6 := s1 _ _ hf6
  replace r6 := r6.mono (Ext.of_same s1)
  replace q1 := q1.mono (Ext.of_same s1)
  generalize upd H7 l1 (.lst [.ref p1]) = H8 at e6 D6 hf6 r6 q1 k1
  refine ⟨_, rfl, l1, FL, _, sv, rfl, rfl, k1, hf6, (sz (by show 1 + sv.length ≤ _; omega)), fun l2 hl2 => ?_⟩
  replace s1 := same_new hl2 (.lst ([.ref p1] ++ sv))
  have k2 : upd H8 l2 (.lst ([.ref p1] ++ sv)) l2 = some (.lst ([.ref p1] ++ sv)) := upd_same
  replace e6 := e6.trans (Ext.of_same s1)
  replace D6 := D6.same s1
  replace r6 := r6.mono (Ext.of_same s1)
  replace q1 := q1.mono (Ext.of_same s1)
  generalize upd H8 l2 (.lst ([.ref p1] ++ sv)) = H9 at e6 D6 r6 q1 k2
  refine ⟨_, rfl, (by show 2 ≤ sizeLine; decide), fun p2 hp2 => ?_⟩
  replace s1 := same_new hp2 (.tup [.str "out", .int ar])
  have q2 : Rp (dom H) (upd H9 p2 (.tup [.str "out", .int ar])) (.ref p2) (.tuple [.str "out", .int ar]) := .tup (fun z => not_dom hp2 (dom_ext e6 D6 z)) upd_same (.cons (.str _) (.cons (.int _) .nil))
  replace e6 := e6.trans (Ext.of_same s1)
  replace D6 := D6.same s1
  replace k2 := s1 _ _ k2
  replace r6 := r6.mono (Ext.of_same s1)
  replace q1 := q1.mono (Ext.of_same s1)
  generalize upd H9 p2 (.tup [.str "out", .int ar]) = H10 at e6 D6 r6 q1 q2 k2
  refine ⟨(by show 1 ≤ sizeLine; decide), fun l3 hl3 => ?_⟩
  replace s1 := same_new hl3 (.lst [.ref p2])
  have k3 : upd H10 l3 (.lst [.ref p2]) l3 = some (.lst [.ref p2]) := upd_same
  replace e6 := e6.trans (Ext.of_same s1)
  replace D6 := D6.same s1
  replace k2 := s1 _ _ k2
  replace r6 := r6.mono (Ext.of_same s1)
  replace q1 := q1.mono (Ext.of_same s1)
  replace q2 := q2.mono (Ext.of_same s1)
  generalize upd H10 l3 (.lst [.ref p2]) = H11 at e6 D6 r6 q1 q2 k2 k3
  refine ⟨l2, l3, _, _, rfl, rfl, k2, k3, (sz (by show ([V.ref p1] ++ sv).length + 1 ≤ _; rw [List.length_append, List.length_singleton]; omega)), fun l4 hl4 => ?_⟩
  replace s1 := same_new hl4 (.lst ([.ref p1] ++ sv ++ [.ref p2]))
  have k4 : upd H11 l4 (.lst ([.ref p1] ++ sv ++ [.ref p2])) l4 = some (.lst ([.ref p1] ++ sv ++ [.ref p2])) := upd_same
  replace e6 := e6.trans (Ext.of_same s1)
  replace D6 := D6.same s1
  replace r6 := r6.mono (Ext.of_same s1)
  replace q1 := q1.mono (Ext.of_same s1)
  replace q2 := q2.mono (Ext.of_same s1)
  generalize upd H11 l4 (.lst ([.ref p1] ++ sv ++ [.ref p2])) = H12 at e6 D6 r6 q1 q2 k4
  refine ⟨_, rfl, l4, _, rfl, .inl ⟨SqL.of k4, finish l4 _ _ ([_] ++ sd ++ [_]) e6 D6 k4 (((RpAll.cons q1 .nil).app r6).snoc q2) (((NcAll.cons n1 .nil).app nc).app (.cons n3 .nil)) ?_ ?_⟩⟩
  · rw [wA_app, wA_app, List.length_append, List.length_append]
    simp only [PyData.weightAll, List.length_cons, List.length_nil]
    omega
  · rw [List.length_append, List.length_append]
    simp only [List.length_cons, List.length_nil]
    omega))
section
variable {P : Program} {w : World} {K : PySem.W.Frag} {mg : Str → Option Value} {base : Heap} {f : Addr} {fd : FuncData}
theorem scLong : FnScope ["deck", "rooms", "pairs", "inner", "around", "found", "room", "turn", "own"] ["deck", "rooms", "pairs"] (defScope sLong) := ⟨rfl, rfl, rfl, by decide +kernel, rfl, by decide +kernel, by decide +kernel⟩
theorem ok_long (F : Fun K "_law_long_way" "_law_long_way" sLong f fd) (B : Blt mg) (DD : Dfn P w K mg base "_law_draw" ["deck", "many"] 1 spDraw) : FnOk P w K mg base CX0 2 f fd ["deck", "rooms", "pairs"] spLong := by
  refine F.ok scLong (fun vs H Q E h => ?_) (fun cdv A outer s H vs Q E hr h => ?_)
  · obtain ⟨_, _, _, _, rfl, _⟩ := h
    rfl
  obtain ⟨dk, gl, rooms, pairs, rfl, hD, m0, m1, m2, m3, q⟩ := h
  have nd := scLong.nd
  have hu64 : (A.deeper (PyProof.Rows.envOfC "_law_long_way" (defScope sLong) s.heap.objs.size f cdv)).units + 64 < cLine := by
    have := hr.un
    omega
  refine ⟨_, pss_cons (ps_setLc (i := 3) (own := [("turn", 7)]) (g := gName 7) (tt := tYes) (by rfl) nd rfl rfl (sw_true rfl rfl rfl (by decide +kernel)) (pi_range1 (by rfl) B.rng (pa_cons (pv 2) pa_nil))
        (blkOk_by (N := ["deck", "rooms", "pairs", "inner", "around", "found", "room", "turn", "own"]) (sc := defScope sLong) (by decide +kernel)) (fun _ _ _ _ _ => pg_name (i := 7) nd rfl (Or.inl rfl)) (fun _ _ _ _ _ => pts_nil) (fun _ _ _ _ _ => pe_own DD hr (pa_cons (pv 0) (pa_cons (pv 1) pa_nil))))
    (pss_cons (ps_set (i := 4) nd rfl (Or.inr rfl) (pe_own DD hr (pa_cons (pv 0) (pa_cons (pe_op op_add (pv 1) pe_int) pa_nil))))
    (pss_cons (ps_if (PW.pt (pw_and (pt_cmpR op_lt (pv 4) (pv 1) (nomark _)) (pw_and1 (pt_cmpR op_gt (pv 1) pe_int (nomark _)))))
      (pss_one (ps_setLc (i := 3) (own := [("own", 8)]) (g := gName 8) (tt := tYes) (by rfl) nd rfl rfl (sw_true rfl rfl rfl (by decide +kernel)) (pi_list (pe_slice sl_list (pv 3) (po_some pe_int) po_none))
        (blkOk_by (N := ["deck", "rooms", "pairs", "inner", "around", "found", "room", "turn", "own"]) (sc := defScope sLong) (by decide +kernel)) (fun _ _ _ _ _ => pg_name (i := 8) nd rfl (Or.inl rfl)) (fun _ _ _ _ _ => pts_nil) (fun _ _ _ _ _ =>
          pe_ifExp (pt_cmpR op_ne (pv 8) (pv 4) (nomark _)) (pv 8) (pe_op op_mod (pe_callTy call_int1 (by rfl) B.int (by decide +kernel) (pa_cons (pe_op op_add (pv 8) pe_int) pa_nil)) (pv 1))))) pss_nil)
    (pss_cons (ps_set (i := 5) nd rfl (Or.inl rfl) (pe_lst pa_nil))
    (pss_cons (ps_for PassesOwn.never rfl (pi_list (pv 3)) (pg_name (i := 6) nd rfl (Or.inl rfl))
      (pss_one (ps_expr (pe_bm PySem.F.plainAttrs_list PySem.F.slot_list_extend PySem.F.type_list_extend mt_extend (pv 5) (pa_cons (pe_lst (pa_cons (pe_tup (pa_cons pe_str (pa_cons (pv 6) pa_nil))) (pa_cons (pe_tup (pa_cons pe_str (pa_cons (pv 6) pa_nil))) pa_nil))) pa_nil)))))
    (pss_cons (ps_if (PW.pt (pw_and (pt_cmpR op_lt (pv 4) (pv 1) (nomark _)) (pw_and1 (pt_cmpR op_gt (pv 1) pe_int (nomark _)))))
      (pss_one (ps_set (i := 5) nd rfl (Or.inl rfl) (pe_op op_cat (pe_op op_cat (pe_lst (pa_cons (pe_tup (pa_cons pe_str (pa_cons (pv 4) pa_nil))) pa_nil)) (pv 5)) (pe_lst (pa_cons (pe_tup (pa_cons pe_str (pa_cons (pv 4) pa_nil))) pa_nil))))) pss_nil)
    (pss_one (ps_ret (pe_callTy call_tuple_of (by rfl) B.tup (by decide +kernel) (pa_cons (pv 5) pa_nil))))))))), ?_⟩
  refine ⟨_, rfl, _, rfl, by omega, by omega, fun L hL => ?_⟩
  have nL : ¬ avD dk gl L := hD.new hL
  refine lc_range (lo := 0) (n := pairs.toNat) (fun i H' => Ext (avD dk gl) H H' ∧ DeckAt dk gl H' ∧ ∃ rs : List Int, H' L = some (.lst (rs.map V.int)) ∧ (∀ x ∈ rs, rOk x) ∧ rs.length = i) ?_ ?_ ?_
  · exact ⟨Ext.new hL _, hD.same (same_new hL _), [], upd_same, fun x hx => absurd hx (by simp), rfl⟩
  · rintro i H1 hi ⟨e1, D1, rs, hx, hrs, lr⟩
    refine ⟨rfl, ?_⟩
    refine iteT (B := True) ?_
    refine ⟨_, rfl, _, rfl, dk, gl, rooms, rfl, D1, by omega, fun z H2 e2 D2 z0 z1 => ?_⟩
    have hx2 := e2 _ _ nL hx
    refine ⟨_, hx2, szlt (by rw [List.length_map]; omega), ext_upd (e1.trans e2) hL _, D2.put nL _, rs ++ [z], ?_, ?_, ?_⟩
    · rw [upd_same, List.map_append]
      rfl
    · intro x hx
      rcases List.mem_append.mp hx with y | y
      · exact hrs x y
      · rw [List.mem_singleton.mp y]
        exact ⟨z0, by omega⟩
    · rw [List.length_append, List.length_singleton]
      omega
  rintro H1 ⟨e1, D1, rs, hx, hrs, lr⟩
  refine ⟨_, rfl, _, rfl, _, _, rfl, rfl, dk, gl, _, rfl, D1, by omega, fun ar H2 e2 D2 a0 a1 => ?_⟩
  have hx2 := e2 _ _ nL hx
  have e12 := e1.trans e2
  have lrs : rs.length ≤ 13 := by omega
  clear hx e1 e2 D1
  refine ⟨_, rfl, _, rfl, _, _, rfl, rfl, _, rfl, ?_⟩
  by_cases c1 : ar < rooms
  case neg =>
    refine iteZ (by simpa using c1) ?_
    refine iteF (A := True) ?_
    have ex := e12
    have Dx := D2
    have hx := hx2
    have go : True := True.intro
    generalize H2 = Hx at ex Dx hx
    generalize L = Lx at nL hx
    generalize rs = xs at hx hrs lrs
    walk_at "long rest"
  refine iteY (by simpa using c1) ?_
  refine ⟨_, rfl, _, _, rfl, rfl, _, rfl, ?_⟩
  by_cases c2 : 1 < rooms
  case neg =>
    refine iteZ (by simpa using c2) ?_
    have ex := e12
    have Dx := D2
    have hx := hx2
    generalize H2 = Hx at ex Dx hx
    generalize L = Lx at nL hx
    generalize rs = xs at hx hrs lrs
    walk_at "long rest"
  refine iteY (by simpa using c2) ?_
  obtain ⟨ms, ecut, lcut, hms⟩ : ∃ ms : List Int, cutV (rs.map V.int) (some 1) none = ms.map V.int ∧ ms.length ≤ rs.length ∧ ∀ x ∈ ms, rOk x := by
    refine ⟨_, cut_ints rs (some 1) none, ?_, fun x hx => hrs x (List.mem_of_mem_drop (List.mem_of_mem_take hx))⟩
    rw [List.length_take, List.length_drop]
    omega
  refine ⟨_, rfl, 1, rfl, L, _, rfl, SqL.of hx2, fun p hp => ⟨p, rfl, ⟨_, SqL.of upd_same⟩, fun D hDD => ?_⟩⟩
  rw [ecut] at hDD ⊢
  have s1 := same_new hp (.lst (ms.map V.int))
  have D3 := D2.same s1
  have nD : ¬ avD dk gl D := D3.new hDD
  have e13 := e12.trans (Ext.of_same s1)
  refine lc_list (K := K) (a := p) (xs := ms.map V.int) (fun i H' => Same (upd H2 p (.lst (ms.map V.int))) H' ∧ ∃ cs : List Int, H' D = some (.lst (cs.map V.int)) ∧ cs.length ≤ i ∧ ∀ x ∈ cs, rOk x) ?_ ?_ ?_ ?_
  · exact ⟨same_new hDD _, [], upd_same, Nat.le_refl _, fun x hx => absurd hx (by simp)⟩
  · rintro i H' _ ⟨e, _⟩
    exact SqL.of (e _ _ upd_same)
  · rintro i x H' hi ⟨e, cs, hcs, lcs, hcr⟩
    obtain ⟨n, hn, rfl⟩ := mem_ints hi
    have hi2 : i < ms.length := (List.getElem?_eq_some_iff.mp hn).1
    obtain ⟨n0, n1⟩ := hms n (List.mem_of_getElem? hn)
    refine ⟨rfl, ?_⟩
    refine iteT (B := True) ?_
    refine ⟨_, rfl, _, rfl, rfl, _, rfl, ?_⟩
    have fin : ∀ z : Int, rOk z → ∀ y : Int, y ∈ cs ++ [z] → rOk y := fun z hz y hy => by
      rcases List.mem_append.mp hy with w | w
      · exact hcr y w
      · rw [List.mem_singleton.mp w]
        exact hz
    refine ite2 (fun _ => ?_) (fun _ => ?_)
    · refine ⟨_, rfl, _, hcs, szlt (by rw [List.length_map]; omega), same_upd e hDD _, cs ++ [n], by rw [upd_same, List.map_append]; rfl, by rw [List.length_append, List.length_singleton]; omega, fin _ ⟨n0, n1⟩⟩
    · refine ⟨_, rfl, _, _, rfl, rfl, .inl ⟨_, rfl, _, rfl, _, _, rfl, rfl, by omega, _, hcs, szlt (by rw [List.length_map]; omega), same_upd e hDD _, cs ++ [(n + 1) % rooms], by rw [upd_same, List.map_append]; rfl, by rw [List.length_append, List.length_singleton]; omega, fin _ ⟨Int.emod_nonneg _ (by omega), ?_⟩⟩⟩
      have := Int.emod_lt_of_pos (n + 1) (show 0 < rooms by omega)
      omega
  rintro H3 ⟨e3, cs, hcs, lcs, hcr⟩
  rw [List.length_map] at lcs
  have ex : Ext (avD dk gl) H H3 := e13.trans (Ext.of_same e3)
  have Dx := D3.same e3
  have hx := hcs
  have lxs : cs.length ≤ 13 := by omega
  clear nL lrs hrs
  have nL := nD
  have hrs := hcr
  have lrs := lxs
  generalize H3 = Hx at ex Dx hx
  generalize D = Lx at nL hx
  generalize cs = xs at hx hrs lrs
  walk_at "long rest"
end
end Rw
end
namespace Rw
open PySem L2
abbrev sValue : Stmt := top 22
def spValue : Sp := fun vs H Q _ => ∃ (dk gl : Addr) (many : Int), vs = [.ref dk, .int many] ∧ DeckAt dk gl H ∧ 1 ≤ many ∧ many ≤ 900 ∧ GivesAny dk gl 6 70000 H Q
theorem wAny3 : wAny 3 = 2059 := rfl
section
variable {P : Program} {w : World} {K : PySem.W.Frag} {mg : Str → Option Value} {base : Heap} {f : Addr} {fd : FuncData}
theorem scValue : FnScope ["deck", "many", "sort", "way", "value"] ["deck", "many"] (defScope sValue) := ⟨rfl, rfl, rfl, by decide +kernel, rfl, by decide +kernel, by decide +kernel⟩
def mostAll : List Int := [2, 4, 8, 24]
theorem most_ok : ∀ z ∈ mostAll, 2 ≤ z ∧ z ≤ 24 := by decide +kernel
theorem ok_value (F : Fun K "_law_value" "_law_value" sValue f fd) (B : Blt mg) (DD : Dfn P w K mg base "_law_draw" ["deck", "many"] 1 spDraw) (DP : Dfn P w K mg base "_law_pick" ["deck", "items"] 2 spPick)
    (DA : Dfn P w K mg base "_law_any" ["deck", "deep"] 6 (spAny 4)) (DL : Dfn P w K mg base "_law_long_way" ["deck", "rooms", "pairs"] 2 spLong) (DW : Dfn P w K mg base "_law_way" ["deck", "rooms", "most"] 3 spWay)
    (DB : Dfn P w K mg base "_law_bent" ["deck", "value", "deep"] 9 (spBent 3)) : FnOk P w K mg base CX0 10 f fd ["deck", "many"] spValue := by
  refine F.ok scValue (fun vs H Q E h => ?_) (fun cdv A outer s H vs Q E hr h => ?_)
  · obtain ⟨_, _, _, rfl, _⟩ := h
    rfl
  obtain ⟨dk, gl, many, rfl, hD, m0, m1, q⟩ := h
  have nd := scValue.nd
  have hr1 : Room 1 (A.deeper (PyProof.Rows.envOfC "_law_value" (defScope sValue) s.heap.objs.size f cdv)) := hr.mono (by omega)
  have hr2 : Room 2 (A.deeper (PyProof.Rows.envOfC "_law_value" (defScope sValue) s.heap.objs.size f cdv)) := hr.mono (by omega)
  have hr3 : Room 3 (A.deeper (PyProof.Rows.envOfC "_law_value" (defScope sValue) s.heap.objs.size f cdv)) := hr.mono (by omega)
  have hr6 : Room 6 (A.deeper (PyProof.Rows.envOfC "_law_value" (defScope sValue) s.heap.objs.size f cdv)) := hr.mono (by omega)
  refine ⟨_, pss_cons (ps_set (i := 2) nd rfl (Or.inl rfl) (pe_own DD hr1 (pa_cons (pv 0) (pa_cons pe_int pa_nil))))
    (pss_cons (ps_if (pt_cmpR op_eq (pv 2) pe_int (nomark _)) (pss_one (ps_ret (pe_own DA hr6 (pa_cons (pv 0) (pa_cons pe_int pa_nil))))) pss_nil)
    (pss_cons (ps_if (pt_cmpR op_lt (pv 2) pe_int (nomark _)) (pss_one (ps_ret (pe_own DL hr2 (pa_cons (pv 0) (pa_cons (pv 1) (pa_cons (pe_op op_add pe_int (pe_own DD hr1 (pa_cons (pv 0) (pa_cons pe_int pa_nil)))) pa_nil)))))) pss_nil)
    (pss_cons (ps_set (i := 3) nd rfl (Or.inl rfl) (pe_own DW hr3 (pa_cons (pv 0) (pa_cons (pv 1) (pa_cons (pe_own DP hr2 (pa_cons (pv 0) (pa_cons (pe_lst (pa_cons pe_int (pa_cons pe_int (pa_cons pe_int (pa_cons pe_int pa_nil))))) pa_nil))) pa_nil)))))
    (pss_cons (ps_if (pt_cmpR op_lt (pv 2) pe_int (nomark _)) (pss_one (ps_ret (pv 3))) pss_nil)
    (pss_cons (ps_set (i := 4) nd rfl (Or.inl rfl) (pe_own DB hr (pa_cons (pv 0) (pa_cons (pv 3) (pa_cons pe_int pa_nil)))))
    (pss_one (ps_ret (pe_ifExp (pt_cmpR op_eq (pv 2) pe_int (nomark _)) (pe_own DB hr (pa_cons (pv 0) (pa_cons (pv 4) (pa_cons pe_int pa_nil)))) (pv 4))))))))), ?_⟩
  refine ⟨_, rfl, dk, gl, _, rfl, hD, by decide, fun sort H1 e1 D1 s0 s1 => ?_⟩
  replace q := q.ext e1
  refine ⟨_, rfl, rfl, _, rfl, ?_⟩
  refine ite2 (fun _ => ?_) (fun _ => ?_)
  · refine ⟨_, rfl, dk, gl, 3, rfl, D1, by decide, by decide, fun v d H2 e2 D2 rv nv wv => ?_⟩
    refine q v d H2 e2 D2 (rv.weak fun b h => dom_deck D1 h) nv (Nat.le_trans wv ?_)
    show wAny 3 ≤ 70000
    rw [wAny3]
    decide
  refine ⟨_, rfl, _, _, rfl, rfl, _, rfl, ?_⟩
  refine ite2 (fun _ => ?_) (fun _ => ?_)
  · refine ⟨_, rfl, _, rfl, _, rfl, dk, gl, _, rfl, D1, by decide, fun r H2 e2 D2 r0 r1 => ?_⟩
    refine ⟨_, _, rfl, rfl, dk, gl, many, _, rfl, D2, m0, m1, by omega, by omega, fun v d H3 e3 D3 rv nv wv => ?_⟩
    exact q v d H3 (e2.trans e3) D3 (rv.weak fun b h => dom_deck D2 h) (nv.up (by decide)) (by omega)
  refine ⟨_, rfl, _, rfl, _, rfl, (by show 4 ≤ sizeLine; decide), fun l hl => ?_⟩
  have s2 := same_new hl (.lst (mostAll.map V.int))
  refine ⟨dk, gl, l, mostAll.map V.int, rfl, D1.same s2, upd_same, D1.new hl, by decide, by decide, fun v H2 hv e2 D2 => ?_⟩
  obtain ⟨most, hm, rfl⟩ := mem_intsV hv
  obtain ⟨p0, p1⟩ := most_ok most hm
  refine ⟨dk, gl, many, most, rfl, D2, m0, m1, p0, p1, fun way d H3 e3 D3 rv nv wv => ?_⟩
  have e13 := ((Ext.of_same s2).trans e2).trans e3
  have rw' : Rp (avD dk gl) H3 way d := rv.weak fun b h => dom_deck D2 h
  replace q := q.ext e13
  refine ⟨_, rfl, _, _, rfl, rfl, _, rfl, ?_⟩
  refine ite2 (fun _ => ?_) (fun _ => ?_)
  · exact ⟨_, rfl, q way d H3 Ext.refl D3 rw' (nv.up (by decide)) (by omega)⟩
  refine ⟨_, rfl, _, rfl, dk, gl, way, d, 2, 6, 4000, rfl, D3, rw', nv.up (by decide), by decide, wv, by decide, by decide, by decide, fun v2 d2 H4 e4 D4 r4 n4 w4 => ?_⟩
  replace q := q.ext e4
  have w4' : d2.weight ≤ 16702 := w4
  refine ⟨_, rfl, rfl, _, rfl, ?_⟩
  refine ite2 (fun _ => ?_) (fun _ => ?_)
  · refine ⟨_, rfl, _, rfl, dk, gl, v2, d2, 2, 6, 16702, rfl, D4, r4, n4, by decide, w4', by decide, by decide, by decide, fun v3 d3 H5 e5 D5 r5 n5 w5 => ?_⟩
    have w5' : d3.weight ≤ 67510 := w5
    exact q v3 d3 H5 e5 D5 r5 n5 (by omega)
  · exact ⟨_, rfl, q v2 d2 H4 Ext.refl D4 r4 n4 (by omega)⟩
end
end Rw
namespace Rw
open PySem L2 PySem.Spec PyProof.Rows
section
variable {P : Program} {w : World} {K : PySem.W.Frag} {mg : Str → Option Value} {base : Heap}
/-- a def called from one place A only (what guards A bears is known there) -/
theorem at_caller {x : Str} {st : Stmt} {f : Addr} {fd : FuncData} {N ps : List Str} {Ao : Around} {fr : List Env} {s0 : Shared} {Hq : Hp} {gs : Args} {us : List Value} {vs : List V} {Q : VK}
    (F : Fun K x x st f fd) (S : FnScope N ps (defScope st)) (room : Room 1 Ao) (en : Env0 P w K mg base Ao fr s0 Hq) (bt : BindsTo s0 fd gs (ps.zip us)) (rv : Vals vs us) (hl : vs.length = ps.length)
    (go : ∀ cd : Value, ∃ t, PSs (cxOf CX0 P w K mg base N x (defScope st) f cd Ao fr s0 Hq E0).nox (defBody st) t ∧ t { nx := fun _ H2 => Q V.non H2, rt := Q } (L2.start N vs) Hq) :
    codeAny (model P w) Ao (.call (.ref f) gs) (CR CX0 fr P w Hq s0 Q E0) s0 := by
  obtain ⟨c1, c2, c3, c4, c5, c6, c7, c8, c9, rfl, look, code⟩ := F.ex
  have kin : K.In s0.heap := en.mod.kin.keeps fun z o e => (en.bs z o e).1
  refine codeAny_call_function room.depth (kin _ _ look) rfl S.co S.gen rfl (PySem.W.codeRec_of kin code) (bt _ _ _ _ ?_)
  refine wpAny_newFunctionEnv_cells S.kind (fun y m => ?_) fun en1 same s1 there => ?_
  · have m1 := (List.of_mem_zip (show (y.1, y.2) ∈ ps.zip us from m)).1
    exact (S.par y.1 m1).elim .inl fun z => .inr ⟨z, PySem.W.cellsFrom_some _ _ _ (.inl z)⟩
  subst same
  refine ⟨(en.mod.nolimit.keeps fun z o e => (en.bs z o e).1).keeps there.toInCall.keep, codeAny_func ?_⟩
  obtain ⟨t, run, q⟩ := go c7
  have inv := inv_start (CX := CX0) (E := E0) S room.hd en hl rv there
  refine wpAny_mono (run.nox.run [] s1 (L2.start N vs) Hq _ inv q) (fun fl s2 h => ?_) fun _ _ h => h
  cases fl with
  | ret u =>
    obtain ⟨v, σ2, H2, J, r2, q2⟩ := h
    exact ⟨v, H2, J.os, J.bare, J.base, J.hok, r2, q2⟩
  | next =>
    obtain ⟨σ2, H2, J, q2⟩ := h
    exact ⟨V.non, H2, J.os, J.bare, J.base, J.hok, rfl, q2⟩
  | brk => exact absurd h fun ⟨_, _, _, z⟩ => z
  | cont => exact absurd h fun ⟨_, _, _, z⟩ => z
end
end Rw
namespace Rw
open PySem L2 PySem.Spec PyProof.Rows
/-- what the law's own call must do, in whatever heap it starts -/
def Runs (P : Program) (w : World) (K : PySem.W.Frag) (mg : Str → Option Value) (fa a : Addr) (ns : List Int) : Prop :=
  ∀ (base : Heap) (H : Hp) (s0 : Shared), Env0 P w K mg base callerA [] s0 H → SqL K H a (ns.map V.int) → codeAny (model P w) callerA (.call (.ref fa) ⟨[.ref a], []⟩) (CR CX0 [] P w H s0 (fun v _ => v = V.bl true) E0) s0
section
variable {P : Program} {w : World} {K : PySem.W.Frag} {mg mb : Str → Option Value} {fa a : Addr} {s1 : Shared} {us : List Value} {ns : List Int}
/-- from a heap H that tracks at most the script -/
theorem from_heap (KX : K.In s1.heap) (gN : s1.heap.Ns mainGlobals mg) (bN : s1.heap.Ns builtinsNs mb) (bB : ∀ y : Str, y ≠ "__name__" → mb y = bootBuiltins y) (nl : s1.heap.NoLimit) (ng : s1.gens = #[])
    (scr : s1.heap.get? a = some { cls := .type "list", data := .seq us.toArray }) (F : Runs P w K mg fa a ns) {H : Hp} (only : ∀ b, H b = none ∨ (b = a ∧ K.lookup a = none ∧ ∃ o xs, H b = some (.frz o (.lst xs)))) (hS : SqL K H a (ns.map V.int)) (ok : HOk P w H s1.heap) :
    codeAny (model P w) callerA (.call (.ref fa) ⟨[.ref a], []⟩) (fun r s2 => r = .ok (.ret (.bool true)) ∧ OldK s1.heap s2.heap ∧ s2.os = s1.os ∧ AllBare s2.gens) s1 := by
  have notDict : ∀ {b : Addr} {o : Obj} {es : Array DictEntry} {n : Nat}, s1.heap.get? b = some o → o.data = .dict es n → H b = none := fun {b o es n} e d => (only b).elim id fun z => by
    rw [z.1, scr] at e
    rw [← Option.some.inj e] at d
    cases (show Data.seq us.toArray _ = Data.dict es n from d)
  have ns_hid : ∀ {b : Addr} {m : Str → Option Value}, s1.heap.Ns b m → (hidT s1.heap H).Ns b m := fun {b m} h => by
    obtain ⟨o, es, n, e, d, r⟩ := h
    exact ⟨o, es, n, hidT_get e (notDict e d), d, r⟩
  have k_hid : K.In (hidT s1.heap H) := fun b o e => hidT_get (KX b o e) ((only b).elim id fun z => by
    rw [z.1, z.2.1] at e
    cases e)
  obtain ⟨mc, n1, n2⟩ := nl
  have M : Mod K mg (hidT s1.heap H) := ⟨k_hid, ns_hid gN, ⟨mb, ns_hid bN, bB⟩, ⟨mc, ns_hid n1, n2⟩⟩
  have en : Env0 P w K mg (hidT s1.heap H) callerA [] s1 H := { frames := rfl, mod := M, bs := fun b o e => of_hidT e, bsz := Nat.le_of_eq (hidT_size _ _), funs := trivial, frf := fun b hb => absurd (show b ∈ ([] : List Addr) from hb) List.not_mem_nil, hok := ok, bare := .of_eq ng }
  refine codeAny_mono (F _ H s1 en hS) fun r s2 h => ?_
  cases r with
  | error e => exact (show False from h).elim
  | ok fl =>
    cases fl with
    | next => exact (show False from h).elim
    | brk => exact (show False from h).elim
    | cont => exact (show False from h).elim
    | ret u =>
      obtain ⟨v, H2, os, bare, un, ok2, rv, q⟩ := h
      rw [show v = V.bl true from q] at rv
      have eu : u = Value.bool true := rv
      refine ⟨by rw [eu], OldK.of_keep fun b o e => ?_, os, bare⟩
      rcases only b with z | ⟨_, _, ob, xs, z⟩
      · exact un.keep b o e z (fun y => absurd (show b ∈ ([] : List Addr) from y) List.not_mem_nil) List.not_mem_nil
      · have z2 := un.frzs b ob _ z
        have y1 := (ok b _ z).1
        have y2 := (ok2 b _ z2).1
        rw [e] at y1
        rw [← Option.some.inj y1] at y2
        exact y2
theorem law_runs (KX : K.In s1.heap) (gN : s1.heap.Ns mainGlobals mg) (bN : s1.heap.Ns builtinsNs mb) (bB : ∀ y : Str, y ≠ "__name__" → mb y = bootBuiltins y) (nl : s1.heap.NoLimit) (ng : s1.gens = #[])
    (scr : s1.heap.get? a = some { cls := .type "list", data := .seq us.toArray }) (isInts : IntsAre us ns) (hl : ns.length ≤ sizeLine) (F : Runs P w K mg fa a ns) :
    codeAny (model P w) callerA (.call (.ref fa) ⟨[.ref a], []⟩) (fun r s2 => r = .ok (.ret (.bool true)) ∧ OldK s1.heap s2.heap ∧ s2.os = s1.os ∧ AllBare s2.gens) s1 := by
  have rel := vals_ints isInts
  have len := isInts.length
  cases e : K.lookup a with
  | some o =>
    have e2 := KX a o e
    rw [scr] at e2
    have e3 := Option.some.inj e2
    refine from_heap KX gN bN bB nl ng scr F (H := fun _ => none) (fun _ => .inl rfl) (.inr ⟨o, us.toArray, 0, e, ?_, ?_, ?_, ?_, by simpa using rel⟩) fun b u z => nomatch (show (none : Option HO) = some u from z)
    · rw [← e3]
    · rw [← e3]
    · rw [← e3]
    · rw [List.size_toArray, len]
      exact hl
  | none =>
    have here : ∀ {b : Addr} {u : HO}, (if b = a then some (HO.frz { cls := .type "list", data := .seq us.toArray } (.lst (ns.map V.int))) else none) = some u → b = a ∧ u = HO.frz { cls := .type "list", data := .seq us.toArray } (.lst (ns.map V.int)) := fun {b u} z => by
      by_cases c : b = a
      · rw [if_pos c] at z
        exact ⟨c, (Option.some.inj z).symm⟩
      · rw [if_neg c] at z
        cases z
    refine from_heap KX gN bN bB nl ng scr F (H := fun b => if b = a then some (.frz { cls := .type "list", data := .seq us.toArray } (.lst (ns.map V.int))) else none) (fun b => ?_) (.inl (.inr ⟨_, if_pos rfl⟩)) fun b u z => ?_
    · by_cases c : b = a
      · exact .inr ⟨c, e, _, _, if_pos c⟩
      · exact .inl (if_neg c)
    · obtain ⟨rfl, rfl⟩ := here z
      exact ⟨scr, by rw [List.length_map]; exact hl, us, _, rel, scr⟩
end
/-- what k_head leaves -/
theorem walks {l : PySem.W.OpenLaw} {n : Nat} {q : Program} {loose : List Str} {XP : (Str → Option Value) → Heap → Prop} {YP : World → Heap → Prop} {d : DefRec} {K : Params → PySem.W.Frag}
    (hn : l.most = some n) (small : n ≤ sizeLine) (hdf : d.params.defaults = []) (hY : ∀ (w : World) (h : Heap), YP w h → (K w.params).In h)
    (F : ∀ (w : World) (mg : Str → Option Value) (fa : Addr) (h : Heap), (K w.params).In h → h.Ns mainGlobals mg → mg d.name = some (.ref fa) → ∀ (a : Addr) (ns : List Int), ns.length ≤ n → Runs l.prog w (K w.params) mg fa a ns) :
    PySem.W.WalkO q loose XP YP l.row.toRowW d [] (fun g vs => PySem.call g vs) := by
  refine Att.attach_call hn hdf fun w s₀ s1 mg mb fa o pm cd doc a us ns G Y look dat code glob scr isInts len gens => ?_
  have kin := hY w _ Y
  exact law_runs kin G.T.g G.T.b G.T.builtins G.T.nolimit gens scr isInts (Nat.le_trans len small) (F w mg fa _ kin G.T.g glob a ns len)
end Rw
section
namespace Rw
open PySem L2 PyProof.Rows
abbrev sLaw : Stmt := top 23
theorem small_pair (z : Str) (i : Int) : plainT (.tuple [.str z, .int i]) = true ∧ (PyData.tuple [.str z, .int i]).depth < 2 := ⟨rfl, by
  simp only [PyData.depth, PyData.depthAll]
  decide⟩
theorem nest_small : ∀ (ds : List PyData) (i : Nat) (rs : List Int), plainT (nestE i rs ds) = true ∧ (nestE i rs ds).depth < 2
  | [], i, rs => by
    rw [nestE_nil]
    split
    · exact ⟨rfl, by simp only [PyData.depth]; decide⟩
    · exact ⟨rfl, by simp only [PyData.depth]; decide⟩
  | d :: ds, i, rs => by
    rw [nestE_cons]
    split
    · split
      · exact small_pair _ _
      · exact nest_small ds _ _
    · split
      · exact nest_small ds _ _
      · exact small_pair _ _
theorem way_small (m : Int) (d : PyData) : plainT (wayE m d) = true ∧ (wayE m d).depth < 2 := by
  have st : ∀ z : Str, plainT (.str z) = true ∧ (PyData.str z).depth < 2 := fun z => ⟨rfl, by simp only [PyData.depth]; decide⟩
  cases d with
  | tuple ds =>
    show plainT (if 2 ≤ ds.length ∧ ds.length ≤ 24 then _ else _) = true ∧ (if 2 ≤ ds.length ∧ ds.length ≤ 24 then _ else _ : PyData).depth < 2
    split
    · split
      · exact small_pair _ _
      · exact nest_small _ _ _
    · exact st _
  | _ => exact st _
def gK {α : Type} : List α → List α → List α
  | [], [a, b] => [b, a]
  | _, _ => []
structure KDfn (P : Program) (w : World) (K : PySem.W.Frag) (mg : Str → Option Value) (base : Heap) : Prop where
  ex : ∃ (f : Addr) (fd : FuncData), FnOk P w K mg base CX0 4 f fd ["many", "value"] spWayError ∧ mg "way_error" = some (.ref f) ∧ PySem.W.keepIn K (.ref f) = true ∧ KBinds K fd ["many", "value"] ["value", "many"] gK gK
set_option hygiene false
local macro_rules | `(tactic| walk_at "law rest") => `(tactic| (
  refine ⟨_, rfl, _, rfl, _, v, d, _, rfl, rx, fun due H7 s7 rdue => ?_⟩
  have r7 := rx.mono (Ext.of_same s7)
  have D7 := Dx.same s7
  refine ⟨_, rfl, _, v, d, rfl, r7, nv.sw, nv.fits (by omega), Nat.le_trans nv.dp (by decide), _, _, rfl, ?_⟩
  refine ⟨_, rfl, _, _, rfl, rfl, (by show (0 : Int) < 4; decide), rfl, _, rfl, ?_⟩
  refine ite2 (fun _ => ?_) (fun _ => ?_)
  all_goals refine ⟨_, rfl, _, rfl, _, v, d, _, rfl, r7, fun told H8 s8 rtold => ?_⟩
  all_goals (
    have r8 := r7.mono (Ext.of_same s8)
    have due8 := rdue.mono (Ext.of_same s8)
    have D8 := D7.same s8
    refine ⟨_, rfl, _, rfl, _, _, told, due, _, rfl, rtold, due8, (way_small _ d).1, (way_small _ d).2, fun H9 s9 => ⟨_, rfl, ?_⟩⟩
    have r9 := r8.mono (Ext.of_same s9)
    have due9 := due8.mono (Ext.of_same s9)
    have D9 := D8.same s9
    refine iteF (A := True) ?_
    refine ⟨_, rfl, _, rfl, _, v, d, _, rfl, r9, fun told2 H10 s10 rtold2 => ?_⟩
    have r10 := r9.mono (Ext.of_same s10)
    have due10 := due9.mono (Ext.of_same s10)
    have D10 := D9.same s10
    refine ⟨_, rfl, _, _, told2, due, _, rfl, rtold2, due10, (way_small _ d).1, (way_small _ d).2, fun H11 s11 => ⟨_, rfl, ?_⟩⟩
    have r11 := r10.mono (Ext.of_same s11)
    have D11 := D10.same s11
    refine iteF (A := True) ?_
    refine ⟨_, rfl, _, v, d, rfl, r11, nv.sw, nv.fits (by omega), Nat.le_trans nv.dp (by decide), _, rfl, rfl, _, rfl, ?_⟩
    refine iteZ (by simp) ?_
    exact ⟨⟨_, _, _, _, _, _, rfl⟩, D11⟩)))
section
variable {P : Program} {w : World} {K : PySem.W.Frag} {mg : Str → Option Value} {base : Heap} {f : Addr} {fd : FuncData}
theorem kb_way (F : Fun K "way_error" "way_error" sWayError f fd) : KBinds K fd ["many", "value"] ["value", "many"] gK gK := by
  obtain ⟨c1, c2, c3, c4, c5, c6, c7, c8, c9, rfl, look, code⟩ := F.ex
  refine ⟨fun s us ws _ hl => ?_, fun {vs us zs ws} r1 r2 => ?_⟩
  · match us, ws, hl with
    | [], [a, b], _ => exact .of_eq rfl
  · cases r1 with
    | cons _ _ => exact .nil
    | nil =>
      cases r2 with
      | nil => exact .nil
      | cons a r =>
        cases r with
        | nil => exact .nil
        | cons b r =>
          cases r with
          | nil => exact .cons b (.cons a .nil)
          | cons _ _ => exact .nil
theorem scLaw : FnScope ["script", "deck", "turn", "many", "value", "due", "kept", "told"] ["script"] (defScope sLaw) := ⟨rfl, rfl, rfl, by decide +kernel, rfl, by decide +kernel, by decide +kernel⟩
theorem law_ok {a : Addr} {ns : List Int} {H : Hp} {s0 : Shared} (F : Fun K "law" "law" sLaw f fd) (B : Blt mg) (mods : ∃ o, K.lookup sysModules = some o) (DC : Dfn P w K mg base "_law_deck" ["script"] 1 (spDeck K)) (DD : Dfn P w K mg base "_law_draw" ["deck", "many"] 1 spDraw)
    (DV : Dfn P w K mg base "_law_value" ["deck", "many"] 10 spValue) (DF : Dfn P w K mg base "_law_way_fault" ["many", "value"] 2 spWayError) (DW : Dfn P w K mg base "way_error" ["many", "value"] 4 spWayError) (DK : KDfn P w K mg base) (DS : Dfn P w K mg base "_law_same" ["found", "due"] 2 (spSame 2))
    (len : ns.length ≤ 63) (en : Env0 P w K mg base callerA [] s0 H) (hS : SqL K H a (ns.map V.int)) : codeAny (model P w) callerA (.call (.ref f) ⟨[.ref a], []⟩) (CR CX0 [] P w H s0 (fun v _ => v = V.bl true) E0) s0 := by
  have room : Room 11 callerA := ⟨rfl, by decide, by decide⟩
  refine at_caller (ps := ["script"]) (us := [.ref a]) (vs := [.ref a]) F scLaw (room.mono (by decide)) en ?_ (.cons rfl .nil) rfl fun cd => ?_
  · obtain ⟨c1, c2, c3, c4, c5, c6, c7, c8, c9, rfl, look, code⟩ := F.ex
    exact .of_eq rfl
  have nd := scLaw.nd
  have hr : Room 10 (callerA.deeper (PyProof.Rows.envOfC "law" (defScope sLaw) s0.heap.objs.size f cd)) := room.deeper _
  have hr1 : Room 1 (callerA.deeper (PyProof.Rows.envOfC "law" (defScope sLaw) s0.heap.objs.size f cd)) := hr.mono (by decide)
  have hr2 : Room 2 (callerA.deeper (PyProof.Rows.envOfC "law" (defScope sLaw) s0.heap.objs.size f cd)) := hr.mono (by decide)
  have hr4 : Room 4 (callerA.deeper (PyProof.Rows.envOfC "law" (defScope sLaw) s0.heap.objs.size f cd)) := hr.mono (by decide)
  have gd : (callerA.deeper (PyProof.Rows.envOfC "law" (defScope sLaw) s0.heap.objs.size f cd)).guards = some [] := rfl
  have un : (callerA.deeper (PyProof.Rows.envOfC "law" (defScope sLaw) s0.heap.objs.size f cd)).units + 102 < cLine := by
    have := hr.un
    omega
  obtain ⟨fk, fdk, Fk, mk, kk, bk⟩ := DK.ex
  refine ⟨_, pss_cons (ps_set (i := 1) nd rfl (Or.inl rfl) (pe_own DC hr1 (pa_cons (pv 0) pa_nil)))
    (pss_cons (ps_for PassesOwn.never rfl (pi_range1 (by rfl) B.rng (pa_cons pe_int pa_nil)) (pg_name (i := 2) nd rfl (Or.inl rfl))
      (pss_cons (ps_set (i := 3) nd rfl (Or.inl rfl) (pe_op op_add pe_int (pe_own DD hr1 (pa_cons (pv 1) (pa_cons pe_int pa_nil)))))
      (pss_cons (ps_set (i := 4) nd rfl (Or.inl rfl) (pe_own DV hr (pa_cons (pv 1) (pa_cons (pv 3) pa_nil))))
      (pss_cons (ps_set (i := 3) nd rfl (Or.inl rfl) (pe_ifExp (pt_cmpR op_eq (pe_own DD hr1 (pa_cons (pv 1) (pa_cons pe_int pa_nil))) pe_int (nomark _)) (pe_op op_add pe_int (pe_own DD hr1 (pa_cons (pv 1) (pa_cons pe_int pa_nil)))) (pv 3)))
      (pss_cons (ps_par (i := 5) (j := 6) (by rfl) nd rfl rfl (by decide) rfl rfl (pa_cons (pe_own DF hr2 (pa_cons (pv 3) (pa_cons (pv 4) pa_nil)))
        (pa_cons (pe_callB (call_repr gd un mods) (by rfl) B.repr (by decide +kernel) (pa_cons (pv 4) pa_nil)) pa_nil)) (by rfl))
      (pss_cons (ps_set (i := 7) nd rfl (Or.inl rfl) (pe_ifExp (pt_cmpR op_eq (pe_op op_mod (pv 2) pe_int) pe_int (nomark _)) (pe_callK0 (ks := ["value", "many"]) Fk hr4 (by rfl) mk kk bk pass0 (pk_cons (pv 4) (pk_cons (pv 3) pk_nil))) (pe_own DW hr4 (pa_cons (pv 3) (pa_cons (pv 4) pa_nil)))))
      (pss_one (ps_if (PW.pt (pw_or (pt_not (pt_val (pe_own DS hr2 (pa_cons (pv 7) (pa_cons (pv 5) pa_nil))))) (pw_or (pt_not (pt_val (pe_own DS hr2 (pa_cons (pe_own DW hr4 (pa_cons (pv 3) (pa_cons (pv 4) pa_nil))) (pa_cons (pv 5) pa_nil)))))
          (pw_or1 (pt_cmpR op_ne (pe_callB (call_repr gd un mods) (by rfl) B.repr (by decide +kernel) (pa_cons (pv 4) pa_nil)) (pv 6) (nomark _)))))) (pss_one (ps_ret pe_bl)) pss_nil))))))))
    (pss_one (ps_ret pe_bl))), ?_⟩
  refine ⟨_, rfl, a, ns, rfl, hS, len, fun dk gl H1 _ D1 => ?_⟩
  refine ⟨_, rfl, by decide, by decide, for_it (walk_range (lo := 0) (n := 30)) (fun i σ H2 => (∃ (v2 v3 v4 v5 v6 v7 : Option V), σ = [some (.ref a), some (.ref dk), v2, v3, v4, v5, v6, v7]) ∧ DeckAt dk gl H2) ⟨⟨_, _, _, _, _, _, rfl⟩, D1⟩ (fun _ _ _ _ _ => trivial) ?_ ?_⟩
  rotate_left
  · rintro σ H2 ⟨⟨_, _, _, _, _, _, rfl⟩, D2⟩
    exact rfl
  rintro i y σ H2 H3 hi ⟨⟨_, _, _, _, _, _, rfl⟩, D2⟩ ⟨rfl, rfl⟩
  refine ⟨_, rfl, dk, gl, 6, rfl, D2, by decide, fun m0 H3 e3 D3 m1 m2 => ?_⟩
  refine ⟨_, _, rfl, rfl, ?_⟩
  refine ⟨_, rfl, _, rfl, dk, gl, _, rfl, D3, by omega, by omega, fun v d H4 e4 D4 rv nv wv => ?_⟩
  refine ⟨_, rfl, dk, gl, 5, rfl, D4, by decide, fun z H5 e5 D5 _ _ => ⟨rfl, _, rfl, ?_⟩⟩
  have rv5 := rv.mono e5
  clear m2 e3 D3 e4 D4 e5 rv D2 m1
  refine ite2 (fun _ => ?_) (fun _ => ?_)
  · refine ⟨_, rfl, dk, gl, 6, rfl, D5, by decide, fun m3 H6 e6 D6 _ _ => ⟨_, _, rfl, rfl, ?_⟩⟩
    have rx := rv5.mono e6
    have Dx := D6
    generalize H6 = Hx at rx Dx
    walk_at "law rest"
  · refine ⟨_, rfl, ?_⟩
    have rx := rv5
    have Dx := D5
    generalize H5 = Hx at rx Dx
    walk_at "law rest"
end
end Rw
end
namespace Rw
open PySem L2 PyProof.Rows
theorem def_of {K : PySem.W.Frag} {h : Heap} {mg : Str → Option Value} {x : Str} {st : Stmt} {f : Addr} {c1 : Value} {o1 o2 : Option Addr} {sl : Array (Option Value)} {c2 c3 c4 c5 c6 : Value} {ps : List Str} (X : K.In h) (G : h.Ns mainGlobals mg)
    (a : PySem.W.nsIn K mainGlobals x = some (some (.ref f))) (look : K.lookup f = some ⟨c1, o1, .func (PySem.W.fnOf x x (defArgs st) (defBody st) (defScope st) .none c2 c3 c4 o2 c5 c6), sl⟩) (code : PySem.W.codeIn K c5 x = true) (keep : PySem.W.keepIn K (.ref f) = true)
    (bind : ∀ (kV doc pm : Value) (an : Option Addr) (cdv ct : Value) (us : List Value), us.length = ps.length → bindArgs (PySem.W.fnOf x x (defArgs st) (defBody st) (defScope st) .none kV doc pm an cdv ct) ⟨us, []⟩ = pure (ps.zip us)) : Def K mg x st ps :=
  ⟨_, _, fun_mk look code keep, PySem.W.mg_of X G a, (fun_mk look code keep).binds bind⟩

theorem all_mk {l : PySem.W.OpenLaw} {w : World} {K : PySem.W.Frag} {h : Heap} {mg : Str → Option Value} {fa : Addr} (X : K.In h) (G : h.Ns mainGlobals mg) (hfa : mg "law" = some (.ref fa))
    {f1 f2 f3 f4 f5 f6 f7 f8 f9 f10 f11 f12 f13 f14 f15 f16 f17 f18 f19 : Addr} {od1 an1 od2 an2 od3 an3 od4 an4 od5 an5 od6 an6 od7 an7 od8 an8 od9 an9 od10 an10 od11 an11 od12 an12 od13 an13 od14 an14 od15 an15 od16 an16 od17 an17 od18 an18 od19 an19 : Option Addr} {sl1 sl2 sl3 sl4 sl5 sl6 sl7 sl8 sl9 sl10 sl11 sl12 sl13 sl14 sl15 sl16 sl17 sl18 sl19 : Array (Option Value)} {oc1 kV1 dc1 pm1 cd1 ct1 oc2 kV2 dc2 pm2 cd2 ct2 oc3 kV3 dc3 pm3 cd3 ct3 oc4 kV4 dc4 pm4 cd4 ct4 oc5 kV5 dc5 pm5 cd5 ct5 oc6 kV6 dc6 pm6 cd6 ct6 oc7 kV7 dc7 pm7 cd7 ct7 oc8 kV8 dc8 pm8 cd8 ct8 oc9 kV9 dc9 pm9 cd9 ct9 oc10 kV10 dc10 pm10 cd10 ct10 oc11 kV11 dc11 pm11 cd11 ct11 oc12 kV12 dc12 pm12 cd12 ct12 oc13 kV13 dc13 pm13 cd13 ct13 oc14 kV14 dc14 pm14 cd14 ct14 oc15 kV15 dc15 pm15 cd15 ct15 oc16 kV16 dc16 pm16 cd16 ct16 oc17 kV17 dc17 pm17 cd17 ct17 oc18 kV18 dc18 pm18 cd18 ct18 oc19 kV19 dc19 pm19 cd19 ct19 : Value} {om : Obj} {tmin tmax : Nat}
    (a1 : PySem.W.nsIn K mainGlobals "is_integer" = some (some (.ref f1))) (l1 : K.lookup f1 = some ⟨oc1, od1, .func (PySem.W.fnOf "is_integer" "is_integer" (defArgs sInteger) (defBody sInteger) (defScope sInteger) .none kV1 dc1 pm1 an1 cd1 ct1), sl1⟩) (c1 : PySem.W.codeIn K cd1 "is_integer" = true) (k1 : PySem.W.keepIn K (.ref f1) = true)
    (a2 : PySem.W.nsIn K mainGlobals "is_below" = some (some (.ref f2))) (l2 : K.lookup f2 = some ⟨oc2, od2, .func (PySem.W.fnOf "is_below" "is_below" (defArgs sBelow) (defBody sBelow) (defScope sBelow) .none kV2 dc2 pm2 an2 cd2 ct2), sl2⟩) (c2 : PySem.W.codeIn K cd2 "is_below" = true) (k2 : PySem.W.keepIn K (.ref f2) = true)
    (a3 : PySem.W.nsIn K mainGlobals "is_tuple_of" = some (some (.ref f3))) (l3 : K.lookup f3 = some ⟨oc3, od3, .func (PySem.W.fnOf "is_tuple_of" "is_tuple_of" (defArgs sTupleOf) (defBody sTupleOf) (defScope sTupleOf) .none kV3 dc3 pm3 an3 cd3 ct3), sl3⟩) (c3 : PySem.W.codeIn K cd3 "is_tuple_of" = true) (k3 : PySem.W.keepIn K (.ref f3) = true)
    (a4 : PySem.W.nsIn K mainGlobals "is_step" = some (some (.ref f4))) (l4 : K.lookup f4 = some ⟨oc4, od4, .func (PySem.W.fnOf "is_step" "is_step" (defArgs sStep) (defBody sStep) (defScope sStep) .none kV4 dc4 pm4 an4 cd4 ct4), sl4⟩) (c4 : PySem.W.codeIn K cd4 "is_step" = true) (k4 : PySem.W.keepIn K (.ref f4) = true)
    (a5 : PySem.W.nsIn K mainGlobals "nesting_error" = some (some (.ref f5))) (l5 : K.lookup f5 = some ⟨oc5, od5, .func (PySem.W.fnOf "nesting_error" "nesting_error" (defArgs sNest) (defBody sNest) (defScope sNest) .none kV5 dc5 pm5 an5 cd5 ct5), sl5⟩) (c5 : PySem.W.codeIn K cd5 "nesting_error" = true) (k5 : PySem.W.keepIn K (.ref f5) = true)
    (a6 : PySem.W.nsIn K mainGlobals "way_error" = some (some (.ref f6))) (l6 : K.lookup f6 = some ⟨oc6, od6, .func (PySem.W.fnOf "way_error" "way_error" (defArgs sWayError) (defBody sWayError) (defScope sWayError) .none kV6 dc6 pm6 an6 cd6 ct6), sl6⟩) (c6 : PySem.W.codeIn K cd6 "way_error" = true) (k6 : PySem.W.keepIn K (.ref f6) = true)
    (a7 : PySem.W.nsIn K mainGlobals "_law_deck" = some (some (.ref f7))) (l7 : K.lookup f7 = some ⟨oc7, od7, .func (PySem.W.fnOf "_law_deck" "_law_deck" (defArgs sDeck) (defBody sDeck) (defScope sDeck) .none kV7 dc7 pm7 an7 cd7 ct7), sl7⟩) (c7 : PySem.W.codeIn K cd7 "_law_deck" = true) (k7 : PySem.W.keepIn K (.ref f7) = true)
    (a8 : PySem.W.nsIn K mainGlobals "_law_draw" = some (some (.ref f8))) (l8 : K.lookup f8 = some ⟨oc8, od8, .func (PySem.W.fnOf "_law_draw" "_law_draw" (defArgs sDraw) (defBody sDraw) (defScope sDraw) .none kV8 dc8 pm8 an8 cd8 ct8), sl8⟩) (c8 : PySem.W.codeIn K cd8 "_law_draw" = true) (k8 : PySem.W.keepIn K (.ref f8) = true)
    (a9 : PySem.W.nsIn K mainGlobals "_law_pick" = some (some (.ref f9))) (l9 : K.lookup f9 = some ⟨oc9, od9, .func (PySem.W.fnOf "_law_pick" "_law_pick" (defArgs sPick) (defBody sPick) (defScope sPick) .none kV9 dc9 pm9 an9 cd9 ct9), sl9⟩) (c9 : PySem.W.codeIn K cd9 "_law_pick" = true) (k9 : PySem.W.keepIn K (.ref f9) = true)
    (a10 : PySem.W.nsIn K mainGlobals "_law_whole" = some (some (.ref f10))) (l10 : K.lookup f10 = some ⟨oc10, od10, .func (PySem.W.fnOf "_law_whole" "_law_whole" (defArgs sWhole) (defBody sWhole) (defScope sWhole) .none kV10 dc10 pm10 an10 cd10 ct10), sl10⟩) (c10 : PySem.W.codeIn K cd10 "_law_whole" = true) (k10 : PySem.W.keepIn K (.ref f10) = true)
    (a11 : PySem.W.nsIn K mainGlobals "_law_same" = some (some (.ref f11))) (l11 : K.lookup f11 = some ⟨oc11, od11, .func (PySem.W.fnOf "_law_same" "_law_same" (defArgs sSame) (defBody sSame) (defScope sSame) .none kV11 dc11 pm11 an11 cd11 ct11), sl11⟩) (c11 : PySem.W.codeIn K cd11 "_law_same" = true) (k11 : PySem.W.keepIn K (.ref f11) = true)
    (a12 : PySem.W.nsIn K mainGlobals "_law_any" = some (some (.ref f12))) (l12 : K.lookup f12 = some ⟨oc12, od12, .func (PySem.W.fnOf "_law_any" "_law_any" (defArgs sAny) (defBody sAny) (defScope sAny) .none kV12 dc12 pm12 an12 cd12 ct12), sl12⟩) (c12 : PySem.W.codeIn K cd12 "_law_any" = true) (k12 : PySem.W.keepIn K (.ref f12) = true)
    (a13 : PySem.W.nsIn K mainGlobals "_law_other" = some (some (.ref f13))) (l13 : K.lookup f13 = some ⟨oc13, od13, .func (PySem.W.fnOf "_law_other" "_law_other" (defArgs sOther) (defBody sOther) (defScope sOther) .none kV13 dc13 pm13 an13 cd13 ct13), sl13⟩) (c13 : PySem.W.codeIn K cd13 "_law_other" = true) (k13 : PySem.W.keepIn K (.ref f13) = true)
    (a14 : PySem.W.nsIn K mainGlobals "_law_bent" = some (some (.ref f14))) (l14 : K.lookup f14 = some ⟨oc14, od14, .func (PySem.W.fnOf "_law_bent" "_law_bent" (defArgs sBent) (defBody sBent) (defScope sBent) .none kV14 dc14 pm14 an14 cd14 ct14), sl14⟩) (c14 : PySem.W.codeIn K cd14 "_law_bent" = true) (k14 : PySem.W.keepIn K (.ref f14) = true)
    (a15 : PySem.W.nsIn K mainGlobals "_law_way" = some (some (.ref f15))) (l15 : K.lookup f15 = some ⟨oc15, od15, .func (PySem.W.fnOf "_law_way" "_law_way" (defArgs sWay) (defBody sWay) (defScope sWay) .none kV15 dc15 pm15 an15 cd15 ct15), sl15⟩) (c15 : PySem.W.codeIn K cd15 "_law_way" = true) (k15 : PySem.W.keepIn K (.ref f15) = true)
    (a16 : PySem.W.nsIn K mainGlobals "_law_long_way" = some (some (.ref f16))) (l16 : K.lookup f16 = some ⟨oc16, od16, .func (PySem.W.fnOf "_law_long_way" "_law_long_way" (defArgs sLong) (defBody sLong) (defScope sLong) .none kV16 dc16 pm16 an16 cd16 ct16), sl16⟩) (c16 : PySem.W.codeIn K cd16 "_law_long_way" = true) (k16 : PySem.W.keepIn K (.ref f16) = true)
    (a17 : PySem.W.nsIn K mainGlobals "_law_way_fault" = some (some (.ref f17))) (l17 : K.lookup f17 = some ⟨oc17, od17, .func (PySem.W.fnOf "_law_way_fault" "_law_way_fault" (defArgs sWayFault) (defBody sWayFault) (defScope sWayFault) .none kV17 dc17 pm17 an17 cd17 ct17), sl17⟩) (c17 : PySem.W.codeIn K cd17 "_law_way_fault" = true) (k17 : PySem.W.keepIn K (.ref f17) = true)
    (a18 : PySem.W.nsIn K mainGlobals "_law_value" = some (some (.ref f18))) (l18 : K.lookup f18 = some ⟨oc18, od18, .func (PySem.W.fnOf "_law_value" "_law_value" (defArgs sValue) (defBody sValue) (defScope sValue) .none kV18 dc18 pm18 an18 cd18 ct18), sl18⟩) (c18 : PySem.W.codeIn K cd18 "_law_value" = true) (k18 : PySem.W.keepIn K (.ref f18) = true)
    (a19 : PySem.W.nsIn K mainGlobals "law" = some (some (.ref f19))) (l19 : K.lookup f19 = some ⟨oc19, od19, .func (PySem.W.fnOf "law" "law" (defArgs sLaw) (defBody sLaw) (defScope sLaw) .none kV19 dc19 pm19 an19 cd19 ct19), sl19⟩) (c19 : PySem.W.codeIn K cd19 "law" = true) (k19 : PySem.W.keepIn K (.ref f19) = true)
    (mods : K.lookup sysModules = some om) (cMin : PySem.W.nsIn K mainGlobals "MIN_STEPS" = some (some (.int 2 tmin))) (cMax : PySem.W.nsIn K mainGlobals "MAX_STEPS" = some (some (.int 24 tmax)))
    (z_abs : PySem.W.nsIn K mainGlobals "abs" = some none) (z_int : PySem.W.nsIn K mainGlobals "int" = some none) (z_bool : PySem.W.nsIn K mainGlobals "bool" = some none) (z_str : PySem.W.nsIn K mainGlobals "str" = some none) (z_len : PySem.W.nsIn K mainGlobals "len" = some none) (z_isi : PySem.W.nsIn K mainGlobals "isinstance" = some none) (z_enu : PySem.W.nsIn K mainGlobals "enumerate" = some none) (z_rng : PySem.W.nsIn K mainGlobals "range" = some none) (z_list : PySem.W.nsIn K mainGlobals "list" = some none) (z_tup : PySem.W.nsIn K mainGlobals "tuple" = some none) (z_repr : PySem.W.nsIn K mainGlobals "repr" = some none) :
    ∀ (a : Addr) (ns : List Int), ns.length ≤ 63 → Runs l.prog w K mg fa a ns := by
  have e := hfa.symm.trans (PySem.W.mg_of X G a19)
  cases e
  have B : Blt mg := ⟨PySem.W.mg_none_of X G z_abs, PySem.W.mg_none_of X G z_int, PySem.W.mg_none_of X G z_bool, PySem.W.mg_none_of X G z_str, PySem.W.mg_none_of X G z_len, PySem.W.mg_none_of X G z_isi, PySem.W.mg_none_of X G z_enu, PySem.W.mg_none_of X G z_rng, PySem.W.mg_none_of X G z_list, PySem.W.mg_none_of X G z_tup, PySem.W.mg_none_of X G z_repr⟩
  have D1 : Def K mg "is_integer" sInteger ["value"] := def_of X G a1 l1 c1 k1 fun _ _ _ _ _ _ us hl => match us, hl with | [_], _ => rfl
  have D2 : Def K mg "is_below" sBelow ["value", "many"] := def_of X G a2 l2 c2 k2 fun _ _ _ _ _ _ us hl => match us, hl with | [_, _], _ => rfl
  have D3 : Def K mg "is_tuple_of" sTupleOf ["value", "many"] := def_of X G a3 l3 c3 k3 fun _ _ _ _ _ _ us hl => match us, hl with | [_, _], _ => rfl
  have D4 : Def K mg "is_step" sStep ["many", "value"] := def_of X G a4 l4 c4 k4 fun _ _ _ _ _ _ us hl => match us, hl with | [_, _], _ => rfl
  have D5 : Def K mg "nesting_error" sNest ["steps"] := def_of X G a5 l5 c5 k5 fun _ _ _ _ _ _ us hl => match us, hl with | [_], _ => rfl
  have D6 : Def K mg "way_error" sWayError ["many", "value"] := def_of X G a6 l6 c6 k6 fun _ _ _ _ _ _ us hl => match us, hl with | [_, _], _ => rfl
  have D7 : Def K mg "_law_deck" sDeck ["script"] := def_of X G a7 l7 c7 k7 fun _ _ _ _ _ _ us hl => match us, hl with | [_], _ => rfl
  have D8 : Def K mg "_law_draw" sDraw ["deck", "many"] := def_of X G a8 l8 c8 k8 fun _ _ _ _ _ _ us hl => match us, hl with | [_, _], _ => rfl
  have D9 : Def K mg "_law_pick" sPick ["deck", "items"] := def_of X G a9 l9 c9 k9 fun _ _ _ _ _ _ us hl => match us, hl with | [_, _], _ => rfl
  have D10 : Def K mg "_law_whole" sWhole ["value", "least", "most"] := def_of X G a10 l10 c10 k10 fun _ _ _ _ _ _ us hl => match us, hl with | [_, _, _], _ => rfl
  have D11 : Def K mg "_law_same" sSame ["found", "due"] := def_of X G a11 l11 c11 k11 fun _ _ _ _ _ _ us hl => match us, hl with | [_, _], _ => rfl
  have D12 : Def K mg "_law_any" sAny ["deck", "deep"] := def_of X G a12 l12 c12 k12 fun _ _ _ _ _ _ us hl => match us, hl with | [_, _], _ => rfl
  have D13 : Def K mg "_law_other" sOther ["deck", "item"] := def_of X G a13 l13 c13 k13 fun _ _ _ _ _ _ us hl => match us, hl with | [_, _], _ => rfl
  have D14 : Def K mg "_law_bent" sBent ["deck", "value", "deep"] := def_of X G a14 l14 c14 k14 fun _ _ _ _ _ _ us hl => match us, hl with | [_, _, _], _ => rfl
  have D15 : Def K mg "_law_way" sWay ["deck", "rooms", "most"] := def_of X G a15 l15 c15 k15 fun _ _ _ _ _ _ us hl => match us, hl with | [_, _, _], _ => rfl
  have D16 : Def K mg "_law_long_way" sLong ["deck", "rooms", "pairs"] := def_of X G a16 l16 c16 k16 fun _ _ _ _ _ _ us hl => match us, hl with | [_, _, _], _ => rfl
  have D17 : Def K mg "_law_way_fault" sWayFault ["many", "value"] := def_of X G a17 l17 c17 k17 fun _ _ _ _ _ _ us hl => match us, hl with | [_, _], _ => rfl
  have D18 : Def K mg "_law_value" sValue ["deck", "many"] := def_of X G a18 l18 c18 k18 fun _ _ _ _ _ _ us hl => match us, hl with | [_, _], _ => rfl
  intro a ns len base H s0 en hS
  have hmin : ∃ t, mg "MIN_STEPS" = some (.int 2 t) := ⟨_, PySem.W.mg_of X G cMin⟩
  have hmax : ∃ t, mg "MAX_STEPS" = some (.int 24 t) := ⟨_, PySem.W.mg_of X G cMax⟩
  have E1 : Dfn l.prog w K mg base "is_integer" ["value"] 1 spInteger := D1.ok fun f fd F => ok_integer F B
  have E2 : Dfn l.prog w K mg base "is_below" ["value", "many"] 2 spBelow := D2.ok fun f fd F => ok_below F E1
  have E3 : Dfn l.prog w K mg base "is_tuple_of" ["value", "many"] 1 spTupleOf := D3.ok fun f fd F => ok_tupleOf F B
  have E4 : Dfn l.prog w K mg base "is_step" ["many", "value"] 3 spStep := D4.ok fun f fd F => ok_step F E3 E2
  have E5 : Dfn l.prog w K mg base "nesting_error" ["steps"] 1 spNest := D5.ok fun f fd F => ok_nest F B
  have E6 : Dfn l.prog w K mg base "way_error" ["many", "value"] 4 spWayError := D6.ok fun f fd F => ok_wayError F B hmin hmax E4 E5
  have E7 : Dfn l.prog w K mg base "_law_deck" ["script"] 1 (spDeck K) := D7.ok fun f fd F => ok_deck F B
  have E8 : Dfn l.prog w K mg base "_law_draw" ["deck", "many"] 1 spDraw := D8.ok fun f fd F => ok_draw F B
  have E9 : Dfn l.prog w K mg base "_law_pick" ["deck", "items"] 2 spPick := D9.ok fun f fd F => ok_pick F B E8
  have E10 : Dfn l.prog w K mg base "_law_whole" ["value", "least", "most"] 1 spWhole := D10.ok fun f fd F => ok_whole F B
  have E11 : Dfn l.prog w K mg base "_law_same" ["found", "due"] 2 (spSame 2) := same_all D11 B 2
  have E12 : Dfn l.prog w K mg base "_law_any" ["deck", "deep"] 5 (spAny 3) := any_all D12 B E8 E9 3
  have E12b : Dfn l.prog w K mg base "_law_any" ["deck", "deep"] 6 (spAny 4) := any_all D12 B E8 E9 4
  have E13 : Dfn l.prog w K mg base "_law_other" ["deck", "item"] 6 spOther := D13.ok fun f fd F => ok_other F B E8 E9 E10 E12
  have E14 : Dfn l.prog w K mg base "_law_bent" ["deck", "value", "deep"] 9 (spBent 3) := bent_all D14 B E8 E13 3
  have E15 : Dfn l.prog w K mg base "_law_way" ["deck", "rooms", "most"] 3 spWay := D15.ok fun f fd F => ok_way F B E8 E9
  have E16 : Dfn l.prog w K mg base "_law_long_way" ["deck", "rooms", "pairs"] 2 spLong := D16.ok fun f fd F => ok_long F B E8
  have E17 : Dfn l.prog w K mg base "_law_way_fault" ["many", "value"] 2 spWayError := D17.ok fun f fd F => ok_wayFault F B E10
  have E18 : Dfn l.prog w K mg base "_law_value" ["deck", "many"] 10 spValue := D18.ok fun f fd F => ok_value F B E8 E9 E12b E16 E15 E14
  have E6k : KDfn l.prog w K mg base := by
    obtain ⟨fw, fdw, Fw, mw, bw⟩ := D6.ex
    exact ⟨fw, fdw, ok_wayError Fw B hmin hmax E4 E5, mw, Fw.kp, kb_way Fw⟩
  exact law_ok (fun_mk (st := sLaw) l19 c19 k19) B ⟨_, mods⟩ E7 E8 E18 E17 E6 E6k E11 len en hS
end Rw


open PySem PySem.W PyProof.Rows in
set_option maxRecDepth 100000 in
set_option maxHeartbeats 0 in
theorem PySem.Challenge.cw_roomways_k01_what_ways_are_holds : PySem.Challenge.rw_roomways_k01_what_ways_are.Holds := by
  w_on; o_law; x_head; (case hw => w_witness2)
  k_fill
  refine Rw.walks (n := 63) (l := PySem.Challenge.rw_roomways_k01_what_ways_are) rfl (by decide) rfl (fun w h Y => PySem.W.kIn_of Y) ?F
  case F =>
    intro w mg fa h X G hmg
    refine' Rw.all_mk X G hmg ?a1 ?l1 ?c1 ?k1 ?a2 ?l2 ?c2 ?k2 ?a3 ?l3 ?c3 ?k3 ?a4 ?l4 ?c4 ?k4 ?a5 ?l5 ?c5 ?k5 ?a6 ?l6 ?c6 ?k6 ?a7 ?l7 ?c7 ?k7 ?a8 ?l8 ?c8 ?k8 ?a9 ?l9 ?c9 ?k9 ?a10 ?l10 ?c10 ?k10 ?a11 ?l11 ?c11 ?k11 ?a12 ?l12 ?c12 ?k12 ?a13 ?l13 ?c13 ?k13 ?a14 ?l14 ?c14 ?k14 ?a15 ?l15 ?c15 ?k15 ?a16 ?l16 ?c16 ?k16 ?a17 ?l17 ?c17 ?k17 ?a18 ?l18 ?c18 ?k18 ?a19 ?l19 ?c19 ?k19 ?mods ?cMin ?cMax ?z_abs ?z_int ?z_bool ?z_str ?z_len ?z_isi ?z_enu ?z_rng ?z_list ?z_tup ?z_repr
    (case a1 => k_is)
    (case l1 => k_is)
    (case c1 => k_is)
    (case k1 => k_is)
    (case a2 => k_is)
    (case l2 => k_is)
    (case c2 => k_is)
    (case k2 => k_is)
    (case a3 => k_is)
    (case l3 => k_is)
    (case c3 => k_is)
    (case k3 => k_is)
    (case a4 => k_is)
    (case l4 => k_is)
    (case c4 => k_is)
    (case k4 => k_is)
    (case a5 => k_is)
    (case l5 => k_is)
    (case c5 => k_is)
    (case k5 => k_is)
    (case a6 => k_is)
    (case l6 => k_is)
    (case c6 => k_is)
    (case k6 => k_is)
    (case a7 => k_is)
    (case l7 => k_is)
    (case c7 => k_is)
    (case k7 => k_is)
    (case a8 => k_is)
    (case l8 => k_is)
    (case c8 => k_is)
    (case k8 => k_is)
    (case a9 => k_is)
    (case l9 => k_is)
    (case c9 => k_is)
    (case k9 => k_is)
    (case a10 => k_is)
    (case l10 => k_is)
    (case c10 => k_is)
    (case k10 => k_is)
    (case a11 => k_is)
    (case l11 => k_is)
    (case c11 => k_is)
    (case k11 => k_is)
    (case a12 => k_is)
    (case l12 => k_is)
    (case c12 => k_is)
    (case k12 => k_is)
    (case a13 => k_is)
    (case l13 => k_is)
    (case c13 => k_is)
    (case k13 => k_is)
    (case a14 => k_is)
    (case l14 => k_is)
    (case c14 => k_is)
    (case k14 => k_is)
    (case a15 => k_is)
    (case l15 => k_is)
    (case c15 => k_is)
    (case k15 => k_is)
    (case a16 => k_is)
    (case l16 => k_is)
    (case c16 => k_is)
    (case k16 => k_is)
    (case a17 => k_is)
    (case l17 => k_is)
    (case c17 => k_is)
    (case k17 => k_is)
    (case a18 => k_is)
    (case l18 => k_is)
    (case c18 => k_is)
    (case k18 => k_is)
    (case a19 => k_is)
    (case l19 => k_is)
    (case c19 => k_is)
    (case k19 => k_is)
    (case mods => k_is)
    (case cMin => k_is)
    (case cMax => k_is)
    (case z_abs => k_is)
    (case z_int => k_is)
    (case z_bool => k_is)
    (case z_str => k_is)
    (case z_len => k_is)
    (case z_isi => k_is)
    (case z_enu => k_is)
    (case z_rng => k_is)
    (case z_list => k_is)
    (case z_tup => k_is)
    (case z_repr => k_is)
