import PyProof.Rows.All
import Wide.All
import OpenK.AllK
import Wide.FinOn
import HandS.ForMost
import HandS.IsInst
import HandS.TupAny
import HandS.Walk
import HandS.Style
import HandS.Conv
import HandS.Wide
import HandS.Flow
import HandS.Defaults
import KE.GoesEnum
import PySem.Challenge.RW_roomways_k03_what_doors_are
import PyProof.ReprLen
import HandS.SortInts
import PyProof.Rows.SortShellAny
import PyProof.NeKinds
import HandS.TupMul
set_option Elab.async false
set_option linter.all false
set_option maxRecDepth 100000
set_option maxHeartbeats 1000000
namespace Rw
open PySem PySem.Spec PyProof.Rows L2 PySem.SeqAt

/-! ### a text beside a dict: never equal -/
theorem str_declines_dict (b : Str) (u : Tok) (l : Addr) (c : Value) (es : Array DictEntry) (n : Nat) (dd : Option Addr) (sl : Array (Option Value)) :
    Meets (Builtin.«str.__eq__» ⟨[.str b u, .ref l], []⟩) (fun _ R s => s.heap.get? l = some { cls := c, dict := dd, data := .dict es n, slots := sl } ∧ R (.ok (.ret .notImplemented)) s) :=
  .of_wp fun prog w A R s h => by
    obtain ⟨hp, g, d, tk, os⟩ := s
    obtain ⟨hl, h⟩ := h
    wp_walk using AutoSeq1.wpAny_loadPart' hl, wpAny_load hl
    exact ⟨_, rfl, h⟩
theorem dict_declines_str (l : Addr) (es : Array DictEntry) (n : Nat) (dd : Option Addr) (sl : Array (Option Value)) (b : Str) (u : Tok) :
    Meets (Builtin.«dict.__eq__» ⟨[.ref l, .str b u], []⟩) (fun _ R s => s.heap.get? l = some { cls := .type "dict", dict := dd, data := .dict es n, slots := sl } ∧ R (.ok (.ret .notImplemented)) s) :=
  .of_wp fun prog w A R s h => by
    obtain ⟨hp, g, d, tk, os⟩ := s
    obtain ⟨hl, h⟩ := h
    have f1 : isSubtype (.type "str") (.type "dict") = pure false := by rw [isSubtype_type]; kernel_rfl
    wp_walk using AutoSeq1.wpAny_loadPart' hl, wpAny_load hl
    exact ⟨_, rfl, h⟩
theorem sub_dict_str : isSubtype (.type "dict") (.type "str") = pure false := by rw [isSubtype_type]; kernel_rfl
section
variable {A : Around} {s : Shared}
theorem rc_str_dict {l : Addr} {o : Obj} {es : Array DictEntry} {n : Nat} (b : Str) (u : Tok) (ho : s.heap.get? l = some o) (hc : o.cls = .type "dict") (hd : o.data = .dict es n) (hu : A.units < cLine) : RcAt A s (.str b u) (.ref l) false := fun prog w E Q h => by
  obtain ⟨cls, dd, data, sl⟩ := o
  simp only at hc hd
  subst hc hd
  refine rc_eq_decline_or (k := false) (typeIs_str s b u) ⟨_, ho, rfl⟩ (by decide) sub_dict_str F.slot_str_eq F.slot_dict_eq_refl
    (fun _ hq => ?_) (fun _ hq => ?_) (fun _ hq => wpAny_of_eq (rfl : isSame (.str b u) (.ref l) = pure false) hq) (.inr hu) h
  · exact call_meets F.slot_str_eq (typeIs_str s b u) F.entry_str_eq (F.args_str_eq_2 _ _) (str_declines_dict b u l (.type "dict") es n dd sl) ⟨ho, hq⟩
  · exact call_meets F.slot_dict_eq_refl ⟨_, ho, rfl⟩ F.entry_dict_eq (F.args_dict_eq_2 _ _) (dict_declines_str l es n dd sl b u) ⟨ho, hq⟩
theorem eq_str_dict {l : Addr} {o : Obj} {es : Array DictEntry} {n : Nat} (b : Str) (u : Tok) (ho : s.heap.get? l = some o) (hc : o.cls = .type "dict") (hd : o.data = .dict es n) (hu : A.units < cLine) : EqAt A s (.str b u) (.ref l) false := fun prog w E Q h => by
  unfold eqBool
  refine wpAny_holding ?_
  refine wpAny_ite_split (fun hab => absurd (eq_of_beq hab) nofun) (fun _ => ?_)
  exact wpAny_bind (rc_str_dict b u ho hc hd hu prog w E _ (wpAny_truthy_bool h))
end
end Rw
namespace Rw
open PySem PySem.Spec PyProof.Rows L2 PySem.SeqAt

/-! ### a value as data, all of whose objects stand, none of them at a place that av forbids -/
mutual
inductive Rp (av : Addr → Prop) (H : Hp) : V → PyData → Prop
  | non : Rp av H .non .none
  | bl (b : Bool) : Rp av H (.bl b) (.bool b)
  | int (i : Int) : Rp av H (.int i) (.int i)
  | str (x : Str) : Rp av H (.str x) (.str x)
  | lst {a : Addr} {xs : List V} {ds : List PyData} : ¬ av a → H a = some (.lst xs) → RpAll av H xs ds → Rp av H (.ref a) (.list ds)
  | tup {a : Addr} {xs : List V} {ds : List PyData} : ¬ av a → H a = some (.tup xs) → RpAll av H xs ds → Rp av H (.ref a) (.tuple ds)
  | dct {a : Addr} {k : Str} {v : V} {d : PyData} : ¬ av a → H a = some (.dK [(.inr k, v)]) → Rp av H v d → Rp av H (.ref a) (.dict [(.str k, d)])
inductive RpAll (av : Addr → Prop) (H : Hp) : List V → List PyData → Prop
  | nil : RpAll av H [] []
  | cons {v : V} {vs : List V} {d : PyData} {ds : List PyData} : Rp av H v d → RpAll av H vs ds → RpAll av H (v :: vs) (d :: ds)
end
/-- what stood at places that av does not name stands -/
def Ext (av : Addr → Prop) (H H' : Hp) : Prop := ∀ b o, ¬ av b → H b = some o → H' b = some o
section
variable {av : Addr → Prop} {H H' : Hp}
theorem Ext.refl : Ext av H H := fun _ _ _ h => h
theorem Ext.trans {H1 H2 H3 : Hp} (a : Ext av H1 H2) (b : Ext av H2 H3) : Ext av H1 H3 := fun c o n h => b c o n (a c o n h)
theorem Ext.of_same {H1 H2 : Hp} (a : Same H1 H2) : Ext av H1 H2 := fun c o _ h => a c o h
theorem same_new {p : Addr} (h : H p = none) (o : HO) : Same H (upd H p o) := fun b u q => by
  rw [upd_ne (ne_of_none q h)]
  exact q
theorem Ext.new {p : Addr} (h : H p = none) (o : HO) : Ext av H (upd H p o) := Ext.of_same (same_new h o)
theorem Ext.put {p : Addr} (h : av p) (o : HO) : Ext av H (upd H p o) := fun b u n q => by
  rw [upd_ne (fun e => n (by rw [e]; exact h))]
  exact q
mutual
theorem Rp.mono (e : Ext av H H') : ∀ {v : V} {d : PyData}, Rp av H v d → Rp av H' v d
  | _, _, .non => .non
  | _, _, .bl b => .bl b
  | _, _, .int i => .int i
  | _, _, .str x => .str x
  | _, _, .lst n h r => .lst n (e _ _ n h) (RpAll.mono e r)
  | _, _, .tup n h r => .tup n (e _ _ n h) (RpAll.mono e r)
  | _, _, .dct n h r => .dct n (e _ _ n h) (Rp.mono e r)
theorem RpAll.mono (e : Ext av H H') : ∀ {v : List V} {d : List PyData}, RpAll av H v d → RpAll av H' v d
  | _, _, .nil => .nil
  | _, _, .cons a b => .cons (Rp.mono e a) (RpAll.mono e b)
end
theorem RpAll.len : ∀ {vs : List V} {ds : List PyData}, RpAll av H vs ds → vs.length = ds.length
  | _, _, .nil => rfl
  | _, _, .cons _ b => by rw [List.length_cons, List.length_cons, RpAll.len b]
theorem RpAll.at : ∀ {vs : List V} {ds : List PyData} {i : Nat} {v : V}, RpAll av H vs ds → vs[i]? = some v → ∃ d, ds[i]? = some d ∧ Rp av H v d
  | _, _, _, _, .nil, h => by simp at h
  | _, _, 0, _, .cons a _, h => by
    have e := Option.some.inj h
    subst e
    exact ⟨_, rfl, a⟩
  | _, _, i + 1, _, .cons _ b, h => RpAll.at (i := i) b h
theorem RpAll.app : ∀ {vs ws : List V} {ds es : List PyData}, RpAll av H vs ds → RpAll av H ws es → RpAll av H (vs ++ ws) (ds ++ es)
  | _, _, _, _, .nil, q => q
  | _, _, _, _, .cons a b, q => .cons a (RpAll.app b q)
theorem RpAll.take : ∀ {vs : List V} {ds : List PyData} (n : Nat), RpAll av H vs ds → RpAll av H (vs.take n) (ds.take n)
  | _, _, 0, _ => .nil
  | _, _, _ + 1, .nil => .nil
  | _, _, n + 1, .cons a b => .cons a (RpAll.take n b)
theorem RpAll.drop : ∀ {vs : List V} {ds : List PyData} (n : Nat), RpAll av H vs ds → RpAll av H (vs.drop n) (ds.drop n)
  | _, _, 0, q => q
  | _, _, _ + 1, .nil => .nil
  | _, _, n + 1, .cons _ b => RpAll.drop n b
theorem RpAll.set {v : V} {d : PyData} (r : Rp av H v d) : ∀ {vs : List V} {ds : List PyData} (n : Nat), RpAll av H vs ds → RpAll av H (vs.set n v) (ds.set n d)
  | _, _, _, .nil => .nil
  | _, _, 0, .cons _ b => .cons r b
  | _, _, n + 1, .cons a b => .cons a (RpAll.set r n b)
theorem RpAll.snoc {vs : List V} {ds : List PyData} {v : V} {d : PyData} (a : RpAll av H vs ds) (b : Rp av H v d) : RpAll av H (vs ++ [v]) (ds ++ [d]) := a.app (.cons b .nil)
theorem RpAll.ints : ∀ ns : List Int, RpAll av H (ns.map V.int) (ns.map PyData.int)
  | [] => .nil
  | n :: r => .cons (.int n) (RpAll.ints r)
end

/-! ### what it reads as -/
section
variable {X : Cx} {pins : List (Addr × Obj)} {σ : L2.St} {H : Hp} {s : Shared} {av : Addr → Prop}
theorem no_sys (I : Inv X pins σ H s) {o : Obj} (hk : X.K.lookup sysModules = some o) {a : Addr} {u : HO} (h : H a = some u) : a ≠ sysModules := fun e => by
  have q := (I.bs sysModules o (I.mod.kin _ _ hk)).2
  rw [← e, h] at q
  cases q
mutual
theorem Rp.reads (I : Inv X pins σ H s) : ∀ (d : PyData) (v : V) (u : Value), Rp av H v d → RelV v u → ∃ as, Reads s.heap u d as ∧ ∀ b ∈ as, ∃ o, H b = some o
  | .none, _, _, h, r => by
    cases h
    cases r
    exact ⟨_, Reads.none, fun b hb => absurd hb (by simp)⟩
  | .bool b, _, _, h, r => by
    cases h
    cases r
    exact ⟨_, Reads.bool b, fun b hb => absurd hb (by simp)⟩
  | .int i, _, _, h, r => by
    cases h
    obtain ⟨t, rfl⟩ := r
    exact ⟨_, Reads.int i t, fun b hb => absurd hb (by simp)⟩
  | .str x, _, _, h, r => by
    cases h
    obtain ⟨t, rfl⟩ := r
    exact ⟨_, Reads.str x t, fun b hb => absurd hb (by simp)⟩
  | .list ds, _, _, h, r => by
    cases h with
    | lst n hs ha =>
      cases r
      obtain ⟨its, rv, ⟨o, n, ho, hc, _, hd⟩, _⟩ := I.list (SqL.of hs)
      obtain ⟨as, hr, hk⟩ := RpAll.reads I ds _ its ha rv
      refine ⟨_, Reads.list ho hc hd hr, fun b hb => ?_⟩
      rcases List.mem_cons.mp hb with e | e
      · rw [e]
        exact ⟨_, hs⟩
      · exact hk b e
  | .tuple ds, _, _, h, r => by
    cases h with
    | tup n hs ha =>
      cases r
      obtain ⟨its, rv, ⟨o, ho, hc, n, hd⟩, _⟩ := I.tuple (SqT.of hs)
      obtain ⟨as, hr, hk⟩ := RpAll.reads I ds _ its ha rv
      exact ⟨_, Reads.tuple ho hc hd hr, hk⟩
  | .dict kds, _, _, h, r => by
    cases h with
    | @dct a k v d n hs ha =>
      cases r
      obtain ⟨_, _, vs, kv, o, es, ep, ho, hx, hd, hks, hp, _⟩ := (show ObjOk X.prog X.w H s.heap a (.dK [(.inr k, v)]) from I.hok a _ hs)
      cases vs with
      | nil => cases kv
      | cons q0 qt =>
        cases kv with
        | cons r1 rt =>
        cases rt
        obtain ⟨k2, u2⟩ := q0
        obtain ⟨e1, r2⟩ := r1
        simp only at e1 r2
        subst e1
        obtain ⟨as, hr, hk⟩ := Rp.reads I d v u2 ha r2
        generalize hl : es.toList = el at hp
        cases el with
        | nil => cases hp
        | cons e0 et =>
          cases hp with
          | cons i1 i2 i3 =>
          cases i3
          obtain ⟨t, ek⟩ := Value.isStrOf_shape (x := k) (v := e0.key) i1
          refine ⟨a :: ([] ++ []) ++ (as ++ []), Reads.dict ho hx.1 hd ?_ ?_, fun b hb => ?_⟩
          · rw [hl]
            show ReadsAll s.heap [e0.key] [.str k] ([] ++ [])
            rw [ek]
            exact .cons (.str k t) .nil
          · rw [hl]
            show ReadsAll s.heap [e0.val] [d] (as ++ [])
            rw [show e0.val = u2 from i2]
            exact .cons hr .nil
          · simp only [List.append_nil, List.cons_append, List.nil_append, List.mem_cons] at hb
            rcases hb with e | e
            · rw [e]
              exact ⟨_, hs⟩
            · exact hk b e
theorem RpAll.reads (I : Inv X pins σ H s) : ∀ (ds : List PyData) (vs : List V) (us : List Value), RpAll av H vs ds → Vals vs us → ∃ as, ReadsAll s.heap us ds as ∧ ∀ b ∈ as, ∃ o, H b = some o
  | [], _, _, h, r => by
    cases h
    cases r
    exact ⟨_, ReadsAll.nil, fun b hb => absurd hb (by simp)⟩
  | d :: ds, _, _, h, r => by
    cases h with
    | cons h1 h2 =>
      cases r with
      | cons r1 r2 =>
        obtain ⟨as, q1, k1⟩ := Rp.reads I d _ _ h1 r1
        obtain ⟨bs, q2, k2⟩ := RpAll.reads I ds _ _ h2 r2
        refine ⟨_, ReadsAll.cons q1 q2, fun b hb => ?_⟩
        rcases List.mem_append.mp hb with e | e
        · exact k1 b e
        · exact k2 b e
end
/-- repr(value) -/
def rRepr (K : PySem.W.Frag) : List V → Hp → VK → Prop := fun xs H Q => ∃ (av : Addr → Prop) (v : V) (d : PyData), xs = [v] ∧ Rp av H v d ∧ d.showable = true ∧ d.shown.length ≤ sizeLine ∧ d.depth ≤ 100 ∧ Q (.str d.shown) H
theorem call_repr (hg : X.A.guards = some []) (hu : X.A.units + 102 < cLine) (hk : ∃ o, X.K.lookup sysModules = some o) : CallR X (.builtin "repr") (rRepr X.K) := by
  intro pins s σ H xs us Q I r h
  obtain ⟨av, v, d, rfl, rp, hs, hz, hd, q⟩ := h
  obtain ⟨u, rfl, r1⟩ := vals1 r
  obtain ⟨o, hk⟩ := hk
  obtain ⟨as, rd, ht⟩ := rp.reads I d v u r1
  cases rd with
  | none => exact PySem.P.repr_of_none ⟨.str _, H, I.tok _, ⟨_, rfl⟩, q⟩
  | bool b => exact PySem.P.repr_of_bool ⟨.str _, H, I.tok _, ⟨_, rfl⟩, q⟩
  | int i t => exact PySem.P.repr_of_int (of_decide_eq_true hs) ⟨.str _, H, I.tok _, ⟨_, rfl⟩, q⟩
  | str x t => exact PySem.P.repr_of_str ⟨.str _, H, I.tok _, ⟨_, rfl⟩, q⟩ hz
  | list h1 h2 h3 h4 =>
    refine repr_of_reads' (.list h1 h2 h3 h4) hs (fun _ hm => ?_) hg (by omega) (fun _ _ e => e) (fun h' u tk hk2 => ⟨.str _, H, I.kept hk2, ⟨_, rfl⟩, q⟩) hz
    obtain ⟨w, hw⟩ := ht _ hm
    exact no_sys I hk hw rfl
  | tuple h1 h2 h3 h4 =>
    refine repr_of_reads' (.tuple h1 h2 h3 h4) hs (fun _ hm => ?_) hg (by omega) (fun _ _ e => e) (fun h' u tk hk2 => ⟨.str _, H, I.kept hk2, ⟨_, rfl⟩, q⟩) hz
    obtain ⟨w, hw⟩ := ht _ hm
    exact no_sys I hk hw rfl
  | dict h1 h2 h3 h4 h5 =>
    refine repr_of_reads' (.dict h1 h2 h3 h4 h5) hs (fun _ hm => ?_) hg (by omega) (fun _ _ e => e) (fun h' u tk hk2 => ⟨.str _, H, I.kept hk2, ⟨_, rfl⟩, q⟩) hz
    obtain ⟨w, hw⟩ := ht _ hm
    exact no_sys I hk hw rfl
end
end Rw
namespace Rw
open PySem PySem.Spec PyProof.Rows L2 PySem.SeqAt

/-! ### enumerate(a tuple) -/
abbrev tupIt (t : Addr) : Obj :=
  { cls := .type "tuple_iterator", data := .fields #[.ref t, .int 0 0] }
abbrev enumOb (i : Addr) : Obj :=
  { cls := .type "enumerate", data := .fields #[.none, .bool false, .ref i, rawInt 0, .none, .none] }
theorem enum_made (t : Addr) (items : Array Value) : Meets (Builtin.«enumerate.__new__» ⟨[.type "enumerate", .ref t], []⟩)
    (fun _ R s => s.heap.IsTuple t items ∧
      R (.ok (.ret (.ref (s.heap.push (tupIt t)).objs.size)))
        { s with heap := (s.heap.push (tupIt t)).push (enumOb s.heap.objs.size) }) := by
  refine .of_wp fun prog w A R s h => ?_
  cases s with
  | mk hp g d tk os =>
  have ht := h.1
  have hR := h.2
  have sub := sub_enumerate
  have begin_ : ∀ {A' : Around} {E : Value → Shared → Prop} {Q : Value → Shared → Prop}, Q (.ref hp.objs.size) ⟨hp.push (tupIt t), g, d, tk, os⟩ →
      wpAny (model prog w) A' (pyIter (.ref t)) Q E ⟨hp, g, d, tk, os⟩ := fun q => wpAny_pyIter_tuple ht q
  wp_walk using begin_
  refine wpAny_stack_any fun st => wpAny_pure ?_
  split
  · rename_i c _ _ _ _ _
    cases (c == Value.type "enumerate") <;> (wp_walk using begin_; exact ⟨_, rfl, hR⟩)
  · wp_walk using begin_
    exact ⟨_, rfl, hR⟩
section
variable {prog : Program} {w : World} {A : Around} {E : Value → Shared → Prop} {s : Shared}
theorem call_enum_tup {t : Addr} {items : Array Value} {Q : Value → Shared → Prop} (ht : s.heap.IsTuple t items)
    (h : ∀ h', IsEnum h' (s.heap.objs.size + 1) s.heap.objs.size 0 .none → h'.IsTupleIter s.heap.objs.size t 0 →
      (∀ b o, s.heap.get? b = some o → h'.get? b = some o) → Q (.ref (s.heap.objs.size + 1)) { s with heap := h' }) :
    wpAny (model prog w) A (call (.type "enumerate") [.ref t]) Q E s := by
  refine callType_new F.called_enumerate (by decide) (F.typeCall_enumerate_1 _) (F.newCall_enumerate_1 _)
    (fun obj => F.args_object_init_2 obj _) F.entry_enumerate_new (enum_made t items) ⟨ht, ?_⟩
  have size1 : (s.heap.push (tupIt t)).objs.size = s.heap.objs.size + 1 := Heap.size_push ..
  show _ ∧ _
  rw [size1]
  have at1 : IsEnum ((s.heap.push (tupIt t)).push (enumOb s.heap.objs.size)) (s.heap.objs.size + 1) s.heap.objs.size 0 .none := by
    rw [← size1]
    exact Heap.get?_push_size (s.heap.push (tupIt t)) (o := enumOb s.heap.objs.size) rfl
  have at0 : ((s.heap.push (tupIt t)).push (enumOb s.heap.objs.size)).IsTupleIter s.heap.objs.size t 0 :=
    ⟨_, Heap.get?_push_of_some _ (Heap.get?_push_size _ rfl), rfl, rfl⟩
  exact ⟨⟨_, at1, rfl⟩, h _ at1 at0 fun b o x => Heap.get?_push_of_some _ (Heap.get?_push_of_some _ x)⟩
end
/-- the tuple at a, each item in a new pair behind its place -/
def Itet (K : PySem.W.Frag) (a : Addr) : It where
  go i H := ∃ (xs : List V) (x : V), SqT K H a xs ∧ xs[i]? = some x
  yld i H v H' := ∃ T x, v = .ref T ∧ H T = none ∧ H' = upd H T (.tup [.int (i : Nat), x]) ∧ ∀ xs, SqT K H a xs → xs[i]? = some x
  stop i H := ∃ xs : List V, SqT K H a xs ∧ xs.length ≤ i
abbrev enSt (a e it : Addr) (i : Nat) (h : Heap) : Prop := (∃ old, IsEnum h e it ((i : Nat) : Int) old) ∧ h.IsTupleIter it a i ∧ e ≠ it ∧ e ≠ a ∧ it ≠ a
theorem turn_enumT {P : Program} {w : World} {K : PySem.W.Frag} {elts : List Expr} {kk : Nat} {tpos : Pos} (a e it : Addr) :
    Turn P w K (.Tuple elts kk tpos) (Itet K a) [e, it] e (enSt a e it) where
  mem := List.mem_cons_self ..
  obj := fun i h st b hb => by
    obtain ⟨⟨old, he⟩, ⟨o, ho, _, hd⟩, _⟩ := st
    simp only [List.mem_cons, List.not_mem_nil, or_false] at hb
    cases hb with
    | inl z => rw [z]; exact ⟨_, he, fun v q => nomatch q⟩
    | inr z => rw [z]; exact ⟨o, ho, fun v q => by rw [hd] at q; cases q⟩
  keep := fun i h h' st k => by
    obtain ⟨⟨old, he⟩, hi, rest⟩ := st
    exact ⟨⟨old, k e (by simp) _ he⟩, hi.at fun o q => k it (by simp) o q, rest⟩
  item := by
    intro X hP hw hK hc i pins s σ H E I hf st hg
    subst hP hw hK
    obtain ⟨⟨old, he⟩, hit, hne, hea, hia⟩ := st
    obtain ⟨xs, x, hq, hx⟩ := hg
    obtain ⟨its, rv, p, _⟩ := I.tuple hq
    obtain ⟨u, hu, ru⟩ := rv.get hx
    have p' : s.heap.IsTuple a its.toArray := p
    have el : e < s.heap.objs.size := Heap.lt_size he
    have il : it < s.heap.objs.size := by
      obtain ⟨_, q, _⟩ := hit
      exact Heap.lt_size q
    have lt : i < its.toArray.size := by
      have q := (List.getElem?_eq_some_iff.mp hu).1
      simpa using q
    have D := Draws.tuple (prog := X.prog) (w := X.w) (A := X.A.in1) (show X.A.in1.handled = none from I.ok.hd hc) it a (Ne.symm hia) its.toArray
    refine wpAny_pyNext_enum_itemD D he ⟨hit, p'⟩ lt hne (by simp [hne, hea]) fun y h' tk hy ho hst hT hsz hk => ?_
    have ey : y = u := by
      have q : its.toArray[i]? = some u := by simpa using hu
      exact Option.some.inj (hy.symm.trans q)
    subst ey
    refine ⟨_, rfl, wpAny_letOwnedTupleGo_enum (s := { s with heap := h', toks := tk + 1 }) ho fun h2 he2 sb => ?_⟩
    have hT2 : h2.get? s.heap.objs.size = some { cls := .type "tuple", data := .seq #[.int i tk, y] } := (sb.2 _ (Nat.ne_of_gt el)).trans hT
    have new : ObjOk X.prog X.w (upd H s.heap.objs.size (.tup [.int (i : Nat), x])) h2 s.heap.objs.size (.tup [.int (i : Nat), x]) := by
      refine ⟨by show 2 ≤ sizeLine; decide, [.int i tk, y], .cons ⟨_, rfl⟩ (.cons ru .nil), ?_⟩
      exact ⟨_, hT2, rfl, _, rfl⟩
    have turned : ∀ b ob, b ∉ [e, it] → s.heap.get? b = some ob → h2.get? b = some ob := fun b ob hb q => by
      have n1 : b ≠ e := fun z => hb (by simp [z])
      have n2 : b ≠ it := fun z => hb (by simp [z])
      exact (sb.2 b n1).trans (hk b ob n1 n2 q)
    have I1 : Inv X pins σ (upd H s.heap.objs.size (.tup [.int (i : Nat), x])) { s with heap := h2, toks := tk + 1 } := I.turnedNew (ch := [e, it]) turned hf (Nat.le_refl _) new
    refine ⟨.ref s.heap.objs.size, _, I1, rfl, ⟨_, x, rfl, I.hok.fresh (Nat.le_refl _), rfl, fun ys hy => ?_⟩, ⟨⟨y, ?_⟩, ?_, hne, hea, hia⟩, fun b hb => ?_⟩
    · rw [I.tuple_inj hy hq]
      exact hx
    · have e1 : ((i + 1 : Nat) : Int) = (i : Int) + 1 := by omega
      rw [e1]
      exact he2
    · exact hst.1.at fun o q => (sb.2 it (Ne.symm hne)).trans q
    · have lo : b < s.heap.objs.size := by
        simp only [List.mem_cons, List.not_mem_nil, or_false] at hb
        cases hb with
        | inl z => rw [z]; exact el
        | inr z => rw [z]; exact il
      rw [upd_ne (Nat.ne_of_lt lo)]
      exact (hf b hb).1
  done := by
    intro X hP hw hK hc i pins s σ H E I hf st hg
    subst hP hw hK
    obtain ⟨⟨old, he⟩, hit, hne, hea, hia⟩ := st
    obtain ⟨xs, hq, hx⟩ := hg
    obtain ⟨its, rv, p, _⟩ := I.tuple hq
    have p' : s.heap.IsTuple a its.toArray := p
    obtain ⟨f0, f1, f2, f3, f4, f5⟩ := hf it (by simp)
    have hl := rv.length
    unfold pyNext
    refine wpAny_bind (wpAny_attempt (wpAny_callSpecial?_slot (name := Str.ofString "__next__") ⟨_, he, rfl⟩ F.slot_enumerate_next ?_))
    refine wpAny_call_entry F.slot_enumerate_next ⟨_, he, rfl⟩ F.entry_enumerate_next ?_ (F.args_enumerate_next_1 _)
    show wpAny _ _ (field (.ref e) 2 >>= _) _ _ _
    refine wpAny_bind (wpAny_field he rfl (x := .ref it) rfl ?_)
    refine wpAny_bind (wpAny_nextOf_tuple_end (I.ok.hd hc) hit p' (by simp; omega) fun h' e2 he' hx' => ?_)
    obtain ⟨o2, ho2, hc2⟩ := hx'
    refine wpAny_bind (wpAny_isInstance (T := "StopIteration") (b := true) ⟨o2, ho2, hc2⟩ isSubtype_stop ?_)
    exact wpAny_pure ⟨rfl, I.turned (t' := s.toks) (fun b o hb q => he' b o hb q) f0 f1 f3 f4 f5⟩
  self := fun A i s Q E st h => by
    obtain ⟨⟨_, he⟩, _⟩ := st
    exact wpAny_pyIter_enum he h
def iEnumT (K : PySem.W.Frag) (ta : TA) : TI := fun σ H R => ta σ H fun vs H1 => ∃ a xs, vs = [.ref a] ∧ SqT K H1 a xs ∧ R (Itet K a) H1
theorem pi_enumT {X : Cx} {e : Expr} {ta : TA} {p pos tpos : Pos} {elts : List Expr} {kk : Nat} (hg : Gl X "enumerate") (hm : X.mg "enumerate" = none) (ha : PA X [e] ta)
    (hs : starEach [e] X.env = [(false, eval e X.env)] := by rfl) : PI X (.Tuple elts kk tpos) (.Call (.Name "enumerate" p) [e] [] pos) (iEnumT X.K ta) := by
  refine ⟨fun pins s σ H R I h => ?_⟩
  refine Call_ (ld_blt I hg hm boot_enumerate (PyProof.Rows.callWith_type1 ?_ hs rfl))
  refine thn (ha.run pos pins s σ H _ I h) fun us s1 ⟨vs, H1, I1, r1, a, xs, ex, hq, q⟩ => ?_
  subst ex
  obtain ⟨u, rfl, r⟩ := vals1 r1
  cases r
  obtain ⟨its, rv, p', hz⟩ := I1.tuple hq
  have p2 : s1.heap.IsTuple a its.toArray := p'
  have al : a < s1.heap.objs.size := by
    obtain ⟨_, q, _⟩ := p2
    exact Heap.lt_size q
  refine call_enum_tup p2 fun h' he hit hk => wpAny_pyIter_enum he ?_
  have I2 : Inv X pins σ H1 { s1 with heap := h' } := I1.kept (t' := s1.toks) hk
  have n1 : s1.heap.objs.size + 1 ≠ a := Nat.ne_of_gt (Nat.lt_succ_of_lt al)
  have n2 : s1.heap.objs.size ≠ a := Nat.ne_of_gt al
  refine ⟨s1.heap.objs.size + 1, [s1.heap.objs.size + 1, s1.heap.objs.size], _, _, H1, rfl, I2, turn_enumT a (s1.heap.objs.size + 1) s1.heap.objs.size, ⟨⟨.none, he⟩, hit, Nat.succ_ne_self _, n1, n2⟩, fun b hb => ?_, q⟩
  have hle : s1.heap.objs.size ≤ b := by
    simp only [List.mem_cons, List.not_mem_nil, or_false] at hb
    cases hb with
    | inl z => rw [z]; exact Nat.le_add_right _ _
    | inr z => rw [z]; exact Nat.le_refl _
  exact I1.fpOk hle (I1.hok.fresh hle)
theorem walk_enumT {K : PySem.W.Frag} {a : Addr} {xs : List V} : Walk (Itet K a) xs.length (fun H => SqT K H a xs) (YPair (fun i => some (.int (i : Nat))) (fun i => xs[i]?)) where
  goes := fun i _ hi q => ⟨xs, xs[i], q, by simp [hi]⟩
  stops := fun _ q => ⟨xs, q, Nat.le_refl _⟩
  yields := fun i H v H' _ q y => by
    obtain ⟨T, x, h1, h2, h3, h4⟩ := y
    exact ⟨T, .int (i : Nat), x, h1, h2, h3, rfl, h4 xs q⟩

/-! ### a def called by names alone -/
section
variable {X : Cx} {CX : CXT} {k : Nat} {f : Addr} {fd : FuncData} {ps ks : List Str} {sp : Sp} {E : XK} {x : Str} {p pos : Pos} {kws : List Keyword} {tk : TA} {g : List Value → List Value → List Value} {gV : List V → List V → List V}
theorem pe_callK0 (F : FnOk X.prog X.w X.K X.mg X.base CX k f fd ps sp) (hr : Room k X.A) (hg : Gl X x) (hm : X.mg x = some (.ref f)) (hk : PySem.W.keepIn X.K (.ref f) = true) (hb : KBinds X.K fd ps ks g gV) (hx : Passes CX X E) (hkw : PK X kws tk)
    (hall : (backToKw pos (keywordEach kws X.env)).all (·.1.isSome) = true := by rfl) (hks : (backToKw pos (keywordEach kws X.env)).filterMap (·.1) = ks := by rfl)
    (hdb : (x == ("__debug__" : Str)) = false := by decide) (hpl : ((backTo pos (starEach [] X.env)).any (·.1) || (backToKw pos (keywordEach kws X.env)).any (·.1.isNone)) = false := by rfl) :
    PE X (.Call (.Name x p) [] kws pos) (tCallK sp gV E tNil tk) := by
  refine ⟨fun pins s σ H Q I h => ?_⟩
  refine wpAny_Call_Name_kw (ld_glob I hg hm ?_ hdb)
  refine PySem.W.callWith_KW0 (h₀ := X.base) I.ok.mod.kin hk hall ?_ hpl
  refine thn (hkw.run pos pins s σ H _ I h) fun ws s2 ⟨zs, H2, I2, rz, q2⟩ => ⟨I2.kIn, ?_⟩
  rw [hks]
  exact run_fnk (vs := []) (us := []) F hr hb hx I2 .nil rz q2
end
end Rw
namespace Rw
open PySem PySem.Spec PyProof.Rows L2 PySem.SeqAt

/-! ### a value of any kind among texts -/
def eqS (d : PyData) (z : Str) : Bool := match d with
  | .str x => z == x
  | _ => false
def eqV2 (d : PyData) (y : Value) : Bool := match y with
  | .str z _ => eqS d z
  | _ => false
theorem strs_any (d : PyData) : ∀ (zs : List Str) (us : List Value), Vals (zs.map V.str) us → us.any (eqV2 d) = zs.any (eqS d)
  | [], _, r => by cases r; rfl
  | z :: zs, _, r => by
    cases r with
    | cons r1 r2 =>
      obtain ⟨t, rfl⟩ := r1
      rw [List.any_cons, List.any_cons, strs_any d zs _ r2]
      rfl
theorem strs_mem : ∀ {zs : List Str} {us : List Value}, Vals (zs.map V.str) us → ∀ y ∈ us, ∃ z t, y = .str z t
  | [], _, r, y, hy => by cases r; cases hy
  | z :: zs, _, r, y, hy => by
    cases r with
    | cons r1 r2 =>
      obtain ⟨t, rfl⟩ := r1
      rcases List.mem_cons.mp hy with e | e
      · exact ⟨z, t, e⟩
      · exact strs_mem r2 y e
theorem str_eqAt {A : Around} {s : Shared} {u : Value} {d : PyData} {as : List Addr} (hu : A.units < cLine) (rd : Reads s.heap u d as) (z : Str) (t : Tok) : EqAt A s (.str z t) u (eqS d z) := by
  cases rd with
  | none => exact EqAt.str_none z t
  | bool b => exact EqAt.str_bool z t b
  | int i k => exact EqAt.str_int z t i k
  | str x k => exact EqAt.str_str z t x k
  | list h1 h2 h3 h4 => exact EqAt.str_list z t ⟨_, h1, h2, _, h3⟩ hu
  | tuple h1 h2 h3 h4 => exact EqAt.str_tuple z t ⟨_, h1, h2, _, h3⟩ hu
  | dict h1 h2 h3 h4 h5 => exact eq_str_dict z t h1 h2 h3 hu
section
variable {X : Cx}
def rInS (K : PySem.W.Frag) (neg : Bool) : R2 := fun x y H Q => ∃ (av : Addr → Prop) (d : PyData) (p : Addr) (zs : List Str), Rp av H x d ∧ y = .ref p ∧ SqT K H p (zs.map V.str) ∧ Q (.bl (neg != zs.any (eqS d))) H
theorem op_inS (hu : X.A.units + 1 < cLine) : OpR X (compareOp .In) (rInS X.K false) := by
  intro pins s σ H x y v u Q I rx ry h
  obtain ⟨av, d, p, zs, hd, rfl, ht, q⟩ := h
  cases ry
  obtain ⟨as, rd, _⟩ := hd.reads I d x v rx
  obtain ⟨its, rv, ht2, _⟩ := I.tuple ht
  refine in_tupleAt (eqV2 d) ht2 (fun y hy => ?_) ?_
  · obtain ⟨z, t, rfl⟩ := strs_mem rv y (by simpa using hy)
    exact str_eqAt hu rd z t
  · refine ⟨.bl _, H, I, rfl, ?_⟩
    rw [← Array.any_toList, strs_any d zs its rv]
    simpa using q
theorem op_notInS (hu : X.A.units + 1 < cLine) : OpR X (compareOp .NotIn) (rInS X.K true) := by
  intro pins s σ H x y v u Q I rx ry h
  obtain ⟨av, d, p, zs, hd, rfl, ht, q⟩ := h
  cases ry
  obtain ⟨as, rd, _⟩ := hd.reads I d x v rx
  obtain ⟨its, rv, ht2, _⟩ := I.tuple ht
  refine notIn_tupleAt (eqV2 d) ht2 (fun y hy => ?_) ?_
  · obtain ⟨z, t, rfl⟩ := strs_mem rv y (by simpa using hy)
    exact str_eqAt hu rd z t
  · refine ⟨.bl _, H, I, rfl, ?_⟩
    rw [← Array.any_toList, strs_any d zs its rv]
    simpa using q
/-- t == () -/
def rEqNil (K : PySem.W.Frag) : R2 := fun x y H Q => ∃ (a b : Addr) (xs : List V), x = .ref a ∧ y = .ref b ∧ SqT K H a xs ∧ SqT K H b [] ∧ Q (.bl (decide (xs = []))) H
theorem op_eqNil (hu : X.A.units < cLine) : OpR X (compareOp .Eq) (rEqNil X.K) := by
  intro pins s σ H x y v u Q I rx ry h
  obtain ⟨a, b, xs, rfl, rfl, ha, hb, q⟩ := h
  cases rx
  cases ry
  obtain ⟨its, rv, h1, _⟩ := I.tuple ha
  obtain ⟨its2, rv2, h2, _⟩ := I.tuple hb
  cases rv2
  refine eq_tupleAt (e := fun _ => false) h1 h2 hu (fun j k1 k2 => absurd k2 (by simp)) ⟨.bl _, H, I, rfl, ?_⟩
  have e : ((List.range (min its.toArray.size ([] : List Value).toArray.size)).all (fun _ => false) && its.toArray.size == ([] : List Value).toArray.size) = decide (xs = []) := by
    have l := rv.length
    cases xs with
    | nil =>
      cases its with
      | nil => simp
      | cons _ _ => simp at l
    | cons _ _ =>
      cases its with
      | nil => simp at l
      | cons _ _ => simp
  rw [e]
  exact q
end

/-! ### isinstance of data -/
def clsOf : PyData → String
  | .none => "NoneType"
  | .bool _ => "bool"
  | .int _ => "int"
  | .str _ => "str"
  | .list _ => "list"
  | .tuple _ => "tuple"
  | .dict _ => "dict"
theorem Rp.ty {K : PySem.W.Frag} {av : Addr → Prop} {H : Hp} {v : V} {d : PyData} (h : Rp av H v d) : TyX K H v (.type (clsOf d)) := by
  cases h with
  | non => exact .base .non
  | bl b => exact .base (.bl b)
  | int i => exact .base (.int i)
  | str x => exact .base (.str x)
  | lst _ h _ => exact .base (.lst h)
  | tup _ h _ => exact .base (.tup h)
  | dct _ h _ => exact .base (.dK h)
def isC (n c : String) : Bool := c == n || (c == "bool" && n == "int")
def isT (n : String) (d : PyData) : Bool := isC n (clsOf d)
def clsAll : List String := ["NoneType", "bool", "int", "str", "list", "tuple", "dict"]
theorem clsOf_mem (d : PyData) : clsOf d ∈ clsAll := by
  cases d <;> simp [clsOf, clsAll]
theorem kit_all : ∀ c ∈ clsAll, ∀ n ∈ ["tuple", "int", "bool", "str", "list"], kitB c n = some (isC n c) := by decide +kernel
theorem kit_isT {K : PySem.W.Frag} (d : PyData) (n : String) (hn : n ∈ ["tuple", "int", "bool", "str", "list"]) : PySem.W.kitOne K (.type (clsOf d)) (.type n) = some (isT n d) :=
  kit_ty (kit_all _ (clsOf_mem d) n hn)
section
variable {X : Cx}
def rIsD (K : PySem.W.Frag) (n : String) : List V → Hp → VK → Prop := fun xs H Q => ∃ (av : Addr → Prop) (x : V) (d : PyData), xs = [x, .ty n] ∧ Rp av H x d ∧ Q (.bl (isT n d)) H
theorem call_isD {n : String} (hn : n ∈ ["tuple", "int", "bool", "str", "list"]) : CallR X (.builtin "isinstance") (rIsD X.K n) := by
  intro pins s σ H xs us Q I r h
  obtain ⟨av, x, d, rfl, hd, q⟩ := h
  exact call_isi pins s σ H _ us Q I r ⟨x, .ty n, _, _, _, rfl, .ty n, hd.ty, kit_isT d n hn, q⟩
end
end Rw
namespace Rw
open PySem L2
def top (i : Nat) : Stmt := PySem.Challenge.pw_roomways_k03_what_doors_are.main.body.getD i (.Pass ⟨0, 0, 0, 0⟩)
abbrev sDeck : Stmt := top 13
abbrev sDraw : Stmt := top 14
abbrev sPick : Stmt := top 15

/-! ### the deck -/
def deckKV (gl : Addr) (sd tn : Int) : List (Key × V) := [(.inr "great", .ref gl), (.inr "seal", .int sd), (.inr "turn", .int tn)]
structure DeckAt (dk gl : Addr) (H : Hp) : Prop where
  ex : ∃ (great : List Int) (sd tn : Int), H dk = some (.dK (deckKV gl sd tn)) ∧ H gl = some (.lst (great.map V.int)) ∧ great.length ≤ 63
/-- the places of a deck -/
def avD (dk gl : Addr) : Addr → Prop := fun b => b = dk ∨ b = gl
theorem k_gs : ¬ (Sum.inr ("great" : Str) : Key) = Sum.inr ("seal" : Str) := by decide +kernel
theorem k_gt : ¬ (Sum.inr ("great" : Str) : Key) = Sum.inr ("turn" : Str) := by decide +kernel
theorem k_st : ¬ (Sum.inr ("seal" : Str) : Key) = Sum.inr ("turn" : Str) := by decide +kernel
theorem deck_great (gl : Addr) (s t : Int) : valV (deckKV gl s t) (Sum.inr ("great" : Str)) = some (.ref gl) := valV_pos rfl
theorem deck_seal (gl : Addr) (s t : Int) : valV (deckKV gl s t) (Sum.inr ("seal" : Str)) = some (.int s) := by
  unfold deckKV
  rw [valV_neg k_gs, valV_pos rfl]
theorem deck_turn (gl : Addr) (s t : Int) : valV (deckKV gl s t) (Sum.inr ("turn" : Str)) = some (.int t) := by
  unfold deckKV
  rw [valV_neg k_gt, valV_neg k_st, valV_pos rfl]
theorem deck_put (gl : Addr) (s t u : Int) : putK (deckKV gl s t) (Sum.inr ("turn" : Str)) (.int u) = deckKV gl s u := by
  unfold putK
  rw [valV_any, deck_turn, if_pos (show (some (V.int t)).isSome = true from rfl)]
  unfold deckKV
  simp only [List.map_cons, List.map_nil, if_neg k_gt, if_neg k_st]
  rfl
theorem deck_merge (gl : Addr) (s t : Int) : mergeK [] (deckKV gl s t) = deckKV gl s t := by
  have n1 : ¬ (Sum.inr ("seal" : Str) : Key) = Sum.inr ("great" : Str) := fun e => k_gs e.symm
  have n2 : ¬ (Sum.inr ("turn" : Str) : Key) = Sum.inr ("great" : Str) := fun e => k_gt e.symm
  have n3 : ¬ (Sum.inr ("turn" : Str) : Key) = Sum.inr ("seal" : Str) := fun e => k_st e.symm
  unfold mergeK deckKV
  simp only [List.foldl_cons, List.foldl_nil, putK, List.any_nil, List.any_cons, List.nil_append, List.cons_append, decide_eq_false k_gs, decide_eq_false k_gt, decide_eq_false k_st, Bool.or_false, Bool.false_eq_true, if_false]
theorem DeckAt.ne {dk gl : Addr} {H : Hp} (h : DeckAt dk gl H) : dk ≠ gl := by
  obtain ⟨_, _, _, h1, h2, _⟩ := h.ex
  exact ne_of h1 h2 (by intro q; cases q)
theorem DeckAt.same {dk gl : Addr} {H H' : Hp} (h : DeckAt dk gl H) (e : Same H H') : DeckAt dk gl H' := by
  obtain ⟨g, s, t, h1, h2, h3⟩ := h.ex
  exact ⟨g, s, t, e _ _ h1, e _ _ h2, h3⟩
theorem DeckAt.new {dk gl : Addr} {H : Hp} (h : DeckAt dk gl H) {p : Addr} (n : H p = none) : ¬ avD dk gl p := by
  obtain ⟨g, s, t, h1, h2, _⟩ := h.ex
  rintro (e | e)
  · rw [e, h1] at n
    cases n
  · rw [e, h2] at n
    cases n

/-- the built-in names that are used stand for themselves -/
structure Blt (mg : Str → Option Value) : Prop where
  abs : mg "abs" = none
  int : mg "int" = none
  bool : mg "bool" = none
  str : mg "str" = none
  len : mg "len" = none
  isi : mg "isinstance" = none
  enu : mg "enumerate" = none
  rng : mg "range" = none
  list : mg "list" = none
  tup : mg "tuple" = none
  repr : mg "repr" = none

def spDeck (K : PySem.W.Frag) : Sp := fun vs H Q _ => ∃ (a : Addr) (ns : List Int), vs = [.ref a] ∧ SqL K H a (ns.map V.int) ∧ ns.length ≤ 63 ∧ ∀ (dk gl : Addr) (H' : Hp), Same H H' → DeckAt dk gl H' → Q (.ref dk) H'
def spDraw : Sp := fun vs H Q _ => ∃ (dk gl : Addr) (many : Int), vs = [.ref dk, .int many] ∧ DeckAt dk gl H ∧ many < 1000000 ∧ ∀ (r : Int) (H' : Hp), Ext (avD dk gl) H H' → DeckAt dk gl H' → 0 ≤ r → (r < many ∨ (r = 0 ∧ many < 2)) → Q (.int r) H'

section
variable {P : Program} {w : World} {K : PySem.W.Frag} {mg : Str → Option Value} {base : Heap}
theorem scDeck : FnScope ["script", "cells", "seal", "cell", "own"] ["script"] (defScope sDeck) := ⟨rfl, rfl, rfl, by decide +kernel, rfl, by decide +kernel, by decide +kernel⟩
theorem mem_ints {ns : List Int} {i : Nat} {x : V} (h : (ns.map V.int)[i]? = some x) : ∃ n, ns[i]? = some n ∧ x = .int n := by
  rw [List.getElem?_map] at h
  cases e : ns[i]? with
  | none =>
    rw [e] at h
    cases h
  | some n =>
    rw [e] at h
    exact ⟨n, rfl, (Option.some.inj h).symm⟩
theorem sz {n : Nat} (h : n ≤ 100000) : n ≤ sizeLine := Nat.le_trans h (by decide)
theorem szlt {n : Nat} (h : n ≤ 100000) : n < sizeLine := Nat.lt_of_le_of_lt h (by decide)
theorem cut_ints (ns : List Int) (lo hi : Option Int) : cutV (ns.map V.int) lo hi = ((ns.drop (HT.sIx (ns.map V.int).length 0 lo)).take (HT.sIx (ns.map V.int).length (ns.map V.int).length hi - HT.sIx (ns.map V.int).length 0 lo)).map V.int := by
  unfold cutV
  rw [List.map_take, List.map_drop]
theorem cut_ints_ex (ns : List Int) (lo hi : Option Int) : ∃ ms : List Int, cutV (ns.map V.int) lo hi = ms.map V.int ∧ ms.length ≤ ns.length := by
  refine ⟨_, cut_ints ns lo hi, ?_⟩
  rw [List.length_take, List.length_drop]
  omega
theorem snoc_ints {H : Hp} {D : Addr} {cs : List Int} {z : Int} {n : Nat} (h : cs.length ≤ n) : ∃ es : List Int, upd H D (.lst (cs.map V.int ++ [V.int z])) D = some (.lst (es.map V.int)) ∧ es.length ≤ n + 1 := by
  refine ⟨cs ++ [z], ?_, ?_⟩
  · rw [upd_same, List.map_append]
    rfl
  · rw [List.length_append, List.length_singleton]
    omega
theorem same_upd {H0 H : Hp} {D : Addr} (h : Same H0 H) (hD : H0 D = none) (o : HO) : Same H0 (upd H D o) := fun b u e => by
  rw [upd_ne (ne_of_none e hD)]
  exact h _ _ e
theorem ok_deck {f : Addr} {fd : FuncData} (F : Fun K "_law_deck" "_law_deck" sDeck f fd) (B : Blt mg) : FnOk P w K mg base CX0 1 f fd ["script"] (spDeck K) := by
  refine F.ok scDeck (fun vs H Q E h => ?_) (fun cdv A outer s H vs Q E hr h => ?_)
  · obtain ⟨a, ns, rfl, _⟩ := h
    rfl
  obtain ⟨a, ns, rfl, hS, hlen, q⟩ := h
  have nd := scDeck.nd
  refine ⟨_, pss_cons (ps_par (i := 1) (j := 2) (by rfl) nd rfl rfl (by decide) rfl rfl (pa_cons
      (pe_lc (own := [("own", 4)]) (g := gName 4) (tt := tYes) rfl nd (pi_list (pe_slice sl_list (pv 0) po_none (po_some pe_int))) (blkOk_by (N := ["script", "cells", "seal", "cell", "own"]) (sc := defScope sDeck) (by decide +kernel))
        (fun _ _ _ _ _ => pg_name (i := 4) nd rfl (Or.inl rfl)) (fun _ _ _ _ _ => pts_nil)
        (fun _ _ _ _ _ => pe_op op_add (pe_op op_mul pe_int (pe_callB call_abs (by rfl) B.abs (by decide +kernel) (pa_cons (pv 4) pa_nil))) (pe_callTy call_int1 (by rfl) B.int (by decide +kernel) (pa_cons (pe_cmpR op_lt (pv 4) pe_int (nomark _)) pa_nil))))
      (pa_cons (pe_op op_add pe_int (pe_op op_mul pe_int (pe_callB call_len_seq (by rfl) B.len PySem.boot_len (pa_cons (pv 0) pa_nil)))) pa_nil)) (by rfl))
    (pss_cons (ps_for PassesOwn.never rfl (pi_list (pv 1)) (pg_name (i := 3) nd rfl (Or.inl rfl))
      (pss_one (ps_set (i := 2) nd rfl (Or.inl rfl) (pe_op op_mod (pe_callTy call_int1 (by rfl) B.int (by decide +kernel) (pa_cons (pe_op op_add (pe_op op_add (pe_op op_mul (pv 2) pe_int) (pv 3)) pe_int) pa_nil)) pe_int))))
    (pss_one (ps_ret (pe_disp (pps_cons pe_str (pe_revL (pe_lc (own := [("cell", 3)]) (g := gName 3) (tt := _) rfl nd (pi_list (pv 1)) (blkOk_by (N := ["script", "cells", "seal", "cell", "own"]) (sc := defScope sDeck) (by decide +kernel))
        (fun _ _ _ _ _ => pg_name (i := 3) nd rfl (Or.inl rfl)) (fun _ _ _ _ _ => pts_one (pt_cmpR op_ge (pv 3) (pe_op op_pow pe_int pe_int) (nomark _))) (fun _ _ _ _ _ => pv 3)))
      (pps_cons pe_str (pv 2) (pps_cons pe_str pe_int pps_nil))) (by rfl) (by rfl) (fun z => by cases z) (by decide))))), ?_⟩
  obtain ⟨ms, ecut, lcut⟩ := cut_ints_ex ns none (some 63)
  -- cells
  refine ⟨_, rfl, 63, rfl, a, _, rfl, hS, fun p hp => ⟨p, rfl, ⟨_, SqL.of upd_same⟩, fun D hD => ?_⟩⟩
  rw [ecut] at hD ⊢
  have s1 : Same H (upd H p (.lst (ms.map V.int))) := same_new hp _
  have hD0 : H D = none := s1.free hD
  refine lc_list (K := K) (a := p) (xs := ms.map V.int) (fun i H' => Same (upd H p (.lst (ms.map V.int))) H' ∧ ∃ cs : List Int, H' D = some (.lst (cs.map V.int)) ∧ cs.length ≤ i) ?_ ?_ ?_ ?_
  · exact ⟨same_new hD _, [], upd_same, Nat.le_refl _⟩
  · rintro i H' _ ⟨e, _⟩
    exact SqL.of (e _ _ upd_same)
  · rintro i x H' hi ⟨e, cs, hcs, lcs⟩
    obtain ⟨n, hn, rfl⟩ := mem_ints hi
    have hi2 : i < ms.length := (List.getElem?_eq_some_iff.mp hn).1
    refine ⟨rfl, ?_⟩
    -- kept
    refine iteT (B := True) ?_
    refine ⟨_, rfl, n, rfl, _, _, rfl, rfl, .inl ⟨by decide, by decide⟩, _, rfl, _, _, rfl, rfl, .inr ⟨_, rfl, _, _, rfl, rfl, _, hcs, szlt (by rw [List.length_map]; omega), ?_⟩⟩
    exact ⟨same_upd e hD _, snoc_ints lcs⟩
  rintro H1 ⟨e1, cs, hcs, lcs⟩
  rw [List.length_map] at lcs
  have e01 : Same H H1 := s1.trans e1
  refine ⟨_, rfl, a, _, rfl, .inl (e01.seq hS), _, _, rfl, rfl, .inl ⟨by decide, by decide⟩, _, _, rfl, rfl, _, _, rfl, ?_⟩
  -- the loop
  refine ⟨_, rfl, D, rfl, ⟨_, SqL.of hcs⟩, for_list (K := K) (a := D) (xs := cs.map V.int) (fun i σ H' => H' = H1 ∧ ∃ (z : Int) (v : Option V), σ = [some (.ref a), some (.ref D), some (.int z), v, none]) ⟨rfl, _, _, rfl⟩ (fun i σ H' _ ⟨e, _⟩ => by rw [e]; exact SqL.of hcs) ?_ ?_⟩
  · rintro i x σ H' hi ⟨rfl, z, v, rfl⟩
    obtain ⟨n, hn, rfl⟩ := mem_ints hi
    refine ⟨_, rfl, _, _, rfl, rfl, .inr ⟨by decide, by decide⟩, _, rfl, _, _, rfl, rfl, _, _, rfl, rfl, .inl ⟨_, rfl, _, _, rfl, rfl, (by show (0 : Int) < 4294967291; decide), rfl, _, _, rfl⟩⟩
  · rintro σ H' ⟨rfl, z, v, rfl⟩
    -- the dict
    intro dk hdk
    have e02 : Same H (upd H' dk (.dK [])) := e01.trans (same_new hdk _)
    refine ⟨_, rfl, D, rfl, ⟨_, SqL.of (same_new hdk _ _ _ hcs)⟩, fun L hL => ?_⟩
    have hD2 := same_new hdk (.dK []) _ _ hcs
    have e03 : Same H (upd (upd H' dk (.dK [])) L (.lst [])) := e02.trans (same_new hL _)
    refine lc_list (K := K) (a := D) (xs := cs.map V.int) (fun i H2 => Same (upd H' dk (.dK [])) H2 ∧ ∃ gs : List Int, H2 L = some (.lst (gs.map V.int)) ∧ gs.length ≤ i) ?_ ?_ ?_ ?_
    · exact ⟨same_new hL _, [], upd_same, Nat.le_refl _⟩
    · rintro i H2 _ ⟨e, _⟩
      exact SqL.of (e _ _ hD2)
    · rintro i x H2 hi ⟨e, gs, hgs, lgs⟩
      obtain ⟨n, hn, rfl⟩ := mem_ints hi
      have hi2 : i < cs.length := (List.getElem?_eq_some_iff.mp hn).1
      refine ⟨rfl, ?_⟩
      refine ⟨_, rfl, 10, 18, rfl, rfl, ⟨by decide, by decide, by decide⟩, _, _, rfl, rfl, _, rfl, ?_⟩
      refine ite2 (fun _ => ?_) (fun _ => ?_)
      · exact ⟨_, rfl, _, hgs, szlt (by rw [List.length_map]; omega), same_upd e hL _, snoc_ints lgs⟩
      · exact ⟨e, gs, hgs, by omega⟩
    rintro H3 ⟨e3, gs, hgs, lgs⟩
    rw [List.length_map] at lgs
    refine ⟨L, _, rfl, SqL.of hgs, fun G hG => ?_⟩
    have e04 : Same H3 (upd H3 G (.lst (gs.map V.int).reverse)) := same_new hG _
    have hdk0 : H' dk = none := hdk
    refine ⟨_, rfl, e04 _ _ (e3 _ _ upd_same), deckKV G z 0, rfl, (by show 3 ≤ 15; decide), ?_⟩
    have dG : dk ≠ G := ne_of_none (e3 _ _ upd_same) hG
    refine q dk G _ (fun b o e => ?_) ⟨gs.reverse, z, 0, ?_, ?_, ?_⟩
    · have ne : b ≠ dk := ne_of_none (e01 _ _ e) hdk0
      rw [upd_ne ne]
      exact e04 _ _ (e3 _ _ (e02 _ _ e))
    · rw [upd_same, deck_merge]
    · rw [upd_ne dG.symm, upd_same, List.map_reverse]
    · rw [List.length_reverse]
      omega
end
end Rw
namespace Rw
open PySem L2
theorem dget_of {H : Hp} {a : Addr} {kvs : List (Key × V)} {k : Key} {v : V} (h : H a = some (.dK kvs)) (e : valV kvs k = some v) : DGet H a (kV k) (some v) := by
  rw [← e]
  exact DGet.k h
theorem dp_ints {K : PySem.W.Frag} {H : Hp} : ∀ ns : List Int, DpAll K H (ns.map V.int) (ns.map PyData.int)
  | [] => .nil
  | n :: r => .cons (.int n) (dp_ints r)
theorem lay_ints : ∀ ns : List Int, PyData.canLayAll0 (ns.map PyData.int) = true
  | [] => rfl
  | n :: r => by
    rw [List.map_cons]
    simp only [PyData.canLayAll0, PyData.canLay0, lay_ints r, Bool.and_self]
theorem depth_ints : ∀ ns : List Int, PyData.depthAll (ns.map PyData.int) = 0
  | [] => rfl
  | n :: r => by
    rw [List.map_cons]
    simp only [PyData.depthAll, PyData.depth, depth_ints r, Nat.max_self]
theorem shaped_ints (ns : List Int) : SeqAt.shaped (.list (ns.map PyData.int)) = true := by
  show (PyData.canLay0 (.list (ns.map PyData.int)) && decide (PyData.depth (.list (ns.map PyData.int)) ≤ 64)) = true
  rw [Bool.and_eq_true]
  refine ⟨lay_ints ns, decide_eq_true ?_⟩
  simp only [PyData.depth, depth_ints]
  omega
theorem eqv_ints : ∀ ns ms : List Int, PyData.eqv (.list (ns.map PyData.int)) (.list (ms.map PyData.int)) = decide (ns = ms) := by
  have all : ∀ ns ms : List Int, PyData.eqvAll (ns.map PyData.int) (ms.map PyData.int) = decide (ns = ms) := by
    intro ns
    induction ns with
    | nil =>
      intro ms
      cases ms with
      | nil => rfl
      | cons m r => rfl
    | cons n r ih =>
      intro ms
      cases ms with
      | nil => rfl
      | cons m t =>
        rw [List.map_cons, List.map_cons, PyData.eqvAll, ih t, PyData.eqv]
        by_cases e1 : n = m
        · subst e1
          simp
        · simp [e1]
  intro ns ms
  rw [PyData.eqv]
  exact all ns ms
theorem last_ints {g : List Int} (h : g ≠ []) : ∃ c : Int, (g.map V.int)[(g.map V.int).length - 1]? = some (.int c) ∧ (g.map V.int).dropLast = (g.dropLast).map V.int := by
  have hl : g.length - 1 < g.length := by
    have := List.length_pos_iff.mpr h
    omega
  refine ⟨g[g.length - 1], ?_, ?_⟩
  · rw [List.length_map, List.getElem?_map, List.getElem?_eq_getElem hl]
    rfl
  · rw [List.map_dropLast]
section
variable {P : Program} {w : World} {K : PySem.W.Frag} {mg : Str → Option Value} {base : Heap}
theorem scDraw : FnScope ["deck", "many", "cell", "one", "two"] ["deck", "many"] (defScope sDraw) := ⟨rfl, rfl, rfl, by decide +kernel, rfl, by decide +kernel, by decide +kernel⟩
theorem ok_draw {f : Addr} {fd : FuncData} (F : Fun K "_law_draw" "_law_draw" sDraw f fd) (B : Blt mg) : FnOk P w K mg base CX0 1 f fd ["deck", "many"] spDraw := by
  refine F.ok scDraw (fun vs H Q E h => ?_) (fun cdv A outer s H vs Q E hr h => ?_)
  · obtain ⟨_, _, _, rfl, _⟩ := h
    rfl
  obtain ⟨dk, gl, many, rfl, hD, hmany, q⟩ := h
  have nd := scDraw.nd
  have hu := hu_of hr
  have hu64 : (A.deeper (PyProof.Rows.envOfC "_law_draw" (defScope sDraw) s.heap.objs.size f cdv)).units + 64 < cLine := by
    have := hr.un
    omega
  refine ⟨_, pss_cons (ps_if (pt_cmpR op_lt (pv 1) pe_int (nomark _)) (pss_one (ps_ret pe_int)) pss_nil)
    (pss_cons (ps_if (pt_cmpR (op_neD hu64) (pe_dget hu (pv 0) pe_str (fun _ _ => rfl)) (pe_lst pa_nil) (nomark _))
      (pss_cons (ps_set (i := 2) nd rfl (Or.inl rfl) (pe_bm0 PySem.F.plainAttrs_list PySem.F.slot_list_pop PySem.F.type_list_pop mt_pop (pe_dget hu (pv 0) pe_str (fun _ _ => rfl))))
      (pss_cons (ps_if (pt_cmpR op_ge (pv 2) (pv 1) (nomark _)) (pss_one (ps_expr (pe_bm PySem.F.plainAttrs_list PySem.F.slot_list_append PySem.F.type_list_append mt_append (pe_dget hu (pv 0) pe_str (fun _ _ => rfl)) (pa_cons (pe_op op_fdivN (pv 2) (pv 1)) pa_nil)))) pss_nil)
      (pss_one (ps_ret (pe_op op_modN (pe_callTy call_int1 (by rfl) B.int (by decide +kernel) (pa_cons (pv 2) pa_nil)) (pv 1)))))) pss_nil)
    (pss_cons (ps_dput hu (pv 0) pe_str (pe_op op_add (pe_dget hu (pv 0) pe_str (fun _ _ => rfl)) pe_int) rfl)
    (pss_cons (ps_set (i := 3) nd rfl (Or.inl rfl) (pe_op op_mod (pe_callTy call_int1 (by rfl) B.int (by decide +kernel) (pa_cons (pe_op op_add (pe_dget hu (pv 0) pe_str (fun _ _ => rfl)) (pe_op op_mul (pe_dget hu (pv 0) pe_str (fun _ _ => rfl)) pe_int)) pa_nil)) pe_int))
    (pss_cons (ps_set (i := 4) nd rfl (Or.inl rfl) (pe_op op_mod (pe_callTy call_int1 (by rfl) B.int (by decide +kernel) (pa_cons (pe_op op_add (pe_op op_add (pe_op op_mul (pv 3) (pv 3)) (pe_op op_mul (pe_dget hu (pv 0) pe_str (fun _ _ => rfl)) pe_int)) pe_int) pa_nil)) pe_int))
    (pss_one (ps_ret (pe_op op_modN (pe_callTy call_int1 (by rfl) B.int (by decide +kernel) (pa_cons (pe_op op_fdiv (pe_op op_mod (pe_callTy call_int1 (by rfl) B.int (by decide +kernel) (pa_cons (pe_op op_add (pe_op op_mul (pv 4) (pv 4)) (pv 3)) pa_nil)) pe_int) pe_int) pa_nil)) (pv 1)))))))), ?_⟩
  obtain ⟨great, sd, tn, h1, h2, h3⟩ := hD.ex
  have gk : ∀ {H' : Hp}, H' dk = some (.dK (deckKV gl sd tn)) → DGet H' dk (kV (Sum.inr "great")) (some (.ref gl)) := fun e => dget_of e (deck_great _ _ _)
  refine ⟨_, rfl, _, _, rfl, rfl, _, rfl, ?_⟩
  refine ite2 (fun c => ?_) (fun c => ?_)
  · exact q 0 H Ext.refl hD (Int.le_refl 0) (.inr ⟨rfl, of_decide_eq_true c⟩)
  have hm : 2 ≤ many := by
    have c2 := of_decide_eq_false (Bool.eq_false_iff.mpr c)
    omega
  refine ⟨_, rfl, dk, _, rfl, gk h1, Nat.zero_le _, fun l hl => ?_⟩
  have s1 : Same H (upd H l (.lst [])) := same_new hl _
  have hl2 : upd H l (.lst []) l = some (.lst []) := upd_same
  refine ⟨.list (great.map PyData.int), .list (([] : List Int).map PyData.int), .lst (SqL.of (s1 _ _ h2)) (dp_ints great), .lst (SqL.of upd_same) .nil, shaped_ints great, shaped_ints [], _, rfl, ?_⟩
  rw [eqv_ints]
  have f1 := s1 _ _ h1
  have f2 := s1 _ _ h2
  have D1 : DeckAt dk gl (upd H l (.lst [])) := hD.same s1
  have E1 : Ext (avD dk gl) H (upd H l (.lst [])) := Ext.of_same s1
  generalize upd H l (.lst []) = H1 at f1 f2 D1 E1
  refine ite2 (fun c => ?_) (fun c => ?_)
  · have hg : great ≠ [] := by simpa using c
    obtain ⟨cell, hc, hdl⟩ := last_ints hg
    have ng := D1.ne
    refine ⟨_, rfl, dk, _, rfl, gk f1, .inl ⟨rfl, _, SqL.of f2⟩, gl, _, _, rfl, rfl, f2, hc, ?_⟩
    rw [hdl]
    have f3 : upd H1 gl (.lst (great.dropLast.map V.int)) dk = some (.dK (deckKV gl sd tn)) := by
      rw [upd_ne ng]
      exact f1
    have l3 : great.dropLast.length ≤ 62 := by
      rw [List.length_dropLast]
      omega
    have E2 : Ext (avD dk gl) H (upd H1 gl (.lst (great.dropLast.map V.int))) := E1.trans (Ext.put (.inr rfl) _)
    have D2 : DeckAt dk gl (upd H1 gl (.lst (great.dropLast.map V.int))) := ⟨_, _, _, f3, upd_same, by omega⟩
    have f4 : upd H1 gl (.lst (great.dropLast.map V.int)) gl = some (.lst (great.dropLast.map V.int)) := upd_same
    generalize upd H1 gl (.lst (great.dropLast.map V.int)) = H2 at f3 f4 E2 D2
    have fin : ∀ H3, Ext (avD dk gl) H H3 → DeckAt dk gl H3 → Q (.int (cell.fmod many)) H3 := fun H3 e d => by
      have p0 : 0 ≤ cell.fmod many := Int.fmod_nonneg_of_pos cell (by omega)
      have p1 : cell.fmod many < many := Int.fmod_lt_of_pos cell (by omega)
      exact q _ H3 e d p0 (.inl p1)
    refine ⟨_, rfl, _, rfl, _, _, rfl, rfl, _, rfl, ?_⟩
    refine ite2 (fun _ => ?_) (fun _ => ?_)
    · refine ⟨_, rfl, dk, _, rfl, gk f3, .inl ⟨rfl, _, SqL.of f4⟩, _, rfl, _, rfl, _, _, rfl, rfl, ⟨by omega, by omega⟩, gl, _, _, rfl, rfl, f4, szlt (by rw [List.length_map]; omega), ?_⟩
      refine ⟨_, rfl, .inl ⟨_, rfl, _, rfl, _, _, rfl, rfl, by omega, ?_⟩⟩
      refine fin _ (E2.trans (Ext.put (.inr rfl) _)) ⟨great.dropLast ++ [cell.fdiv many], sd, tn, ?_, ?_, ?_⟩
      · rw [upd_ne ng]
        exact f3
      · rw [upd_same, List.map_append]
        rfl
      · rw [List.length_append, List.length_singleton]
        omega
    · exact ⟨_, rfl, .inl ⟨_, rfl, _, rfl, _, _, rfl, rfl, by omega, fin _ E2 D2⟩⟩
  · -- the second way: a mixed number
    have ng := D1.ne
    have gt : ∀ {H' : Hp} {z : Int}, H' dk = some (.dK (deckKV gl sd z)) → DGet H' dk (kV (Sum.inr "turn")) (some (.int z)) := fun e => dget_of e (deck_turn _ _ _)
    have gs : ∀ {H' : Hp} {z : Int}, H' dk = some (.dK (deckKV gl sd z)) → DGet H' dk (kV (Sum.inr "seal")) (some (.int sd)) := fun e => dget_of e (deck_seal _ _ _)
    have put : DPut H1 dk (kV (Sum.inr "turn")) (.int (tn + 1)) (upd H1 dk (.dK (deckKV gl sd (tn + 1)))) := by
      have p := DPut.k (k := Sum.inr "turn") (v := .int (tn + 1)) f1 (by show 3 < sizeLine; decide)
      rw [deck_put] at p
      exact p
    refine ⟨_, rfl, dk, _, rfl, gt f1, _, _, rfl, rfl, _, rfl, dk, _, rfl, put, ?_⟩
    have f3 : upd H1 dk (.dK (deckKV gl sd (tn + 1))) dk = some (.dK (deckKV gl sd (tn + 1))) := upd_same
    have f4 : upd H1 dk (.dK (deckKV gl sd (tn + 1))) gl = some (.lst (great.map V.int)) := by
      rw [upd_ne ng.symm]
      exact f2
    have E2 : Ext (avD dk gl) H (upd H1 dk (.dK (deckKV gl sd (tn + 1)))) := E1.trans (Ext.put (.inl rfl) _)
    generalize upd H1 dk (.dK (deckKV gl sd (tn + 1))) = H2 at f3 f4 E2
    have D2 : DeckAt dk gl H2 := ⟨great, sd, tn + 1, f3, f4, h3⟩
    have b1 : ∀ z : Int, -(2 ^ 64) < z % 4294967291 ∧ z % 4294967291 < 2 ^ 64 := fun z => by
      have k1 := Int.emod_nonneg z (b := 4294967291) (by decide)
      have k2 := Int.emod_lt_of_pos z (b := 4294967291) (by decide)
      omega
    have b2 : ∀ z : Int, -(2 ^ 64) < z % 4294967279 ∧ z % 4294967279 < 2 ^ 64 := fun z => by
      have k1 := Int.emod_nonneg z (b := 4294967279) (by decide)
      have k2 := Int.emod_lt_of_pos z (b := 4294967279) (by decide)
      omega
    refine ⟨_, rfl, dk, _, rfl, gs f3, _, rfl, dk, _, rfl, gt f3, _, _, rfl, rfl, .inr ⟨by decide, by decide⟩, _, _, rfl, rfl, .inl ⟨_, rfl, _, _, rfl, rfl, (by show (0 : Int) < 4294967291; decide), ?_⟩⟩
    refine ⟨_, rfl, _, rfl, _, _, rfl, rfl, .inl (b1 _), _, rfl, dk, _, rfl, gt f3, _, _, rfl, rfl, .inr ⟨by decide, by decide⟩, _, _, rfl, rfl, _, _, rfl, rfl, .inl ⟨_, rfl, _, _, rfl, rfl, (by show (0 : Int) < 4294967279; decide), ?_⟩⟩
    refine ⟨_, rfl, _, rfl, _, _, rfl, rfl, .inl (b2 _), _, rfl, _, _, rfl, rfl, .inl ⟨_, rfl, _, _, rfl, rfl, (by show (0 : Int) < 4294967231; decide), _, _, rfl, rfl, ⟨by decide, by decide⟩, .inl ⟨_, rfl, _, rfl, _, _, rfl, rfl, by omega, ?_⟩⟩⟩
    have p0 : ∀ z : Int, 0 ≤ z.fmod many := fun z => Int.fmod_nonneg_of_pos z (by omega)
    have p1 : ∀ z : Int, z.fmod many < many := fun z => Int.fmod_lt_of_pos z (by omega)
    exact q _ H2 E2 D2 (p0 _) (.inl (p1 _))
end
end Rw
namespace Rw
open PySem L2

/-! ### data that can be shown: short leaves, not too deep, not too heavy -/
structure Nc (k : Nat) (d : PyData) : Prop where
  sh : d.leavesShort 25 = true
  sw : d.showable = true
  dp : d.depth ≤ k
structure NcAll (k : Nat) (ds : List PyData) : Prop where
  sh : PyData.leavesShortAll 25 ds = true
  sw : PyData.showableAll ds = true
  dp : PyData.depthAll ds ≤ k
theorem Nc.up {k j : Nat} {d : PyData} (h : Nc k d) (e : k ≤ j) : Nc j d := ⟨h.sh, h.sw, Nat.le_trans h.dp e⟩
theorem NcAll.up {k j : Nat} {d : List PyData} (h : NcAll k d) (e : k ≤ j) : NcAll j d := ⟨h.sh, h.sw, Nat.le_trans h.dp e⟩
theorem Nc.non {k : Nat} : Nc k .none := ⟨rfl, rfl, Nat.zero_le _⟩
theorem Nc.bl {k : Nat} (b : Bool) : Nc k (.bool b) := ⟨rfl, rfl, Nat.zero_le _⟩
theorem Nc.int {k : Nat} {i : Int} (h : i.natAbs < 10 ^ 20) : Nc k (.int i) := by
  refine ⟨?_, ?_, Nat.zero_le _⟩
  · have e := int_text_length_le10 (k := 20) (by decide) h
    have e2 : (PyData.shown (.int i)).length ≤ 25 := by
      show (Str.ofString (toString i)).length ≤ 25
      rw [ofString_length]
      omega
    simp only [PyData.leavesShort, decide_eq_true e2]
  · have l : i.natAbs.log2 < 1920 := by
      by_cases h0 : i.natAbs = 0
      · rw [h0]
        decide
      · have q : i.natAbs.log2 < 69 := (Nat.log2_lt h0).mpr (Nat.lt_trans h (by decide))
        omega
    simp only [PyData.showable, decide_eq_true l]
theorem Nc.str {k : Nat} {x : Str} (h : (x.cps.toList.all fun c => decide (c < 16 ^ 8)) = true) : Nc k (.str x) := ⟨h, rfl, Nat.zero_le _⟩
theorem NcAll.nil {k : Nat} : NcAll k [] := ⟨rfl, rfl, Nat.zero_le _⟩
theorem NcAll.cons {k : Nat} {d : PyData} {ds : List PyData} (a : Nc k d) (b : NcAll k ds) : NcAll k (d :: ds) := by
  refine ⟨?_, ?_, ?_⟩
  · simp only [PyData.leavesShortAll, a.sh, b.sh, Bool.and_self]
  · simp only [PyData.showableAll, a.sw, b.sw, Bool.and_self]
  · simp only [PyData.depthAll]
    exact Nat.max_le.mpr ⟨a.dp, b.dp⟩
theorem NcAll.parts {k : Nat} {d : PyData} {ds : List PyData} (h : NcAll k (d :: ds)) : Nc k d ∧ NcAll k ds := by
  have h1 : d.leavesShort 25 = true ∧ PyData.leavesShortAll 25 ds = true := by
    have q := h.sh
    simpa only [PyData.leavesShortAll, Bool.and_eq_true] using q
  have h2 : d.showable = true ∧ PyData.showableAll ds = true := by
    have q := h.sw
    simpa only [PyData.showableAll, Bool.and_eq_true] using q
  have h3 : d.depth ≤ k ∧ PyData.depthAll ds ≤ k := by
    have q := h.dp
    simp only [PyData.depthAll] at q
    exact Nat.max_le.mp q
  exact ⟨⟨h1.1, h2.1, h3.1⟩, ⟨h1.2, h2.2, h3.2⟩⟩
theorem NcAll.iff {k : Nat} : ∀ {ds : List PyData}, NcAll k ds ↔ ∀ d ∈ ds, Nc k d
  | [] => ⟨fun _ d h => absurd h (by simp), fun _ => NcAll.nil⟩
  | d :: ds => by
    constructor
    · intro h x hx
      rcases List.mem_cons.mp hx with e | e
      · rw [e]
        exact h.parts.1
      · exact NcAll.iff.mp h.parts.2 x e
    · intro h
      exact .cons (h d List.mem_cons_self) (NcAll.iff.mpr fun x hx => h x (List.mem_cons_of_mem _ hx))
theorem Nc.tup {k : Nat} {ds : List PyData} (h : NcAll k ds) : Nc (k + 1) (.tuple ds) := by
  refine ⟨?_, ?_, ?_⟩
  · simp only [PyData.leavesShort, h.sh]
  · simp only [PyData.showable, h.sw]
  · simp only [PyData.depth]
    have := h.dp
    omega
theorem Nc.lst {k : Nat} {ds : List PyData} (h : NcAll k ds) : Nc (k + 1) (.list ds) := by
  refine ⟨?_, ?_, ?_⟩
  · simp only [PyData.leavesShort, h.sh]
  · simp only [PyData.showable, h.sw]
  · simp only [PyData.depth]
    have := h.dp
    omega
theorem Nc.dct {k : Nat} {x : Str} {d : PyData} (hx : Nc k (.str x)) (h : Nc k d) : Nc (k + 1) (.dict [(.str x, d)]) := by
  refine ⟨?_, ?_, ?_⟩
  · simp only [PyData.leavesShort, PyData.leavesShortKv, h.sh, Bool.and_true]
    exact hx.sh
  · simp only [PyData.showable, PyData.showableKv, h.sw, Bool.and_self]
  · simp only [PyData.depth, PyData.depthKv]
    have := h.dp
    omega
theorem Nc.of_tup {k : Nat} {ds : List PyData} (h : Nc k (.tuple ds)) : NcAll (k - 1) ds ∧ 1 ≤ k := by
  have h1 := h.sh
  have h2 := h.sw
  have h3 := h.dp
  simp only [PyData.leavesShort] at h1
  simp only [PyData.showable] at h2
  simp only [PyData.depth] at h3
  exact ⟨⟨h1, h2, by omega⟩, by omega⟩
theorem NcAll.app {k : Nat} {ds es : List PyData} (a : NcAll k ds) (b : NcAll k es) : NcAll k (ds ++ es) := NcAll.iff.mpr fun d hd => by
  rcases List.mem_append.mp hd with e | e
  · exact NcAll.iff.mp a d e
  · exact NcAll.iff.mp b d e
theorem NcAll.sub {k : Nat} {ds es : List PyData} (a : NcAll k ds) (h : ∀ d ∈ es, d ∈ ds) : NcAll k es := NcAll.iff.mpr fun d hd => NcAll.iff.mp a d (h d hd)
theorem NcAll.set {k : Nat} {ds : List PyData} {d : PyData} (a : NcAll k ds) (b : Nc k d) (i : Nat) : NcAll k (ds.set i d) := NcAll.iff.mpr fun x hx => by
  rcases List.mem_or_eq_of_mem_set hx with e | e
  · exact NcAll.iff.mp a x e
  · rw [e]
    exact b
theorem wA_app : ∀ ds es : List PyData, PyData.weightAll (ds ++ es) = PyData.weightAll ds + PyData.weightAll es
  | [], es => by simp [PyData.weightAll]
  | d :: ds, es => by
    rw [List.cons_append]
    simp only [PyData.weightAll, wA_app ds es]
    omega
theorem wA_mem : ∀ {ds : List PyData} {d : PyData}, d ∈ ds → d.weight + 1 ≤ PyData.weightAll ds
  | e :: ds, d, h => by
    simp only [PyData.weightAll]
    rcases List.mem_cons.mp h with q | q
    · rw [q]
      omega
    · have := wA_mem q
      omega
theorem wA_take (n : Nat) (ds : List PyData) : PyData.weightAll (ds.take n) ≤ PyData.weightAll ds := by
  have h := wA_app (ds.take n) (ds.drop n)
  rw [List.take_append_drop] at h
  omega
theorem wA_drop (n : Nat) (ds : List PyData) : PyData.weightAll (ds.drop n) ≤ PyData.weightAll ds := by
  have h := wA_app (ds.take n) (ds.drop n)
  rw [List.take_append_drop] at h
  omega
theorem wA_set : ∀ (ds : List PyData) (i : Nat) (d : PyData), PyData.weightAll (ds.set i d) ≤ PyData.weightAll ds + d.weight + 1
  | [], _, _ => by simp [PyData.weightAll]
  | e :: ds, 0, d => by
    rw [List.set_cons_zero]
    simp only [PyData.weightAll]
    omega
  | e :: ds, i + 1, d => by
    rw [List.set_cons_succ]
    simp only [PyData.weightAll]
    have := wA_set ds i d
    omega
theorem wA_len : ∀ ds : List PyData, ds.length ≤ PyData.weightAll ds
  | [] => Nat.zero_le _
  | d :: ds => by
    simp only [PyData.weightAll, List.length_cons]
    have := wA_len ds
    omega
theorem w_int {i : Int} (h : i.natAbs < 10 ^ 20) : (PyData.int i).weight ≤ 70 := by
  simp only [PyData.weight]
  split
  · omega
  · rename_i h0
    have n0 : i.natAbs ≠ 0 := by
      intro e
      apply h0
      simp [Int.natAbs_eq_zero.mp e]
    have : i.natAbs.log2 < 69 := (Nat.log2_lt n0).mpr (Nat.lt_trans h (by decide))
    omega
theorem Nc.fits {k : Nat} {d : PyData} (h : Nc k d) (w : d.weight ≤ 500000) : d.shown.length ≤ sizeLine := by
  have e := PyData.shown_le 25 (by decide) d h.sh
  rw [sizeLine_eq]
  omega
end Rw
namespace Rw
open PySem L2
/-! ### a def of the text, by its name -/
structure Def (K : PySem.W.Frag) (mg : Str → Option Value) (x : Str) (st : Stmt) (ps : List Str) : Prop where
  ex : ∃ (f : Addr) (fd : FuncData), Fun K x x st f fd ∧ mg x = some (.ref f) ∧ Binds K fd ps []
structure Dfn (P : Program) (w : World) (K : PySem.W.Frag) (mg : Str → Option Value) (base : Heap) (x : Str) (ps : List Str) (k : Nat) (sp : Sp) : Prop where
  ex : ∃ (f : Addr) (fd : FuncData), FnOk P w K mg base CX0 k f fd ps sp ∧ mg x = some (.ref f) ∧ PySem.W.keepIn K (.ref f) = true ∧ Binds K fd ps []
theorem Def.ok {P : Program} {w : World} {K : PySem.W.Frag} {mg : Str → Option Value} {base : Heap} {x : Str} {st : Stmt} {ps : List Str} {k : Nat} {sp : Sp} (D : Def K mg x st ps)
    (h : ∀ (f : Addr) (fd : FuncData), Fun K x x st f fd → FnOk P w K mg base CX0 k f fd ps sp) : Dfn P w K mg base x ps k sp := by
  obtain ⟨f, fd, F, m, b⟩ := D.ex
  exact ⟨f, fd, h f fd F, m, F.kp, b⟩
theorem Dfn.mono {P : Program} {w : World} {K : PySem.W.Frag} {mg : Str → Option Value} {base : Heap} {x : Str} {ps : List Str} {j k : Nat} {sp : Sp} (D : Dfn P w K mg base x ps j sp) (h : j ≤ k) : Dfn P w K mg base x ps k sp := by
  obtain ⟨f, fd, F, m, c, b⟩ := D.ex
  exact ⟨f, fd, F.mono h, m, c, b⟩
section
variable {X : Cx} {k : Nat} {x : Str} {ps : List Str} {sp : Sp} {e : Expr} {es : List Expr} {t : TA} {p pos : Pos}
theorem pe_own (D : Dfn X.prog X.w X.K X.mg X.base x ps k sp) (hr : Room k X.A) (ha : PA X (e :: es) t) (hg : Gl X x := by rfl) (hdb : (x == ("__debug__" : Str)) = false := by decide)
    (he : starEach (e :: es) X.env = (false, eval e X.env) :: starEach es X.env := by rfl) (hpl : (backTo pos (starEach es X.env)).any (·.1) = false := by rfl) : PE X (.Call (.Name x p) (e :: es) [] pos) (tCall sp [] E0 t) := by
  obtain ⟨f, fd, F, m, c, b⟩ := D.ex
  exact pe_call F hr hg m c b .nil pass0 ha hdb he hpl
end

theorem bt_int : bootBuiltins ("int" : Str) = some (.type "int") := by decide +kernel
theorem bt_bool : bootBuiltins ("bool" : Str) = some (.type "bool") := by decide +kernel
theorem bt_str : bootBuiltins ("str" : Str) = some (.type "str") := by decide +kernel
theorem bt_tuple : bootBuiltins ("tuple" : Str) = some (.type "tuple") := by decide +kernel
theorem bt_list : bootBuiltins ("list" : Str) = some (.type "list") := by decide +kernel
theorem bt_isi : bootBuiltins ("isinstance" : Str) = some (.builtin "isinstance") := by decide +kernel
theorem bt_repr : bootBuiltins ("repr" : Str) = some (.builtin "repr") := by decide +kernel
section
variable {X : Cx} {x : Str} {pos p1 p2 : Pos} {n : String} {e : Expr} {te : TE}
theorem pe_ty (hm : X.mg x = none) (hv : bootBuiltins x = some (.type n)) (hg : Gl X x := by rfl) (hn : x ≠ "__name__" := by decide) (hd : (x == ("__debug__" : Str)) = false := by decide) : PE X (.Name x pos) (tC (.ty n)) := pe_bltn hg hm hv (show RelV (.ty n) (.type n) from rfl) hn hd
/-- isinstance(e, T) -/
theorem pe_isi (hn : n ∈ ["tuple", "int", "bool", "str", "list"]) (he : PE X e te) (hi : X.mg ("isinstance" : Str) = none) (hm : X.mg x = none) (hv : bootBuiltins x = some (.type n)) (hg : Gl X ("isinstance" : Str) := by rfl) (hg2 : Gl X x := by rfl) (hn2 : x ≠ "__name__" := by decide) (hd2 : (x == ("__debug__" : Str)) = false := by decide)
    (hs : starEach [e, .Name x p2] X.env = (false, eval e X.env) :: starEach [.Name x p2] X.env := by rfl) (hp : (backTo pos (starEach [.Name x p2] X.env)).any (·.1) = false := by rfl) : PE X (.Call (.Name ("isinstance" : Str) p1) [e, .Name x p2] [] pos) (tCB (rIsD X.K n) (tCons te (tCons (tC (.ty n)) tNil))) :=
  pe_callB (call_isD hn) hg hi bt_isi (pa_cons he (pa_cons (pe_ty hm hv hg2 hn2 hd2) pa_nil) hs) (by decide) (by decide) hs hp
end

/-! ### small things about values -/
def isIntB : PyData → Bool
  | .int _ => true
  | _ => false
def wholeB (l m : Int) : PyData → Bool
  | .int i => decide (l ≤ i) && decide (i ≤ m)
  | _ => false
theorem isT_int (d : PyData) : (isT "int" d && !isT "bool" d) = isIntB d := by
  cases d <;> (simp only [isT, clsOf, isIntB]; decide)
theorem int_of {d : PyData} (h : isIntB d = true) : ∃ i, d = .int i := by
  cases d <;> first | exact ⟨_, rfl⟩ | cases h
theorem isT_tup {d : PyData} : isT "tuple" d = true ↔ ∃ ds, d = .tuple ds := by
  cases d with
  | tuple ds => exact ⟨fun _ => ⟨ds, rfl⟩, fun _ => (by decide : isC "tuple" "tuple" = true)⟩
  | none => exact ⟨fun h => absurd h (by decide), fun ⟨_, e⟩ => by cases e⟩
  | bool b => exact ⟨fun h => absurd (show isC "tuple" "bool" = true from h) (by decide), fun ⟨_, e⟩ => by cases e⟩
  | int i => exact ⟨fun h => absurd (show isC "tuple" "int" = true from h) (by decide), fun ⟨_, e⟩ => by cases e⟩
  | str x => exact ⟨fun h => absurd (show isC "tuple" "str" = true from h) (by decide), fun ⟨_, e⟩ => by cases e⟩
  | list l => exact ⟨fun h => absurd (show isC "tuple" "list" = true from h) (by decide), fun ⟨_, e⟩ => by cases e⟩
  | dict l => exact ⟨fun h => absurd (show isC "tuple" "dict" = true from h) (by decide), fun ⟨_, e⟩ => by cases e⟩
theorem Rp.get_int {av : Addr → Prop} {H : Hp} {v : V} {i : Int} (h : Rp av H v (.int i)) : v = .int i := by
  cases h
  rfl
theorem Rp.get_str {av : Addr → Prop} {H : Hp} {v : V} {i : Str} (h : Rp av H v (.str i)) : v = .str i := by
  cases h
  rfl
theorem Rp.get_bl {av : Addr → Prop} {H : Hp} {v : V} {i : Bool} (h : Rp av H v (.bool i)) : v = .bl i := by
  cases h
  rfl
theorem Rp.get_non {av : Addr → Prop} {H : Hp} {v : V} (h : Rp av H v .none) : v = .non := by
  cases h
  rfl
theorem Rp.get_tup {av : Addr → Prop} {H : Hp} {v : V} {ds : List PyData} (h : Rp av H v (.tuple ds)) : ∃ a xs, v = .ref a ∧ ¬ av a ∧ H a = some (.tup xs) ∧ RpAll av H xs ds := by
  cases h with
  | tup n h r => exact ⟨_, _, rfl, n, h, r⟩

def spInteger : Sp := fun vs H Q _ => ∃ (av : Addr → Prop) (v : V) (d : PyData), vs = [v] ∧ Rp av H v d ∧ Q (.bl (isIntB d)) H
def spBelow : Sp := fun vs H Q _ => ∃ (av : Addr → Prop) (v : V) (d : PyData) (m : Int), vs = [v, .int m] ∧ Rp av H v d ∧ Q (.bl (wholeB 0 (m - 1) d)) H
def spWhole : Sp := fun vs H Q _ => ∃ (av : Addr → Prop) (v : V) (d : PyData) (l m : Int), vs = [v, .int l, .int m] ∧ Rp av H v d ∧ Q (.bl (wholeB l m d)) H
def tupOf (n : Int) : PyData → Bool
  | .tuple ds => decide ((ds.length : Int) = n)
  | _ => false
def spTupleOf : Sp := fun vs H Q _ => ∃ (av : Addr → Prop) (v : V) (d : PyData) (n : Int), vs = [v, .int n] ∧ Rp av H v d ∧ Q (.bl (tupOf n d)) H
abbrev sInteger : Stmt := top 1
abbrev sTupleOf : Stmt := top 2
abbrev sWhole : Stmt := top 17
section
variable {P : Program} {w : World} {K : PySem.W.Frag} {mg : Str → Option Value} {base : Heap} {f : Addr} {fd : FuncData}
theorem scInteger : FnScope ["value"] ["value"] (defScope sInteger) := ⟨rfl, rfl, rfl, by decide +kernel, rfl, by decide +kernel, by decide +kernel⟩
theorem ok_integer (F : Fun K "is_integer" "is_integer" sInteger f fd) (B : Blt mg) : FnOk P w K mg base CX0 1 f fd ["value"] spInteger := by
  refine F.ok scInteger (fun vs H Q E h => ?_) (fun cdv A outer s H vs Q E hr h => ?_)
  · obtain ⟨_, _, _, rfl, _⟩ := h
    rfl
  obtain ⟨av, v, d, rfl, hd, q⟩ := h
  refine ⟨_, pss_one (ps_ret (pe_and (pe_isi (n := "int") (by simp) (pv 0) B.isi B.int bt_int)
    (pe_one (pe_not (pe_isi (n := "bool") (by simp) (pv 0) B.isi B.bool bt_bool))))), ?_⟩
  refine ⟨_, rfl, av, v, d, rfl, hd, _, rfl, ?_⟩
  have e := isT_int d
  refine ite2 (fun c => ?_) (fun c => ?_)
  · refine ⟨_, rfl, av, v, d, rfl, hd, _, rfl, ?_⟩
    rw [c, Bool.true_and] at e
    show Q (.bl (!isT "bool" d)) H
    rw [e]
    exact q
  · rw [Bool.not_eq_true] at c
    rw [c, Bool.false_and] at e
    show Q (.bl false) H
    rw [e]
    exact q
end
end Rw
namespace Rw
open PySem L2
section
variable {P : Program} {w : World} {K : PySem.W.Frag} {mg : Str → Option Value} {base : Heap} {f : Addr} {fd : FuncData}
theorem whole_at (l m i : Int) : wholeB l m (.int i) = (decide (l ≤ i) && decide (i ≤ m)) := rfl
theorem scWhole : FnScope ["value", "least", "most"] ["value", "least", "most"] (defScope sWhole) := ⟨rfl, rfl, rfl, by decide +kernel, rfl, by decide +kernel, by decide +kernel⟩
theorem ok_whole (F : Fun K "_law_whole" "_law_whole" sWhole f fd) (B : Blt mg) : FnOk P w K mg base CX0 1 f fd ["value", "least", "most"] spWhole := by
  refine F.ok scWhole (fun vs H Q E h => ?_) (fun cdv A outer s H vs Q E hr h => ?_)
  · obtain ⟨_, _, _, _, _, rfl, _⟩ := h
    rfl
  obtain ⟨av, v, d, l, m, rfl, hd, q⟩ := h
  refine ⟨_, pss_one (ps_ret (pe_and (pe_isi (n := "int") (by simp) (pv 0) B.isi B.int bt_int) (pe_and (pe_not (pe_isi (n := "bool") (by simp) (pv 0) B.isi B.bool bt_bool)) (pe_one (pe_chain op_le op_le (pv 1) (pv 0) (pv 2)))))), ?_⟩
  refine ⟨_, rfl, av, v, d, rfl, hd, _, rfl, ?_⟩
  have e := isT_int d
  have no : isIntB d = false → Q (.bl false) H := fun c => by
    have e : wholeB l m d = false := by
      cases d <;> first | rfl | cases c
    rw [e] at q
    exact q
  refine ite2 (fun c => ?_) (fun c => ?_)
  · refine ⟨_, rfl, av, v, d, rfl, hd, _, rfl, _, rfl, ?_⟩
    rw [c, Bool.true_and] at e
    refine ite2 (fun c1 => ?_) (fun c1 => ?_)
    · rw [c1] at e
      obtain ⟨i, rfl⟩ := int_of e.symm
      have e := hd.get_int
      subst e
      refine ⟨_, rfl, _, rfl, _, _, rfl, rfl, _, rfl, ?_⟩
      rw [whole_at] at q
      refine ite2 (fun c1 => ?_) (fun c1 => ?_)
      · refine ⟨_, rfl, _, _, rfl, rfl, ?_⟩
        rw [c1, Bool.true_and] at q
        exact q
      · rw [Bool.not_eq_true] at c1
        rw [c1, Bool.false_and] at q
        exact q
    · rw [Bool.not_eq_true] at c1
      rw [c1] at e
      exact no e.symm
  · rw [Bool.not_eq_true] at c
    rw [c, Bool.false_and] at e
    exact no e.symm
theorem scTupleOf : FnScope ["value", "many"] ["value", "many"] (defScope sTupleOf) := ⟨rfl, rfl, rfl, by decide +kernel, rfl, by decide +kernel, by decide +kernel⟩
theorem ok_tupleOf (F : Fun K "is_tuple_of" "is_tuple_of" sTupleOf f fd) (B : Blt mg) : FnOk P w K mg base CX0 1 f fd ["value", "many"] spTupleOf := by
  refine F.ok scTupleOf (fun vs H Q E h => ?_) (fun cdv A outer s H vs Q E hr h => ?_)
  · obtain ⟨_, _, _, _, rfl, _⟩ := h
    rfl
  obtain ⟨av, v, d, n, rfl, hd, q⟩ := h
  refine ⟨_, pss_one (ps_ret (pe_and (pe_isi (n := "tuple") (by simp) (pv 0) B.isi B.tup bt_tuple) (pe_one (pe_cmpR op_eq (pe_callB call_len_seq (by rfl) B.len PySem.boot_len (pa_cons (pv 0) pa_nil)) (pv 1) (nomark _))))), ?_⟩
  refine ⟨_, rfl, av, v, d, rfl, hd, _, rfl, ?_⟩
  refine ite2 (fun c => ?_) (fun c => ?_)
  · obtain ⟨ds, rfl⟩ := isT_tup.mp c
    obtain ⟨a, xs, rfl, _, ha, hx⟩ := hd.get_tup
    refine ⟨_, rfl, a, xs, rfl, .inr (SqT.of ha), _, rfl, rfl, ?_⟩
    have e : decide (V.int ((xs.length : Nat) : Int) = V.int n) = tupOf n (.tuple ds) := by
      show _ = decide ((ds.length : Int) = n)
      rw [hx.len]
      by_cases h : ((ds.length : Nat) : Int) = n
      · rw [decide_eq_true h, decide_eq_true (by rw [h])]
      · rw [decide_eq_false h, decide_eq_false (fun z => h (V.int.inj z))]
    show Q (.bl (decide (V.int ((xs.length : Nat) : Int) = V.int n))) H
    rw [e]
    exact q
  · have e : tupOf n d = false := by
      cases d with
      | tuple ds => exact absurd (isT_tup.mpr ⟨ds, rfl⟩) c
      | _ => rfl
    rw [e] at q
    exact q
end
end Rw
namespace Rw
open PySem L2
theorem iteY {c A B : Prop} [Decidable c] (hc : c) (h : A) : if c then A else B := by
  rw [if_pos hc]
  exact h
theorem iteZ {c A B : Prop} [Decidable c] (hc : ¬ c) (h : B) : if c then A else B := by
  rw [if_neg hc]
  exact h
/-- a value of the data d, new or old -/
def Gives (d : PyData) (H : Hp) (Q : VK) : Prop := ∀ (v : V) (H' : Hp), Same H H' → Rp (fun b => ∃ o, H b = some o) H' v d → Q v H'
theorem inV_ints (r : Int) : ∀ rs : List Int, inV (.int r) (rs.map V.int) = decide (r ∈ rs)
  | [] => rfl
  | a :: rs => by
    have ih := inV_ints r rs
    unfold inV at ih ⊢
    rw [List.map_cons, List.any_cons, ih]
    show ((a == r) || decide (r ∈ rs)) = decide (r ∈ a :: rs)
    by_cases e : a = r
    · subst e
      simp
    · have e2 : ¬ r = a := fun z => e z.symm
      have e3 : (a == r) = false := beq_eq_false_iff_ne.mpr e
      rw [e3, Bool.false_or]
      by_cases h : r ∈ rs
      · rw [decide_eq_true h, decide_eq_true (List.mem_cons_of_mem _ h)]
      · rw [decide_eq_false h, decide_eq_false]
        intro z
        rcases List.mem_cons.mp z with y | y
        · exact e2 y
        · exact h y
theorem flat_ints : ∀ rs : List Int, (rs.map V.int).all flatV = true
  | [] => rfl
  | a :: rs => by
    rw [List.map_cons, List.all_cons, flat_ints rs]
    rfl
theorem Rp.weak {av av' : Addr → Prop} {H : Hp} (e : ∀ b, av' b → av b) {v : V} {d : PyData} (h : Rp av H v d) : Rp av' H v d := by
  induction h using Rp.rec (motive_2 := fun vs ds _ => RpAll av' H vs ds) with
  | non => exact .non
  | bl b => exact .bl b
  | int i => exact .int i
  | str x => exact .str x
  | lst n h _ r => exact .lst (fun z => n (e _ z)) h r
  | tup n h _ r => exact .tup (fun z => n (e _ z)) h r
  | dct n h _ r => exact .dct (fun z => n (e _ z)) h r
  | nil => exact .nil
  | cons _ _ a b => exact .cons a b
theorem Gives.ext {d : PyData} {H H' : Hp} {Q : VK} (g : Gives d H Q) (s : Same H H') : Gives d H' Q := fun v H2 s2 r => g v H2 (s.trans s2) (r.weak fun b ⟨o, h⟩ => ⟨o, s _ _ h⟩)
theorem Gives.pair {x : Str} {i : Int} {H H3 : Hp} {Q : VK} (g : Gives (.tuple [.str x, .int i]) H Q) (s : Same H H3) {p : Addr} (hp : H3 p = none) : Q (.ref p) (upd H3 p (.tup [.str x, .int i])) := by
  refine g _ _ (s.trans (same_new hp _)) (.tup ?_ upd_same (.cons (.str _) (.cons (.int _) .nil)))
  rintro ⟨o, ho⟩
  rw [s _ _ ho] at hp
  cases hp
end Rw
namespace Rw
open PySem L2
abbrev sSame : Stmt := top 18
def spPick : Sp := fun vs H Q _ => ∃ (dk gl l : Addr) (xs : List V), vs = [.ref dk, .ref l] ∧ DeckAt dk gl H ∧ H l = some (.lst xs) ∧ ¬ avD dk gl l ∧ 0 < xs.length ∧ xs.length < 1000 ∧ ∀ (v : V) (H' : Hp), v ∈ xs → Ext (avD dk gl) H H' → DeckAt dk gl H' → Q v H'
mutual
def plainT : PyData → Bool
  | .list _ => false
  | .dict _ => false
  | .tuple ds => plainAll ds
  | .none => true
  | .bool _ => true
  | .int _ => true
  | .str _ => true
def plainAll : List PyData → Bool
  | [] => true
  | d :: ds => plainT d && plainAll ds
end
theorem plain_mem : ∀ {ds : List PyData} {d : PyData}, plainAll ds = true → d ∈ ds → plainT d = true
  | e :: ds, d, h, hd => by
    have h' : plainT e = true ∧ plainAll ds = true := by simpa only [plainAll, Bool.and_eq_true] using h
    rcases List.mem_cons.mp hd with q | q
    · rw [q]
      exact h'.1
    · exact plain_mem h'.2 q
theorem depth_mem : ∀ {ds : List PyData} {d : PyData}, d ∈ ds → d.depth ≤ PyData.depthAll ds
  | e :: ds, d, hd => by
    simp only [PyData.depthAll]
    rcases List.mem_cons.mp hd with q | q
    · rw [q]
      exact Nat.le_max_left _ _
    · exact Nat.le_trans (depth_mem q) (Nat.le_max_right _ _)
def spSame (n : Nat) : Sp := fun vs H Q _ => ∃ (av av' : Addr → Prop) (x y : V) (d : PyData), vs = [x, y] ∧ Rp av H x d ∧ Rp av' H y d ∧ plainT d = true ∧ d.depth < n ∧ ∀ H', Same H H' → Q (.bl true) H'
section
variable {P : Program} {w : World} {K : PySem.W.Frag} {mg : Str → Option Value} {base : Heap} {f : Addr} {fd : FuncData}
theorem scPick : FnScope ["deck", "items"] ["deck", "items"] (defScope sPick) := ⟨rfl, rfl, rfl, by decide +kernel, rfl, by decide +kernel, by decide +kernel⟩
theorem ok_pick (F : Fun K "_law_pick" "_law_pick" sPick f fd) (B : Blt mg) (DD : Dfn P w K mg base "_law_draw" ["deck", "many"] 1 spDraw) : FnOk P w K mg base CX0 2 f fd ["deck", "items"] spPick := by
  refine F.ok scPick (fun vs H Q E h => ?_) (fun cdv A outer s H vs Q E hr h => ?_)
  · obtain ⟨_, _, _, _, rfl, _⟩ := h
    rfl
  obtain ⟨dk, gl, l, xs, rfl, hD, hl, nl, h0, h1, q⟩ := h
  refine ⟨_, pss_one (ps_ret (pe_ix ix_list (pv 1) (pe_own DD hr (pa_cons (pv 0) (pa_cons (pe_callB call_len_seq (by rfl) B.len PySem.boot_len (pa_cons (pv 1) pa_nil)) pa_nil))) (fun _ _ => rfl))), ?_⟩
  refine ⟨_, rfl, _, rfl, _, rfl, l, xs, rfl, .inl (SqL.of hl), dk, gl, _, rfl, hD, by omega, fun r H' e d r0 r1 => ?_⟩
  have rl : r < (xs.length : Int) := by
    rcases r1 with z | z
    · exact z
    · omega
  have rn : r.toNat < xs.length := by omega
  exact ⟨l, xs, r, xs[r.toNat], rfl, rfl, SqL.of (e _ _ nl hl), at_of (j := r.toNat) (by omega) (List.getElem?_eq_getElem rn), q _ _ (List.getElem_mem rn) e d⟩
theorem scSame : FnScope ["found", "due", "spot", "own"] ["found", "due"] (defScope sSame) := ⟨rfl, rfl, rfl, by decide +kernel, rfl, by decide +kernel, by decide +kernel⟩
theorem ok_same {n : Nat} (F : Fun K "_law_same" "_law_same" sSame f fd) (B : Blt mg) (DS : Dfn P w K mg base "_law_same" ["found", "due"] n (spSame n)) : FnOk P w K mg base CX0 (n + 1) f fd ["found", "due"] (spSame (n + 1)) := by
  refine F.ok scSame (fun vs H Q E h => ?_) (fun cdv A outer s H vs Q E hr h => ?_)
  · obtain ⟨_, _, _, _, _, rfl, _⟩ := h
    rfl
  obtain ⟨av, av', x, y, d, rfl, hx, hy, hp, hdp, q⟩ := h
  have nd := scSame.nd
  refine ⟨_, pss_cons (ps_if (pt_val (pe_isi (n := "tuple") (by simp) (pv 1) B.isi B.tup bt_tuple))
      (pss_cons (ps_if (PW.pt (pw_or (pt_not (pt_val (pe_isi (n := "tuple") (by simp) (pv 0) B.isi B.tup bt_tuple))) (pw_or1 (pt_cmpR op_ne (pe_callB call_len_seq (by rfl) B.len PySem.boot_len (pa_cons (pv 0) pa_nil)) (pe_callB call_len_seq (by rfl) B.len PySem.boot_len (pa_cons (pv 1) pa_nil)) (nomark _))))) (pss_one (ps_ret pe_bl)) pss_nil)
      (pss_cons (ps_for PassesOwn.never rfl (pi_enumT (by rfl) B.enu (pa_cons (pv 1) pa_nil)) (pg_tup rfl (pgs_cons (pg_name (i := 2) nd rfl (Or.inl rfl)) (pgs_cons (pg_name (i := 3) nd rfl (Or.inl rfl)) pgs_nil)))
        (pss_one (ps_if (pt_not (pt_val (pe_own DS hr (pa_cons (pe_ix ix_tup (pv 0) (pv 2) (fun _ _ => rfl)) (pa_cons (pv 3) pa_nil))))) (pss_one (ps_ret pe_bl)) pss_nil)))
      (pss_one (ps_ret pe_bl)))) pss_nil)
    (pss_cons (ps_if (pt_cmpR op_isN (pv 1) pe_non (nomark _)) (pss_one (ps_ret (pe_cmpR op_isN (pv 0) pe_non (nomark _)))) pss_nil)
    (pss_cons (ps_if (pt_val (pe_isi (n := "bool") (by simp) (pv 1) B.isi B.bool bt_bool)) (pss_one (ps_ret (pe_ifExp (pt_val (pv 1)) (pe_cmpR op_isBl (pv 0) pe_bl (nomark _)) (pe_cmpR op_isBl (pv 0) pe_bl (nomark _))))) pss_nil)
    (pss_cons (ps_if (pt_val (pe_isi (n := "int") (by simp) (pv 1) B.isi B.int bt_int)) (pss_one (ps_ret (pe_and (pe_isi (n := "int") (by simp) (pv 0) B.isi B.int bt_int) (pe_and (pe_not (pe_isi (n := "bool") (by simp) (pv 0) B.isi B.bool bt_bool)) (pe_one (pe_cmpR op_eq (pv 0) (pv 1) (nomark _))))))) pss_nil)
    (pss_one (ps_ret (pe_and (pe_isi (n := "str") (by simp) (pv 0) B.isi B.str bt_str) (pe_one (pe_cmpR op_eq (pv 0) (pv 1) (nomark _))))))))), ?_⟩
  have true_ : Q (.bl true) H := q _ (Same.refl _)
  refine ⟨_, rfl, av', y, d, rfl, hy, _, rfl, ?_⟩
  cases d with
  | tuple ds =>
    refine iteY (by show isC "tuple" "tuple" = true; decide) ?_
    obtain ⟨a, xs, rfl, _, ha, hxs⟩ := hx.get_tup
    obtain ⟨b, ys, rfl, _, hb, hys⟩ := hy.get_tup
    have l1 := hxs.len
    have l2 := hys.len
    have hp2 : plainAll ds = true := by simpa only [plainT] using hp
    have hd2 : PyData.depthAll ds < n := by
      simp only [PyData.depth] at hdp
      omega
    refine ⟨_, rfl, av, _, .tuple ds, rfl, hx, _, rfl, ?_⟩
    refine iteZ (by show ¬ (!isC "tuple" "tuple") = true; decide) ?_
    refine ⟨_, rfl, a, xs, rfl, .inr (SqT.of ha), _, rfl, b, ys, rfl, .inr (SqT.of hb), rfl, _, rfl, ?_⟩
    refine iteZ (by simp [l1, l2]) ?_
    refine ⟨_, rfl, b, ys, rfl, SqT.of hb, for_it (walk_enumT (K := K) (a := b) (xs := ys)) (fun i σ H' => ∃ (v2 v3 : Option V), σ = [some (.ref a), some (.ref b), v2, v3] ∧ Same H H') ⟨none, none, rfl, Same.refl _⟩ ?_ ?_ ?_⟩
    · rintro i σ H' _ ⟨_, _, _, s1⟩
      exact SqT.of (s1 _ _ hb)
    · rintro i x σ H1 H2 hi ⟨v2, v3, rfl, s1⟩ ⟨T, x1, y, rfl, hT, rfl, e1, hy1⟩
      cases (Option.some.inj e1)
      obtain ⟨d, hdi, hry⟩ := hys.at hy1
      have hix : i < xs.length := by
        have := (List.getElem?_eq_some_iff.mp hdi).1
        omega
      have hx1 : xs[i]? = some xs[i] := List.getElem?_eq_getElem hix
      obtain ⟨d2, hdi2, hrx⟩ := hxs.at hx1
      have ed : d2 = d := Option.some.inj (hdi2.symm.trans hdi)
      subst ed
      have hmem : d2 ∈ ds := List.mem_of_getElem? hdi
      have s2 : Same H (upd H1 T (.tup [.int (i : Nat), y])) := s1.trans (same_new hT _)
      refine ⟨T, _, rfl, SqT.of upd_same, rfl, _, _, rfl, _, _, rfl, rfl, ?_⟩
      generalize upd H1 T (.tup [.int (i : Nat), y]) = H3 at s2
      refine ⟨_, rfl, _, rfl, a, _, _, _, rfl, rfl, SqT.of (s2 _ _ ha), atI_nat hx1, _, rfl, av, av', _, y, d2, rfl, hrx.mono (Ext.of_same s2), hry.mono (Ext.of_same s2), plain_mem hp2 hmem, Nat.lt_of_le_of_lt (depth_mem hmem) hd2, fun H4 s3 => ⟨_, rfl, ?_⟩⟩
      refine iteF (A := True) ?_
      exact ⟨_, _, rfl, s2.trans s3⟩
    · rintro σ H' ⟨_, _, rfl, s1⟩
      exact q _ s1
  | none =>
    cases hx.get_non
    cases hy.get_non
    refine iteZ (by decide) ?_
    refine ⟨_, rfl, rfl, _, rfl, ?_⟩
    refine iteY (by decide) ?_
    exact ⟨_, rfl, rfl, true_⟩
  | bool b =>
    cases hx.get_bl
    cases hy.get_bl
    refine iteZ (by show ¬ isC "tuple" "bool" = true; decide) ?_
    refine ⟨_, rfl, rfl, _, rfl, ?_⟩
    refine iteZ (by simp) ?_
    refine ⟨_, rfl, av', _, _, rfl, hy, _, rfl, ?_⟩
    refine iteY (by show isC "bool" "bool" = true; decide) ?_
    refine ⟨_, rfl, _, rfl, ?_⟩
    cases b with
    | true =>
      refine iteY rfl ?_
      exact ⟨_, rfl, _, _, rfl, rfl, true_⟩
    | false =>
      refine iteZ (by decide) ?_
      exact ⟨_, rfl, _, _, rfl, rfl, true_⟩
  | int i =>
    cases hx.get_int
    cases hy.get_int
    refine iteZ (by show ¬ isC "tuple" "int" = true; decide) ?_
    refine ⟨_, rfl, rfl, _, rfl, ?_⟩
    refine iteZ (by simp) ?_
    refine ⟨_, rfl, av', _, _, rfl, hy, _, rfl, ?_⟩
    refine iteZ (by show ¬ isC "bool" "int" = true; decide) ?_
    refine ⟨_, rfl, av', _, _, rfl, hy, _, rfl, ?_⟩
    refine iteY (by show isC "int" "int" = true; decide) ?_
    refine ⟨_, rfl, av, _, _, rfl, hx, _, rfl, ?_⟩
    refine iteY (by show isC "int" "int" = true; decide) ?_
    refine ⟨_, rfl, av, _, _, rfl, hx, _, rfl, _, rfl, ?_⟩
    refine iteY (by show (!isC "bool" "int") = true; decide) ?_
    refine ⟨_, rfl, _, rfl, rfl, ?_⟩
    have e : decide (V.int i = V.int i) = true := decide_eq_true rfl
    show Q (.bl (decide (V.int i = V.int i))) H
    rw [e]
    exact true_
  | str z =>
    cases hx.get_str
    cases hy.get_str
    refine iteZ (by show ¬ isC "tuple" "str" = true; decide) ?_
    refine ⟨_, rfl, rfl, _, rfl, ?_⟩
    refine iteZ (by simp) ?_
    refine ⟨_, rfl, av', _, _, rfl, hy, _, rfl, ?_⟩
    refine iteZ (by show ¬ isC "bool" "str" = true; decide) ?_
    refine ⟨_, rfl, av', _, _, rfl, hy, _, rfl, ?_⟩
    refine iteZ (by show ¬ isC "int" "str" = true; decide) ?_
    refine ⟨_, rfl, av, _, _, rfl, hx, _, rfl, ?_⟩
    refine iteY (by show isC "str" "str" = true; decide) ?_
    refine ⟨_, rfl, _, rfl, rfl, ?_⟩
    have e : decide (V.str z = V.str z) = true := decide_eq_true rfl
    show Q (.bl (decide (V.str z = V.str z))) H
    rw [e]
    exact true_
  | list l => cases hp
  | dict l => cases hp
theorem none_ok {ps : List Str} {sp : Sp} (no : ∀ vs H Q E, ¬ sp vs H Q E) : FnOk P w K mg base CX0 0 f fd ps sp :=
  ⟨fun vs H Q E h => absurd h (no vs H Q E), fun A outer s H args us vs Q E _ _ _ _ h => absurd h (no vs H Q E)⟩
theorem same_all (D : Def K mg "_law_same" sSame ["found", "due"]) (B : Blt mg) : ∀ n : Nat, Dfn P w K mg base "_law_same" ["found", "due"] n (spSame n)
  | 0 => by
    obtain ⟨f, fd, F, m, b⟩ := D.ex
    refine ⟨f, fd, none_ok fun vs H Q E h => ?_, m, F.kp, b⟩
    obtain ⟨_, _, _, _, _, _, _, _, _, h0, _⟩ := h
    omega
  | n + 1 => D.ok fun f fd F => ok_same F B (same_all D B n)
end
end Rw
namespace Rw
open PySem L2
abbrev sAny : Stmt := top 19
def wAny : Nat → Nat
  | 0 => 70
  | k + 1 => 3 * (wAny k + 1) + 10
theorem wAny_mono : ∀ k, 70 ≤ wAny k
  | 0 => Nat.le_refl _
  | k + 1 => by
    have := wAny_mono k
    show 70 ≤ 3 * (wAny k + 1) + 10
    omega
theorem RpAll.weak2 {av av' : Addr → Prop} {H : Hp} (e : ∀ b, av' b → av b) : ∀ {vs : List V} {ds : List PyData}, RpAll av H vs ds → RpAll av' H vs ds
  | _, _, .nil => .nil
  | _, _, .cons a b => .cons (a.weak e) (RpAll.weak2 e b)
/-- something stands there -/
def dom (H : Hp) : Addr → Prop := fun b => ∃ o, H b = some o
theorem dom_ext {dk gl : Addr} {H H1 : Hp} (e : Ext (avD dk gl) H H1) (D : DeckAt dk gl H1) {b : Addr} (h : dom H b) : dom H1 b := by
  obtain ⟨g, s, t, h1, h2, _⟩ := D.ex
  obtain ⟨o, h⟩ := h
  by_cases c : avD dk gl b
  · rcases c with z | z
    · exact ⟨_, z ▸ h1⟩
    · exact ⟨_, z ▸ h2⟩
  · exact ⟨o, e _ _ c h⟩
theorem dom_deck {dk gl : Addr} {H : Hp} (D : DeckAt dk gl H) {b : Addr} (h : avD dk gl b) : dom H b := by
  obtain ⟨g, s, t, h1, h2, _⟩ := D.ex
  rcases h with z | z
  · exact ⟨_, z ▸ h1⟩
  · exact ⟨_, z ▸ h2⟩
theorem not_dom {H : Hp} {p : Addr} (h : H p = none) : ¬ dom H p := fun ⟨o, e⟩ => by
  rw [h] at e
  cases e
theorem ext_upd {av : Addr → Prop} {H0 H : Hp} {L : Addr} (e : Ext av H0 H) (h : H0 L = none) (o : HO) : Ext av H0 (upd H L o) := fun b u n q => by
  rw [upd_ne (ne_of_none q h)]
  exact e b u n q
theorem DeckAt.put {dk gl : Addr} {H : Hp} (D : DeckAt dk gl H) {L : Addr} (n : ¬ avD dk gl L) (o : HO) : DeckAt dk gl (upd H L o) := by
  obtain ⟨g, s, t, h1, h2, h3⟩ := D.ex
  refine ⟨g, s, t, ?_, ?_, h3⟩
  · rw [upd_ne fun e => n (.inl e.symm)]
    exact h1
  · rw [upd_ne fun e => n (.inr e.symm)]
    exact h2
/-- some new value is given: data that can be shown, of depth k and weight n at most -/
def GivesNew (dk gl : Addr) (k n : Nat) (H : Hp) (Q : VK) : Prop := ∀ (v : V) (d : PyData) (H' : Hp), Ext (avD dk gl) H H' → DeckAt dk gl H' → Rp (dom H) H' v d → Nc k d → d.weight ≤ n → Q v H'
theorem GivesNew.ext {dk gl : Addr} {k n : Nat} {H H1 : Hp} {Q : VK} (g : GivesNew dk gl k n H Q) (e : Ext (avD dk gl) H H1) (D : DeckAt dk gl H1) : GivesNew dk gl k n H1 Q := fun v d H' e2 hD r c w => g v d H' (e.trans e2) hD (r.weak fun _ h => dom_ext e D h) c w
theorem GivesNew.less {dk gl : Addr} {k n k' n' : Nat} {H : Hp} {Q : VK} (g : GivesNew dk gl k n H Q) (hk : k' ≤ k) (hn : n' ≤ n) : GivesNew dk gl k' n' H Q := fun v d H' e2 hD r c w => g v d H' e2 hD r (c.up hk) (Nat.le_trans w hn)
def spAny (n : Nat) : Sp := fun vs H Q _ => ∃ (dk gl : Addr) (deep : Int), vs = [.ref dk, .int deep] ∧ DeckAt dk gl H ∧ 0 ≤ deep ∧ deep < (n : Int) ∧ GivesNew dk gl (2 * deep.toNat) (wAny deep.toNat) H Q
def nsAny : List Int := [-1, 0, 1, 2, 4, 5, 6, 23, 24, 1000000000000000007]
def zsAny : List Str := ["in", "out", "", "-", "stand", "bow", "even", "rest", "go", "plain", "way +0 -0"]
theorem nsAny_ok : ∀ i ∈ nsAny, i.natAbs < 10 ^ 20 := by decide +kernel
def zOk (z : Str) : Bool := (z.cps.toList.all fun c => decide (c < 16 ^ 8)) && decide (z.cps.size ≤ 70)
theorem zsAny_ok : ∀ z ∈ zsAny, zOk z = true := by decide +kernel
theorem Nc.ofZ {k : Nat} {z : Str} (h : zOk z = true) : Nc k (.str z) ∧ (PyData.str z).weight ≤ 70 := by
  have h' : (z.cps.toList.all fun c => decide (c < 16 ^ 8)) = true ∧ z.cps.size ≤ 70 := by
    have q : ((z.cps.toList.all fun c => decide (c < 16 ^ 8)) && decide (z.cps.size ≤ 70)) = true := h
    simpa only [Bool.and_eq_true, decide_eq_true_eq] using q
  refine ⟨.str h'.1, ?_⟩
  simp only [PyData.weight]
  exact h'.2
theorem mem_strs {zs : List Str} {v : V} (h : v ∈ zs.map V.str) : ∃ z ∈ zs, v = .str z := by
  obtain ⟨z, hz, e⟩ := List.mem_map.mp h
  exact ⟨z, hz, e.symm⟩
theorem mem_intsV {zs : List Int} {v : V} (h : v ∈ zs.map V.int) : ∃ z ∈ zs, v = .int z := by
  obtain ⟨z, hz, e⟩ := List.mem_map.mp h
  exact ⟨z, hz, e.symm⟩
section
variable {P : Program} {w : World} {K : PySem.W.Frag} {mg : Str → Option Value} {base : Heap} {f : Addr} {fd : FuncData}
theorem scAny : FnScope ["deck", "deep", "sort", "items", "turn"] ["deck", "deep"] (defScope sAny) := ⟨rfl, rfl, rfl, by decide +kernel, rfl, by decide +kernel, by decide +kernel⟩
theorem ok_any {n : Nat} (F : Fun K "_law_any" "_law_any" sAny f fd) (B : Blt mg) (DD : Dfn P w K mg base "_law_draw" ["deck", "many"] 1 spDraw) (DP : Dfn P w K mg base "_law_pick" ["deck", "items"] 2 spPick)
    (DA : Dfn P w K mg base "_law_any" ["deck", "deep"] (n + 2) (spAny n)) : FnOk P w K mg base CX0 (n + 3) f fd ["deck", "deep"] (spAny (n + 1)) := by
  refine F.ok scAny (fun vs H Q E h => ?_) (fun cdv A outer s H vs Q E hr h => ?_)
  · obtain ⟨_, _, _, rfl, _⟩ := h
    rfl
  obtain ⟨dk, gl, deep, rfl, hD, d0, d1, q⟩ := h
  have nd := scAny.nd
  have hr1 : Room 1 (A.deeper (PyProof.Rows.envOfC "_law_any" (defScope sAny) s.heap.objs.size f cdv)) := hr.mono (by omega)
  have hr2 : Room 2 (A.deeper (PyProof.Rows.envOfC "_law_any" (defScope sAny) s.heap.objs.size f cdv)) := hr.mono (by omega)
  refine ⟨_, pss_cons (ps_set (i := 2) nd rfl (Or.inl rfl) (pe_own DD hr1 (pa_cons (pv 0) (pa_cons (pe_ifExp (pt_cmpR op_gt (pv 1) pe_int (nomark _)) pe_int pe_int) pa_nil))))
    (pss_cons (ps_if (pt_cmpR op_lt (pv 2) pe_int (nomark _)) (pss_one (ps_ret (pe_ix ix_list (pe_lst (pa_cons pe_non (pa_cons pe_bl (pa_cons pe_bl pa_nil)))) (pv 2) (fun _ _ => rfl)))) pss_nil)
    (pss_cons (ps_if (pt_cmpR op_lt (pv 2) pe_int (nomark _)) (pss_one (ps_ret (pe_own DP hr2 (pa_cons (pv 0) (pa_cons (pe_lst (pa_cons (pe_un un_neg pe_int) (pa_cons pe_int (pa_cons pe_int (pa_cons pe_int (pa_cons pe_int (pa_cons pe_int (pa_cons pe_int (pa_cons pe_int (pa_cons pe_int (pa_cons (pe_op op_add (pe_op op_pow pe_int pe_int) pe_int) pa_nil))))))))))) pa_nil))))) pss_nil)
    (pss_cons (ps_if (pt_cmpR op_lt (pv 2) pe_int (nomark _)) (pss_one (ps_ret (pe_own DP hr2 (pa_cons (pv 0) (pa_cons (pe_lst (pa_cons pe_str (pa_cons pe_str (pa_cons pe_str (pa_cons pe_str (pa_cons pe_str (pa_cons pe_str (pa_cons pe_str (pa_cons pe_str (pa_cons pe_str (pa_cons pe_str (pa_cons pe_str pa_nil)))))))))))) pa_nil))))) pss_nil)
    (pss_cons (ps_setLc (i := 3) (own := [("turn", 4)]) (g := gName 4) (tt := tYes) (by rfl) nd rfl rfl (sw_true rfl rfl rfl (by decide +kernel)) (pi_range1 (by rfl) B.rng (pa_cons (pe_own DD hr1 (pa_cons (pv 0) (pa_cons pe_int pa_nil))) pa_nil))
      (blkOk_by (N := ["deck", "deep", "sort", "items", "turn"]) (sc := defScope sAny) (by decide +kernel)) (fun _ _ _ _ _ => pg_name (i := 4) nd rfl (Or.inl rfl)) (fun _ _ _ _ _ => pts_nil)
      (fun _ _ _ _ _ => pe_own DA hr (pa_cons (pv 0) (pa_cons (pe_op op_sub (pv 1) pe_int) pa_nil))))
    (pss_cons (ps_if (pt_cmpR op_lt (pv 2) pe_int (nomark _)) (pss_one (ps_ret (pv 3))) pss_nil)
    (pss_one (ps_ret (pe_ifExp (pt_cmpR op_eq (pv 2) pe_int (nomark _)) (pe_disp (pps_cons pe_str (pv 3) pps_nil) (by rfl) (by rfl) (fun z => by cases z) (by decide)) (pe_callTy call_tuple_of (by rfl) B.tup (by decide +kernel) (pa_cons (pv 3) pa_nil)))))))))), ?_⟩
  refine ⟨_, rfl, _, rfl, _, _, rfl, rfl, _, rfl, ?_⟩
  refine ite2 (fun c => ?_) (fun c => ?_)
  all_goals refine ⟨dk, gl, _, rfl, hD, by decide, fun r H1 e1 D1 r0 r1 => ?_⟩
  all_goals have hr16 : r < 16 ∧ (deep ≤ 0 → r < 10) := by first | (have c := of_decide_eq_true c; omega) | (have c := of_decide_eq_false (Bool.eq_false_iff.mpr c); omega)
  all_goals clear r1 c
  all_goals replace q := q.ext e1 D1
  all_goals clear e1 hD
  all_goals (
    refine ⟨_, rfl, _, _, rfl, rfl, _, rfl, ?_⟩
    refine ite2 (fun c => ?_) (fun c => ?_)
    · have c := of_decide_eq_true c
      refine ⟨(by show 3 ≤ sizeLine; decide), fun l hl => ?_⟩
      have e2 : Ext (avD dk gl) H1 (upd H1 l (.lst [.non, .bl true, .bl false])) := Ext.new hl _
      have D2 := D1.same (same_new hl (.lst [.non, .bl true, .bl false]))
      have hr3 : r = 0 ∨ r = 1 ∨ r = 2 := by omega
      have w0 : ∀ n, 0 ≤ wAny n := fun n => Nat.zero_le _
      rcases hr3 with e | e | e <;> subst e
      · exact ⟨_, rfl, l, _, _, .non, rfl, rfl, SqL.of upd_same, rfl, q _ _ _ e2 D2 .non .non (w0 _)⟩
      · exact ⟨_, rfl, l, _, _, .bl true, rfl, rfl, SqL.of upd_same, rfl, q _ _ _ e2 D2 (.bl _) (.bl _) (w0 _)⟩
      · exact ⟨_, rfl, l, _, _, .bl false, rfl, rfl, SqL.of upd_same, rfl, q _ _ _ e2 D2 (.bl _) (.bl _) (w0 _)⟩
    refine ⟨_, rfl, _, _, rfl, rfl, _, rfl, ?_⟩
    refine ite2 (fun _ => ?_) (fun _ => ?_)
    · refine ⟨_, rfl, _, rfl, _, _, rfl, rfl, ⟨by decide, by decide, by decide⟩, _, _, rfl, rfl, (by show 10 ≤ sizeLine; decide), fun l hl => ?_⟩
      have s1 := same_new hl (.lst (nsAny.map V.int))
      refine ⟨dk, gl, l, nsAny.map V.int, rfl, D1.same s1, upd_same, D1.new hl, by decide, by decide, fun v H' hv e2 D2 => ?_⟩
      obtain ⟨z, hz, rfl⟩ := mem_intsV hv
      exact q _ _ _ ((Ext.of_same s1).trans e2) D2 (.int z) (.int (nsAny_ok z hz)) (Nat.le_trans (w_int (nsAny_ok z hz)) (wAny_mono _))
    refine ⟨_, rfl, _, _, rfl, rfl, _, rfl, ?_⟩
    refine ite2 (fun _ => ?_) (fun c2 => ?_)
    · refine ⟨_, rfl, (by show 11 ≤ sizeLine; decide), fun l hl => ?_⟩
      have s1 := same_new hl (.lst (zsAny.map V.str))
      refine ⟨dk, gl, l, zsAny.map V.str, rfl, D1.same s1, upd_same, D1.new hl, by decide, by decide, fun v H' hv e2 D2 => ?_⟩
      obtain ⟨z, hz, rfl⟩ := mem_strs hv
      obtain ⟨n1, n2⟩ := Nc.ofZ (k := 2 * deep.toNat) (zsAny_ok z hz)
      exact q _ _ _ ((Ext.of_same s1).trans e2) D2 (.str z) n1 (Nat.le_trans n2 (wAny_mono _))
    have c2 := of_decide_eq_false (Bool.eq_false_iff.mpr c2)
    have hdeep : 1 ≤ deep := by omega
    obtain ⟨k, hk⟩ : ∃ k : Nat, deep.toNat = k + 1 := ⟨deep.toNat - 1, by omega⟩
    have hk2 : (deep - 1).toNat = k := by omega
    rw [hk] at q
    refine ⟨_, rfl, dk, gl, 4, rfl, D1, by decide, fun r2 H2 e2 D2 p0 p1 => ⟨_, rfl, by omega, by omega, fun L hL => ?_⟩⟩
    have q2 := q.ext e2 D2
    have nL : ¬ avD dk gl L := D2.new hL
    refine lc_range (lo := 0) (n := r2.toNat) (fun i H' => Ext (avD dk gl) H2 H' ∧ DeckAt dk gl H' ∧ ∃ (xs : List V) (ds : List PyData), H' L = some (.lst xs) ∧ RpAll (fun b => dom H2 b ∨ b = L) H' xs ds ∧ NcAll (2 * k) ds ∧ PyData.weightAll ds ≤ i * (wAny k + 1) ∧ xs.length = i) ?_ ?_ ?_
    · exact ⟨Ext.new hL _, D2.same (same_new hL _), [], [], upd_same, .nil, .nil, Nat.zero_le _, rfl⟩
    · rintro i H3 hi ⟨e3, D3, xs, ds, hx, rx, nx, wx, lx⟩
      refine ⟨rfl, ?_⟩
      refine iteT (B := True) ?_
      refine ⟨_, rfl, _, rfl, _, _, rfl, rfl, dk, gl, deep - 1, rfl, D3, by omega, by omega, fun v d H4 e4 D4 rv nv wv => ?_⟩
      rw [hk2] at nv wv
      have hx4 := e4 _ _ nL hx
      refine ⟨xs, hx4, szlt (by omega), ext_upd (e3.trans e4) hL _, D4.put nL _, xs ++ [v], ds ++ [d], upd_same, ?_, nx.app (.cons nv .nil), ?_, ?_⟩
      · have m1 : Ext (fun b => dom H2 b ∨ b = L) H3 H4 := fun b o n h => e4 b o (fun z => n (.inl (dom_deck D2 z))) h
        have m2 : Ext (fun b => dom H2 b ∨ b = L) H4 (upd H4 L (.lst (xs ++ [v]))) := Ext.put (.inr rfl) _
        refine ((rx.mono m1).snoc (rv.weak fun b hb => ?_)).mono m2
        rcases hb with z | z
        · exact dom_ext e3 D3 z
        · exact ⟨_, z ▸ hx⟩
      · rw [wA_app]
        simp only [PyData.weightAll]
        have : (i + 1) * (wAny k + 1) = i * (wAny k + 1) + (wAny k + 1) := Nat.succ_mul _ _
        omega
      · rw [List.length_append, List.length_singleton, lx]
    rintro H3 ⟨e3, D3, xs, ds, hx, rx, nx, wx, lx⟩
    have hi3 : r2.toNat ≤ 3 := by omega
    have wx3 : PyData.weightAll ds ≤ 3 * (wAny k + 1) := Nat.le_trans wx (Nat.mul_le_mul_right _ hi3)
    have wk : 3 * (wAny k + 1) + 10 = wAny (k + 1) := rfl
    have rl : Rp (dom H2) H3 (.ref L) (.list ds) := .lst (not_dom hL) hx (rx.weak2 fun b h => .inl h)
    have lenx : xs.length ≤ sizeLine := sz (by omega)
    refine ⟨_, rfl, _, _, rfl, rfl, _, rfl, ?_⟩
    refine ite2 (fun _ => ?_) (fun _ => ?_)
    · refine ⟨_, rfl, q2 _ _ _ e3 D3 rl ((Nc.lst nx).up (by omega)) ?_⟩
      simp only [PyData.weight]
      omega
    refine ⟨_, rfl, rfl, _, rfl, ?_⟩
    refine ite2 (fun _ => ?_) (fun _ => ?_)
    · refine fun p hp => ⟨_, rfl, upd_same, [(Sum.inr ("0" : Str), .ref L)], rfl, (by show 1 ≤ 15; decide), ?_⟩
      have em : mergeK [] [((Sum.inr ("0" : Str) : Key), V.ref L)] = [(Sum.inr ("0" : Str), .ref L)] := rfl
      rw [em]
      have hp2 : H2 p = none := by
        cases z : H2 p with
        | none => rfl
        | some o =>
          obtain ⟨u, hu⟩ := dom_ext e3 D3 ⟨o, z⟩
          rw [hu] at hp
          cases hp
      have s5 : Same H3 (upd (upd H3 p (.dK [])) p (.dK [(Sum.inr ("0" : Str), .ref L)])) := by
        rw [upd_upd]
        exact same_new hp _
      have r5 : Rp (dom H2) (upd (upd H3 p (.dK [])) p (.dK [(Sum.inr ("0" : Str), .ref L)])) (.ref p) (.dict [(.str "0", .list ds)]) := .dct (not_dom hp2) upd_same (rl.mono (Ext.of_same s5))
      refine q2 _ _ _ (e3.trans (Ext.of_same s5)) (D3.same s5) r5 ((Nc.dct (.str (by decide +kernel)) (Nc.lst nx)).up (by omega)) ?_
      simp only [PyData.weight, PyData.weightKv]
      have z0 : (Str.ofString "0").cps.size = 1 := by decide +kernel
      omega
    · refine ⟨_, rfl, L, xs, rfl, .inl ⟨SqL.of hx, fun p hp => ?_⟩⟩
      have hp2 : H2 p = none := by
        cases z : H2 p with
        | none => rfl
        | some o =>
          obtain ⟨u, hu⟩ := dom_ext e3 D3 ⟨o, z⟩
          rw [hu] at hp
          cases hp
      have s5 := same_new hp (.tup xs)
      refine q2 _ _ _ (e3.trans (Ext.of_same s5)) (D3.same s5) (.tup (not_dom hp2) upd_same ((rx.weak2 fun b h => .inl h).mono (Ext.of_same s5))) ((Nc.tup nx).up (by omega)) ?_
      simp only [PyData.weight]
      omega)
theorem any_all (D : Def K mg "_law_any" sAny ["deck", "deep"]) (B : Blt mg) (DD : Dfn P w K mg base "_law_draw" ["deck", "many"] 1 spDraw) (DP : Dfn P w K mg base "_law_pick" ["deck", "items"] 2 spPick) : ∀ n : Nat, Dfn P w K mg base "_law_any" ["deck", "deep"] (n + 2) (spAny n)
  | 0 => by
    obtain ⟨f, fd, F, m, b⟩ := D.ex
    refine ⟨f, fd, (none_ok fun vs H Q E h => ?_).mono (Nat.zero_le _), m, F.kp, b⟩
    obtain ⟨_, _, _, _, _, h0, h1, _⟩ := h
    omega
  | n + 1 => D.ok fun f fd F => ok_any F B DD DP (any_all D B DD DP n)
end
end Rw
section
namespace Rw
open PySem L2
/-! ### slices and sums of tuples, new or not -/
theorem cut_whole {xs : List V} {lo hi : Option Int} (h : HT.sIx xs.length 0 lo = 0 ∧ HT.sIx xs.length xs.length hi = xs.length) : cutV xs lo hi = xs := by
  unfold cutV
  rw [h.1, h.2, List.drop_zero, Nat.sub_zero, List.take_length]
section
variable {X : Cx}
def rSlB : V → Option Int → Option Int → Hp → VK → Prop := fun x lo hi H Q => ∃ (a : Addr) (xs : List V), x = .ref a ∧ H a = some (.tup xs) ∧ ∀ (r : Addr) (H' : Hp), Same H H' → H' r = some (.tup (cutV xs lo hi)) → (r = a ∨ H r = none) → Q (.ref r) H'
theorem sl_tupB : SlR X rSlB := by
  intro pins s σ H x v vl vu lo hi sl Q I rx hs pl pu h
  obtain ⟨a, xs, rfl, ha, q⟩ := h
  refine sl_tupA pins s σ H _ v vl vu lo hi sl Q I rx hs pl pu ⟨a, xs, rfl, SqT.of ha, fun hw => ?_, fun _ p hp => ?_⟩
  · exact q a H (Same.refl _) (by rw [cut_whole hw]; exact ha) (.inl rfl)
  · exact q p _ (same_new hp _) upd_same (.inr hp)
def rCatB : R2 := fun x y H Q => ∃ (a b : Addr) (xs ys : List V), x = .ref a ∧ y = .ref b ∧ H a = some (.tup xs) ∧ H b = some (.tup ys) ∧ xs.length + ys.length ≤ sizeLine ∧
  ∀ (r : Addr) (H' : Hp), Same H H' → H' r = some (.tup (xs ++ ys)) → (r = a ∨ r = b ∨ H r = none) → Q (.ref r) H'
theorem op_catB : OpR X (binaryOp .Add) rCatB := by
  intro pins s σ H x y v u Q I rx ry h
  obtain ⟨a, b, xs, ys, rfl, rfl, ha, hb, hz, q⟩ := h
  refine op_catA pins s σ H _ _ v u Q I rx ry ⟨a, b, xs, ys, rfl, rfl, SqT.of ha, SqT.of hb, hz, fun e => ?_, fun _ e => ?_, fun _ _ p hp => ?_⟩
  · subst e
    exact q b H (Same.refl _) hb (.inr (.inl rfl))
  · subst e
    exact q a H (Same.refl _) (by rw [List.append_nil]; exact ha) (.inl rfl)
  · exact q p _ (same_new hp _) upd_same (.inr (.inr hp))
end
theorem cut_to (xs : List V) (n : Nat) : cutV xs none (some (n : Int)) = xs.take n := by
  unfold cutV
  rw [HT.sIx_none, HT.sIx_nat, List.drop_zero, Nat.sub_zero]
  by_cases h : n ≤ xs.length
  · rw [Nat.min_eq_left h]
  · rw [Nat.min_eq_right (by omega), List.take_length, List.take_of_length_le (by omega)]
theorem cut_from (xs : List V) (n : Nat) : cutV xs (some (n : Int)) none = xs.drop n := by
  unfold cutV
  rw [HT.sIx_none, HT.sIx_nat]
  by_cases h : n ≤ xs.length
  · rw [Nat.min_eq_left h]
    exact List.take_of_length_le (by rw [List.length_drop]; omega)
  · rw [Nat.min_eq_right (by omega), List.drop_length, List.drop_of_length_le (by omega)]
    simp
abbrev sOther : Stmt := top 20
abbrev sBent : Stmt := top 21
/-- some value is given, no part of which is the deck's -/
def GivesAny (dk gl : Addr) (k n : Nat) (H : Hp) (Q : VK) : Prop := ∀ (v : V) (d : PyData) (H' : Hp), Ext (avD dk gl) H H' → DeckAt dk gl H' → Rp (avD dk gl) H' v d → Nc k d → d.weight ≤ n → Q v H'
theorem GivesAny.ext {dk gl : Addr} {k n : Nat} {H H1 : Hp} {Q : VK} (g : GivesAny dk gl k n H Q) (e : Ext (avD dk gl) H H1) : GivesAny dk gl k n H1 Q := fun v d H' e2 hD r c w => g v d H' (e.trans e2) hD r c w
theorem GivesAny.less {dk gl : Addr} {k n k' n' : Nat} {H : Hp} {Q : VK} (g : GivesAny dk gl k n H Q) (hk : k' ≤ k) (hn : n' ≤ n) : GivesAny dk gl k' n' H Q := fun v d H' e2 hD r c w => g v d H' e2 hD r (c.up hk) (Nat.le_trans w hn)
theorem GivesAny.new {dk gl : Addr} {k n : Nat} {H : Hp} {Q : VK} (g : GivesAny dk gl k n H Q) (D : DeckAt dk gl H) : GivesNew dk gl k n H Q := fun v d H' e2 hD r c w => g v d H' e2 hD (r.weak fun _ h => dom_deck D h) c w
def spOther : Sp := fun vs H Q _ => ∃ (dk gl : Addr) (v : V) (d : PyData) (k n : Nat), vs = [.ref dk, v] ∧ DeckAt dk gl H ∧ Rp (avD dk gl) H v d ∧ Nc k d ∧ 4 ≤ k ∧ d.weight ≤ n ∧ n ≤ 500000 ∧ GivesAny dk gl k (2 * n + 700) H Q
def zsOther : List Str := ["in", "out", "stand", "bow", "even", "-", "In", "in ", "rest", "go"]
def zsMore : List Str := ["hand", "look", "yield", "low"]
theorem zsOther_ok : ∀ z ∈ zsOther ++ zsMore, zOk z = true := by decide +kernel
set_option hygiene false
/-! the last three rows of _law_other, from the heap Hc on -/
local macro_rules | `(tactic| walk_at "other end") => `(tactic| (
  refine ⟨_, rfl, rfl, _, rfl, ?_⟩
  refine (if h6 : r = 6 then ?_ else ?_)
  · refine iteY (by simp [h6]) ?_
    refine ⟨_, rfl, avD dk gl, v, d, 0, 1, rfl, rp1, _, rfl, ?_⟩
    refine (if hw6 : wholeB 0 1 d = true then ?_ else ?_)
    · refine iteY hw6 ?_
      cases d with
      | int i =>
        cases rp1.get_int
        refine ⟨_, rfl, rfl, ?_⟩
        exact q _ _ _ Ext.refl DC (.bl _) (.bl _) (Nat.zero_le _)
      | _ => cases hw6
    · refine iteZ hw6 ?_
      refine ⟨_, rfl, (by show 2 ≤ sizeLine; decide), fun t9 ht9 => ?_⟩
      have s19 := same_new ht9 (.tup [.int 4, .int 7])
      refine ⟨t9, [.int 4, .int 7], rfl, .inr (SqT.of upd_same), rfl, rfl, _, rfl, ?_⟩
      refine iteZ (fun c => absurd (of_decide_eq_true ((inTup [4, 7]).symm.trans c)) (by simp; omega)) ?_
      exact ⟨_, rfl, dk, gl, 2, rfl, DC.same s19, by decide, by decide, ((q.ext (Ext.of_same s19)).new (DC.same s19)).less (show 2 * (2 : Int).toNat ≤ k from hk) (show wAny (2 : Int).toNat ≤ 2 * n + 700 from Nat.le_trans (by decide : wAny 2 ≤ 700) (Nat.le_add_left _ _))⟩
  · refine iteZ (by simp [h6]) ?_
    refine iteF (A := True) ?_
    refine ⟨_, rfl, (by show 2 ≤ sizeLine; decide), fun t9 ht9 => ?_⟩
    have s19 := same_new ht9 (.tup [.int 4, .int 7])
    refine ⟨t9, [.int 4, .int 7], rfl, .inr (SqT.of upd_same), rfl, rfl, _, rfl, ?_⟩
    have D19 := DC.same s19
    have q19 := q.ext (Ext.of_same s19)
    refine (if h47 : r ∈ [(4 : Int), 7] then ?_ else ?_)
    · refine iteY ((inTup [4, 7]).trans (decide_eq_true h47)) ?_
      refine ⟨_, rfl, dk, gl, 8, rfl, D19, by decide, fun z H8 e8 D8 z0 z1 => ?_⟩
      have sm : (z - 1).natAbs < 10 ^ 20 := by omega
      exact ⟨_, _, rfl, rfl, q19 _ _ _ e8 D8 (.int _) (.int sm) (Nat.le_trans (w_int sm) (by omega))⟩
    · refine iteZ (fun c => h47 (of_decide_eq_true ((inTup [4, 7]).symm.trans c))) ?_
      exact ⟨_, rfl, dk, gl, 2, rfl, D19, by decide, by decide, (q19.new D19).less (show 2 * (2 : Int).toNat ≤ k from hk) (show wAny (2 : Int).toNat ≤ 2 * n + 700 from Nat.le_trans (by decide : wAny 2 ≤ 700) (Nat.le_add_left _ _))⟩))
local macro_rules | `(tactic| walk_at "other tail") => `(tactic| (
  refine ⟨_, rfl, rfl, _, rfl, ?_⟩
  refine (if h5 : r = 5 then ?_ else ?_)
  · refine iteY (by simp [h5]) ?_
    refine ⟨_, rfl, avD dk gl, v, d, rfl, rp1, _, rfl, ?_⟩
    refine (if hs5 : isT "str" d = true then ?_ else ?_)
    · refine iteY hs5 ?_
      refine ⟨(by show 10 ≤ sizeLine; decide), fun l hl => ?_⟩
      have s11 := same_new hl (.lst (zsOther.map V.str))
      refine ⟨_, rfl, _, rfl, (by show 4 ≤ sizeLine; decide), fun l2 hl2 => ?_⟩
      have s12 := same_new hl2 (.lst (zsMore.map V.str))
      refine ⟨l, l2, zsOther.map V.str, zsMore.map V.str, rfl, rfl, s12 _ _ upd_same, upd_same, (by show 14 ≤ sizeLine; decide), fun l3 hl3 => ?_⟩
      have s13 := same_new hl3 (.lst (zsOther.map V.str ++ zsMore.map V.str))
      have s14 := s11.trans (s12.trans s13)
      refine ⟨dk, gl, l3, (zsOther ++ zsMore).map V.str, rfl, DC.same s14, upd_same, (DC.same (s11.trans s12)).new hl3, by decide, by decide, fun v9 H9 hv9 e9 D9 => ?_⟩
      obtain ⟨z9, hz9, rfl⟩ := mem_strs hv9
      obtain ⟨n1, n2⟩ := Nc.ofZ (k := k) (zsOther_ok z9 hz9)
      exact q _ _ _ ((Ext.of_same s14).trans e9) D9 (.str z9) n1 (by omega)
    · refine iteZ hs5 ?_
      walk_at "other end"
  · refine iteZ (by simp [h5]) ?_
    refine iteF (A := True) ?_
    walk_at "other end"))
section
variable {P : Program} {w : World} {K : PySem.W.Frag} {mg : Str → Option Value} {base : Heap} {f : Addr} {fd : FuncData}
theorem scOther : FnScope ["deck", "item", "sort", "words"] ["deck", "item"] (defScope sOther) := ⟨rfl, rfl, rfl, by decide +kernel, rfl, by decide +kernel, by decide +kernel⟩
theorem ok_other (F : Fun K "_law_other" "_law_other" sOther f fd) (B : Blt mg) (DD : Dfn P w K mg base "_law_draw" ["deck", "many"] 1 spDraw) (DP : Dfn P w K mg base "_law_pick" ["deck", "items"] 2 spPick)
    (DW : Dfn P w K mg base "_law_whole" ["value", "least", "most"] 1 spWhole) (DA : Dfn P w K mg base "_law_any" ["deck", "deep"] 5 (spAny 3)) : FnOk P w K mg base CX0 6 f fd ["deck", "item"] spOther := by
  refine F.ok scOther (fun vs H Q E h => ?_) (fun cdv A outer s H vs Q E hr h => ?_)
  · obtain ⟨_, _, _, _, _, _, rfl, _⟩ := h
    rfl
  obtain ⟨dk, gl, v, d, k, n, rfl, hD, rp, nc, hk, wd, hn, q⟩ := h
  have nd := scOther.nd
  have hr1 : Room 1 (A.deeper (PyProof.Rows.envOfC "_law_other" (defScope sOther) s.heap.objs.size f cdv)) := hr.mono (by omega)
  have hr2 : Room 2 (A.deeper (PyProof.Rows.envOfC "_law_other" (defScope sOther) s.heap.objs.size f cdv)) := hr.mono (by omega)
  refine ⟨_, pss_cons (ps_set (i := 2) nd rfl (Or.inl rfl) (pe_own DD hr1 (pa_cons (pv 0) (pa_cons pe_int pa_nil))))
    (pss_cons (ps_if (PW.pt (pw_and (pt_cmpR op_lt (pv 2) pe_int (nomark _)) (pw_and1 (pt_val (pe_own DW hr1 (pa_cons (pv 1) (pa_cons (pe_un un_neg pe_int) (pa_cons pe_int pa_nil)))))))) (pss_one (ps_ret (pe_op op_sub (pe_op op_add (pv 1) pe_int) (pe_op op_mul pe_int (pv 2))))) pss_nil)
    (pss_cons (ps_if (PW.pt (pw_and (pt_val (pe_isi (n := "tuple") (by simp) (pv 1) B.isi B.tup bt_tuple)) (pw_and1 (pt_cmpR op_in_seq (pv 2) (pe_tup (pa_cons pe_int (pa_cons pe_int (pa_cons pe_int (pa_cons pe_int pa_nil))))) (by rfl)))))
      (pss_one (ps_ret (pe_ix ix_list (pe_lst (pa_cons (pe_callTy call_list_of (by rfl) B.list (by decide +kernel) (pa_cons (pv 1) pa_nil)) (pa_cons (pe_op op_catB (pv 1) (pe_slice sl_tupB (pv 1) po_none (po_some pe_int)))
        (pa_cons (pe_slice sl_tupB (pv 1) (po_some pe_int) po_none) (pa_cons (pe_op op_catB (pv 1) (pe_tup (pa_cons pe_non pa_nil))) pa_nil))))) (pe_op op_sub (pv 2) pe_int) (fun _ _ => rfl)))) pss_nil)
    (pss_cons (ps_if (PW.pt (pw_and (pt_cmpR op_eq (pv 2) pe_int (nomark _)) (pw_and1 (pt_val (pe_isi (n := "str") (by simp) (pv 1) B.isi B.str bt_str)))))
      (pss_cons (ps_set (i := 3) nd rfl (Or.inl rfl) (pe_lst (pa_cons pe_str (pa_cons pe_str (pa_cons pe_str (pa_cons pe_str (pa_cons pe_str (pa_cons pe_str (pa_cons pe_str (pa_cons pe_str (pa_cons pe_str (pa_cons pe_str pa_nil))))))))))))
        (pss_one (ps_ret (pe_own DP hr2 (pa_cons (pv 0) (pa_cons (pe_op op_cat (pv 3) (pe_lst (pa_cons pe_str (pa_cons pe_str (pa_cons pe_str (pa_cons pe_str pa_nil)))))) pa_nil)))))) pss_nil)
    (pss_cons (ps_if (PW.pt (pw_and (pt_cmpR op_eq (pv 2) pe_int (nomark _)) (pw_and1 (pt_val (pe_own DW hr1 (pa_cons (pv 1) (pa_cons pe_int (pa_cons pe_int pa_nil)))))))) (pss_one (ps_ret (pe_cmpR op_eq (pv 1) pe_int (nomark _)))) pss_nil)
    (pss_one (ps_ret (pe_ifExp (pt_cmpR op_in_seq (pv 2) (pe_tup (pa_cons pe_int (pa_cons pe_int pa_nil))) (by rfl)) (pe_op op_sub (pe_own DD hr1 (pa_cons (pv 0) (pa_cons pe_int pa_nil))) pe_int) (pe_own DA hr (pa_cons (pv 0) (pa_cons pe_int pa_nil)))))))))), ?_⟩
  refine ⟨_, rfl, dk, gl, 9, rfl, hD, by decide, fun r H1 e1 D1 r0 r1 => ?_⟩
  have r9 : r < 9 := by omega
  replace q := q.ext e1
  have rp1 := rp.mono e1
  clear r1 rp e1 hD
  have ten20 : (10 : Nat) ^ 20 = 100000000000000000000 := by decide
  have numbers : ∀ i : Int, -9 ≤ i → i ≤ 99999 → Q (.int (i + 1 - 2 * r)) H1 := fun i a b => by
    have sm : (i + 1 - 2 * r).natAbs < 10 ^ 20 := by omega
    exact q _ _ _ Ext.refl D1 (.int _) (.int sm) (Nat.le_trans (w_int sm) (by omega))
  have inTup : ∀ (zs : List Int), (if false then !inV (V.int r) (zs.map V.int) else inV (V.int r) (zs.map V.int)) = decide (r ∈ zs) := fun zs => inV_ints r zs
  refine ⟨_, rfl, _, _, rfl, rfl, _, rfl, ?_⟩
  by_cases hr2 : r < 2
  · refine iteY (decide_eq_true hr2) ?_
    refine ⟨_, rfl, _, rfl, avD dk gl, v, d, -9, 99999, rfl, rp1, _, rfl, ?_⟩
    by_cases hw : wholeB (-9) 99999 d = true
    · refine iteY hw ?_
      cases d with
      | int i =>
        cases rp1.get_int
        have h3 : -9 ≤ i ∧ i ≤ 99999 := by
          rw [whole_at, Bool.and_eq_true, decide_eq_true_eq, decide_eq_true_eq] at hw
          exact hw
        refine ⟨_, rfl, _, _, rfl, rfl, _, rfl, _, _, rfl, rfl, .inl ⟨by decide, by decide⟩, _, _, rfl, rfl, numbers i h3.1 h3.2⟩
      | _ => cases hw
    refine iteZ hw ?_
    refine ⟨_, rfl, avD dk gl, v, d, rfl, rp1, _, rfl, ?_⟩
    by_cases ht : isT "tuple" d = true
    · refine iteY ht ?_
      refine ⟨_, rfl, (by show 4 ≤ sizeLine; decide), fun t ht2 => ?_⟩
      have s1 := same_new ht2 (.tup [.int 2, .int 3, .int 4, .int 5])
      refine ⟨t, [.int 2, .int 3, .int 4, .int 5], rfl, .inr (SqT.of upd_same), rfl, rfl, _, rfl, ?_⟩
      have hr5 : ¬ r ∈ [(2 : Int), 3, 4, 5] := by
        simp
        omega
      refine iteZ (fun c => hr5 (of_decide_eq_true ((inTup [2, 3, 4, 5]).symm.trans c))) ?_
      have D2 := D1.same s1
      replace q := q.ext (Ext.of_same s1)
      replace rp1 := rp1.mono (Ext.of_same s1)
      generalize upd H1 t (.tup [.int 2, .int 3, .int 4, .int 5]) = Hc at D2 q rp1
      have DC := D2
      walk_at "other tail"
    · refine iteZ ht ?_
      refine iteF (A := True) ?_
      have DC := D1
      walk_at "other tail"
  · refine iteZ (fun c => hr2 (of_decide_eq_true c)) ?_
    refine iteF (A := True) ?_
    refine ⟨_, rfl, avD dk gl, v, d, rfl, rp1, _, rfl, ?_⟩
    by_cases ht : isT "tuple" d = true
    · refine iteY ht ?_
      refine ⟨_, rfl, (by show 4 ≤ sizeLine; decide), fun t ht2 => ?_⟩
      have s1 := same_new ht2 (.tup [.int 2, .int 3, .int 4, .int 5])
      refine ⟨t, [.int 2, .int 3, .int 4, .int 5], rfl, .inr (SqT.of upd_same), rfl, rfl, _, rfl, ?_⟩
      by_cases hr5 : r ∈ [(2 : Int), 3, 4, 5]
      · refine iteY ((inTup [2, 3, 4, 5]).trans (decide_eq_true hr5)) ?_
        obtain ⟨ds, rfl⟩ := isT_tup.mp ht
        obtain ⟨a, xs, rfl, na, ha, hx⟩ := rp1.get_tup
        have ha1 := s1 _ _ ha
        have E1 : Ext (avD dk gl) H1 (upd H1 t (.tup [.int 2, .int 3, .int 4, .int 5])) := Ext.of_same s1
        have D2 := D1.same s1
        replace q := q.ext E1
        replace hx := hx.mono E1
        generalize upd H1 t (.tup [.int 2, .int 3, .int 4, .int 5]) = H2 at ha1 D2 q hx
        have hl := hx.len
        have hwl := wA_len ds
        have wd2 : PyData.weightAll ds ≤ n := by simpa only [PyData.weight] using wd
        obtain ⟨nc2, k1⟩ := nc.of_tup
        obtain ⟨k', rfl⟩ : ∃ k', k = k' + 1 := ⟨k - 1, by omega⟩
        have nc3 : NcAll k' ds := nc2
        have lim : xs.length + xs.length ≤ sizeLine := by
          rw [PySem.sizeLine_eq]
          omega
        -- list(item)
        refine ⟨_, rfl, a, xs, rfl, .inr (SqT.of ha1), fun l hl1 => ?_⟩
        have s3 := same_new hl1 (.lst xs)
        -- item + item[:1]
        refine ⟨_, rfl, _, rfl, 1, rfl, a, xs, rfl, s3 _ _ ha1, fun c1 H3 s4 hc1 oc1 => ?_⟩
        have ha3 := s4 _ _ (s3 _ _ ha1)
        rw [show (some (1 : Int)) = some ((1 : Nat) : Int) from rfl, cut_to] at hc1
        refine ⟨a, c1, xs, _, rfl, rfl, ha3, hc1, ?_, fun c2 H4 s5 hc2 oc2 => ?_⟩
        · rw [List.length_take]
          omega
        have ha4 := s5 _ _ ha3
        -- item[1:]
        refine ⟨_, rfl, 1, rfl, a, xs, rfl, ha4, fun c3 H5 s6 hc3 oc3 => ?_⟩
        rw [show (some (1 : Int)) = some ((1 : Nat) : Int) from rfl, cut_from] at hc3
        have ha5 := s6 _ _ ha4
        -- item + (None,)
        refine ⟨_, rfl, (by show 1 ≤ sizeLine; decide), fun t1 ht1 => ?_⟩
        have s7 := same_new ht1 (.tup [.non])
        refine ⟨a, t1, xs, [.non], rfl, rfl, s7 _ _ ha5, upd_same, ?_, fun c4 H6 s8 hc4 oc4 => ?_⟩
        · show xs.length + 1 ≤ sizeLine
          rw [PySem.sizeLine_eq]
          omega
        refine ⟨(by show 4 ≤ sizeLine; decide), fun z hz => ?_⟩
        have s9 := same_new hz (.lst [.ref l, .ref c2, .ref c3, .ref c4])
        have S3 := s3.trans s4
        have S4 := S3.trans s5
        have S5 := S4.trans s6
        have S7 := S5.trans s7
        have S8 := S7.trans s8
        have S9 := S8.trans s9
        have EX := Ext.of_same (av := avD dk gl) S9
        have DD9 := D2.same S9
        have hx9 := hx.mono EX
        have na2 : ¬ avD dk gl c1 := by
          rcases oc1 with e | e
          · rw [e]
            exact na
          · exact (D2.same s3).new e
        have na3 : ¬ avD dk gl c2 := by
          rcases oc2 with e | e | e
          · rw [e]
            exact na
          · rw [e]
            exact na2
          · exact (D2.same S3).new e
        have na4 : ¬ avD dk gl c3 := by
          rcases oc3 with e | e
          · rw [e]
            exact na
          · exact (D2.same S4).new e
        have na5 : ¬ avD dk gl c4 := by
          rcases oc4 with e | e | e
          · rw [e]
            exact na
          · rw [e]
            exact (D2.same S5).new ht1
          · exact (D2.same S7).new e
        have hl9 := s9 _ _ (s8 _ _ (s7 _ _ (s6 _ _ (s5 _ _ (s4 _ _ (upd_same (H := H2) (a := l) (o := .lst xs)))))))
        have hc29 := s9 _ _ (s8 _ _ (s7 _ _ (s6 _ _ hc2)))
        have hc39 := s9 _ _ (s8 _ _ (s7 _ _ hc3))
        have hc49 := s9 _ _ hc4
        have r2345 : r = 2 ∨ r = 3 ∨ r = 4 ∨ r = 5 := by simpa using hr5
        have wt1 := wA_take 1 ds
        have wd1 := wA_drop 1 ds
        rcases r2345 with e | e | e | e <;> subst e
        · refine ⟨_, rfl, _, _, rfl, rfl, z, _, _, .ref l, rfl, rfl, SqL.of upd_same, rfl, ?_⟩
          refine q _ _ _ EX DD9 (.lst (D2.new hl1) hl9 hx9) (Nc.lst nc3) ?_
          simp only [PyData.weight]
          omega
        · refine ⟨_, rfl, _, _, rfl, rfl, z, _, _, .ref c2, rfl, rfl, SqL.of upd_same, rfl, ?_⟩
          refine q _ _ _ EX DD9 (.tup na3 hc29 (hx9.app (hx9.take 1))) (Nc.tup (nc3.app (nc3.sub fun d h => List.mem_of_mem_take h))) ?_
          simp only [PyData.weight]
          rw [wA_app]
          omega
        · refine ⟨_, rfl, _, _, rfl, rfl, z, _, _, .ref c3, rfl, rfl, SqL.of upd_same, rfl, ?_⟩
          refine q _ _ _ EX DD9 (.tup na4 hc39 (hx9.drop 1)) (Nc.tup (nc3.sub fun d h => List.mem_of_mem_drop h)) ?_
          simp only [PyData.weight]
          omega
        · refine ⟨_, rfl, _, _, rfl, rfl, z, _, _, .ref c4, rfl, rfl, SqL.of upd_same, rfl, ?_⟩
          refine q _ _ _ EX DD9 (.tup na5 hc49 (hx9.snoc .non)) (Nc.tup (nc3.app (.cons .non .nil))) ?_
          simp only [PyData.weight]
          rw [wA_app]
          simp only [PyData.weightAll, PyData.weight]
          omega
      · refine iteZ (fun c => hr5 (of_decide_eq_true ((inTup [2, 3, 4, 5]).symm.trans c))) ?_
        have D2 := D1.same s1
        replace q := q.ext (Ext.of_same s1)
        replace rp1 := rp1.mono (Ext.of_same s1)
        generalize upd H1 t (.tup [.int 2, .int 3, .int 4, .int 5]) = Hc at D2 q rp1
        have DC := D2
        walk_at "other tail"
    · refine iteZ ht ?_
      refine iteF (A := True) ?_
      have DC := D1
      walk_at "other tail"
end
end Rw
end
namespace Rw
open PySem L2
def wB (n j : Nat) : Nat := (2 + j) * n + 700 + j
theorem wB_succ (n j : Nat) : wB n (j + 1) = n + wB n j + 1 := by
  unfold wB
  have : (2 + (j + 1)) * n = (2 + j) * n + n := by rw [← Nat.add_assoc]; exact Nat.succ_mul _ _
  omega
theorem wB_low (n j : Nat) : 3 * n ≤ wB n (j + 1) := by
  unfold wB
  have : 3 * n ≤ (2 + (j + 1)) * n := Nat.mul_le_mul_right _ (by omega)
  omega
theorem wB_zero (n j : Nat) : 2 * n + 700 ≤ wB n j := by
  unfold wB
  have : 2 * n ≤ (2 + j) * n := Nat.mul_le_mul_right _ (by omega)
  omega
def spBent (m : Nat) : Sp := fun vs H Q _ => ∃ (dk gl : Addr) (v : V) (d : PyData) (deep : Int) (k n : Nat), vs = [.ref dk, v, .int deep] ∧ DeckAt dk gl H ∧ Rp (avD dk gl) H v d ∧ Nc k d ∧ 4 + deep.toNat ≤ k ∧ d.weight ≤ n ∧ n ≤ 100000 ∧ 0 ≤ deep ∧ deep < (m : Int) ∧ GivesAny dk gl k (wB n deep.toNat) H Q
section
variable {P : Program} {w : World} {K : PySem.W.Frag} {mg : Str → Option Value} {base : Heap} {f : Addr} {fd : FuncData}
theorem scBent : FnScope ["deck", "value", "deep", "at", "sort", "other", "row"] ["deck", "value", "deep"] (defScope sBent) := ⟨rfl, rfl, rfl, by decide +kernel, rfl, by decide +kernel, by decide +kernel⟩
theorem ok_bent {m : Nat} (F : Fun K "_law_bent" "_law_bent" sBent f fd) (B : Blt mg) (DD : Dfn P w K mg base "_law_draw" ["deck", "many"] 1 spDraw) (DO : Dfn P w K mg base "_law_other" ["deck", "item"] 6 spOther)
    (DB : Dfn P w K mg base "_law_bent" ["deck", "value", "deep"] (m + 6) (spBent m)) : FnOk P w K mg base CX0 (m + 7) f fd ["deck", "value", "deep"] (spBent (m + 1)) := by
  refine F.ok scBent (fun vs H Q E h => ?_) (fun cdv A outer s H vs Q E hr h => ?_)
  · obtain ⟨_, _, _, _, _, _, _, rfl, _⟩ := h
    rfl
  obtain ⟨dk, gl, v, d, deep, k, n, rfl, hD, rp, nc, hk, wd, hn, d0, d1, q⟩ := h
  have nd := scBent.nd
  have hu := hu_of hr
  have hu0 : (A.deeper (PyProof.Rows.envOfC "_law_bent" (defScope sBent) s.heap.objs.size f cdv)).units < cLine := by omega
  have hr1 : Room 1 (A.deeper (PyProof.Rows.envOfC "_law_bent" (defScope sBent) s.heap.objs.size f cdv)) := hr.mono (by omega)
  have hr6 : Room 6 (A.deeper (PyProof.Rows.envOfC "_law_bent" (defScope sBent) s.heap.objs.size f cdv)) := hr.mono (by omega)
  refine ⟨_, pss_cons (ps_if (PW.pt (pw_or (pt_not (pt_val (pe_isi (n := "tuple") (by simp) (pv 1) B.isi B.tup bt_tuple))) (pw_or (pt_cmpR (op_eqNil hu0) (pv 1) (pe_tup pa_nil) (nomark _)) (pw_or (pt_cmpR op_eq (pv 2) pe_int (nomark _))
        (pw_or1 (pt_cmpR op_eq (pe_own DD hr1 (pa_cons (pv 0) (pa_cons pe_int pa_nil))) pe_int (nomark _))))))) (pss_one (ps_ret (pe_own DO hr6 (pa_cons (pv 0) (pa_cons (pv 1) pa_nil))))) pss_nil)
    (pss_cons (ps_par (i := 3) (j := 4) (by rfl) nd rfl rfl (by decide) rfl rfl (pa_cons (pe_own DD hr1 (pa_cons (pv 0) (pa_cons (pe_callB call_len_seq (by rfl) B.len PySem.boot_len (pa_cons (pv 1) pa_nil)) pa_nil))) (pa_cons (pe_own DD hr1 (pa_cons (pv 0) (pa_cons pe_int pa_nil))) pa_nil)) (by rfl))
    (pss_cons (ps_if (pt_cmpR op_eq (pv 4) pe_int (nomark _)) (pss_one (ps_ret (pe_op op_catB (pe_slice sl_tupB (pv 1) po_none (po_some (pv 3))) (pe_slice sl_tupB (pv 1) (po_some (pe_op op_add (pv 3) pe_int)) po_none)))) pss_nil)
    (pss_cons (ps_if (pt_cmpR op_eq (pv 4) pe_int (nomark _)) (pss_one (ps_ret (pe_op op_catB (pe_op op_catB (pe_slice sl_tupB (pv 1) po_none (po_some (pv 3))) (pe_tup (pa_cons (pe_ix ix_tup (pv 1) (pv 3) (fun _ _ => rfl)) pa_nil))) (pe_slice sl_tupB (pv 1) (po_some (pv 3)) po_none)))) pss_nil)
    (pss_cons (ps_if (pt_cmpR op_eq (pv 4) pe_int (nomark _))
      (pss_cons (ps_par (i := 5) (j := 6) (by rfl) nd rfl rfl (by decide) rfl rfl (pa_cons (pe_own DD hr1 (pa_cons (pv 0) (pa_cons (pe_callB call_len_seq (by rfl) B.len PySem.boot_len (pa_cons (pv 1) pa_nil)) pa_nil))) (pa_cons (pe_callTy call_list_of (by rfl) B.list (by decide +kernel) (pa_cons (pv 1) pa_nil)) pa_nil)) (by rfl))
      (pss_cons (ps_asg (pe_tup (pa_cons (pe_ix ix_tup (pv 1) (pv 5) (fun _ _ => rfl)) (pa_cons (pe_ix ix_tup (pv 1) (pv 3) (fun _ _ => rfl)) pa_nil))) (pg_tup rfl (pgs_cons (pg_sub (pv 6) (pv 3) set_list) (pgs_cons (pg_sub (pv 6) (pv 5) set_list) pgs_nil))))
      (pss_one (ps_ret (pe_callTy call_tuple_of (by rfl) B.tup (by decide +kernel) (pa_cons (pv 6) pa_nil)))))) pss_nil)
    (pss_one (ps_ret (pe_op op_catB (pe_op op_catB (pe_slice sl_tupB (pv 1) po_none (po_some (pv 3))) (pe_tup (pa_cons (pe_own DB hr (pa_cons (pv 0) (pa_cons (pe_ix ix_tup (pv 1) (pv 3) (fun _ _ => rfl)) (pa_cons (pe_op op_sub (pv 2) pe_int) pa_nil)))) pa_nil))) (pe_slice sl_tupB (pv 1) (po_some (pe_op op_add (pv 3) pe_int)) po_none)))))))), ?_⟩
  have other : ∀ H', Ext (avD dk gl) H H' → DeckAt dk gl H' → spOther [.ref dk, v] H' Q E0 := fun H' e D => ⟨dk, gl, v, d, k, n, rfl, D, rp.mono e, nc, by omega, wd, by omega, (q.ext e).less (Nat.le_refl _) (wB_zero _ _)⟩
  refine ⟨_, rfl, avD dk gl, v, d, rfl, rp, _, rfl, ?_⟩
  by_cases ht : isT "tuple" d = true
  case neg =>
    refine iteY (by simpa using ht) ?_
    refine iteT (B := True) ?_
    exact ⟨_, rfl, _, rfl, other H Ext.refl hD⟩
  refine iteZ (by simpa using ht) ?_
  obtain ⟨ds, rfl⟩ := isT_tup.mp ht
  obtain ⟨a, xs, rfl, na, ha, hx⟩ := id rp.get_tup
  have hl := hx.len
  refine ⟨_, rfl, Nat.zero_le _, fun t0 ht0 => ?_⟩
  have s0 := same_new ht0 (.tup [])
  refine ⟨a, t0, xs, rfl, rfl, SqT.of (s0 _ _ ha), SqT.of upd_same, _, rfl, ?_⟩
  have E0' := Ext.of_same (av := avD dk gl) s0
  have D0 := hD.same s0
  by_cases hx0 : xs = []
  · refine iteY (decide_eq_true hx0) ?_
    refine iteT (B := True) ?_
    exact ⟨_, rfl, _, rfl, other _ E0' D0⟩
  refine iteZ (fun c => hx0 (of_decide_eq_true c)) ?_
  refine ⟨_, rfl, rfl, _, rfl, ?_⟩
  by_cases hd0 : deep = 0
  · refine iteY (by simp [hd0]) ?_
    refine iteT (B := True) ?_
    exact ⟨_, rfl, _, rfl, other _ E0' D0⟩
  refine iteZ (by simp [hd0]) ?_
  refine ⟨_, rfl, dk, gl, 6, rfl, D0, by decide, fun z1 H1 e1 D1 _ _ => ?_⟩
  replace e1 := E0'.trans e1
  refine ⟨rfl, _, rfl, ?_⟩
  by_cases hz1 : z1 = 0
  · refine iteY (by simp [hz1]) ?_
    exact ⟨_, rfl, _, rfl, other _ e1 D1⟩
  refine iteZ (by simp [hz1]) ?_
  -- at, sort
  have len1 : 0 < xs.length := List.length_pos_iff.mpr hx0
  have hwl := wA_len ds
  have wd2 : PyData.weightAll ds ≤ n := by simpa only [PyData.weight] using wd
  have szx : xs.length ≤ 100000 := by omega
  refine ⟨_, rfl, _, rfl, a, xs, rfl, .inr (SqT.of (e1 _ _ na ha)), dk, gl, _, rfl, D1, by omega, fun at_ H2 e2 D2 a0 a1 => ?_⟩
  have at1 : at_.toNat < xs.length := by omega
  have e12 := e1.trans e2
  refine ⟨_, rfl, dk, gl, 9, rfl, D2, by decide, fun sort H3 e3 D3 s0 s1 => ?_⟩
  have e13 := e12.trans e3
  have ha3 := e13 _ _ na ha
  have hx3 := hx.mono e13
  replace q := q.ext e13
  obtain ⟨j, hj⟩ : ∃ j : Nat, deep.toNat = j + 1 := ⟨deep.toNat - 1, by omega⟩
  have hj2 : (deep - 1).toNat = j := by omega
  rw [hj] at q hk
  obtain ⟨nc2, k1⟩ := nc.of_tup
  obtain ⟨k', rfl⟩ : ∃ k', k = k' + 1 := ⟨k - 1, by omega⟩
  have nc3 : NcAll k' ds := nc2
  clear e1 e2 e3 e12 other E0' D0 D1 D2 ha hx hD rp
  obtain ⟨i, rfl⟩ : ∃ i : Nat, at_ = (i : Int) := ⟨at_.toNat, by omega⟩
  have hi : i < xs.length := by omega
  have hid : i < ds.length := by omega
  have gx : xs[i]? = some xs[i] := List.getElem?_eq_getElem hi
  have gd : ds[i]? = some ds[i] := List.getElem?_eq_getElem hid
  have next_ : (some ((i : Int) + 1)) = some ((i + 1 : Nat) : Int) := by congr 1
  have wlow := wB_low n j
  have wi : ds[i].weight + 1 ≤ PyData.weightAll ds := wA_mem (List.getElem_mem hid)
  have wt := wA_take i ds
  have wdr := wA_drop i ds
  have wsplit : PyData.weightAll (ds.take i) + PyData.weightAll (ds.drop i) = PyData.weightAll ds := by
    rw [← wA_app, List.take_append_drop]
  have wsplit2 : PyData.weightAll (ds.drop i) = ds[i].weight + 1 + PyData.weightAll (ds.drop (i + 1)) := by
    rw [List.drop_eq_getElem_cons hid]
    simp only [PyData.weightAll]
  have rpi : Rp (avD dk gl) H3 xs[i] ds[i] := by
    obtain ⟨d', e, r⟩ := hx3.at gx
    rw [gd] at e
    cases e
    exact r
  have nci : Nc k' ds[i] := NcAll.iff.mp nc3 _ (List.getElem_mem hid)
  have small : ∀ p : Nat, p ≤ 300000 → p ≤ sizeLine := fun p hp => by
    rw [PySem.sizeLine_eq]
    omega
  have fin : ∀ (r : Addr) (H' : Hp) (es : List PyData) (ys : List V), Ext (avD dk gl) H3 H' → DeckAt dk gl H' → ¬ avD dk gl r → H' r = some (.tup ys) → RpAll (avD dk gl) H' ys es → NcAll k' es → PyData.weightAll es ≤ wB n (j + 1) → Q (.ref r) H' := fun r H' es ys e D nr hr rr ne we =>
    q _ _ _ e D (.tup nr hr rr) (Nc.tup ne) (by simpa only [PyData.weight] using we)
  have was : ∀ {H : Hp} {r : Addr}, DeckAt dk gl H → (r = a ∨ H r = none) → ¬ avD dk gl r := fun D o => by
    rcases o with e | e
    · rw [e]
      exact na
    · exact D.new e
  refine ⟨_, _, rfl, ?_⟩
  refine ⟨_, rfl, rfl, _, rfl, ?_⟩
  by_cases hs0 : sort = 0
  · refine iteY (by simp [hs0]) ?_
    refine ⟨_, rfl, _, rfl, (i : Int), rfl, a, xs, rfl, ha3, fun c1 H4 t1 hc1 oc1 => ?_⟩
    rw [cut_to] at hc1
    refine ⟨_, rfl, _, rfl, _, _, rfl, rfl, _, rfl, a, xs, rfl, t1 _ _ ha3, fun c2 H5 t2 hc2 oc2 => ?_⟩
    rw [next_, cut_from] at hc2
    refine ⟨c1, c2, _, _, rfl, rfl, t2 _ _ hc1, hc2, small _ (by rw [List.length_take, List.length_drop]; omega), fun r H6 t3 hr6 or6 => ?_⟩
    have T := t1.trans (t2.trans t3)
    have D5 := D3.same (t1.trans t2)
    have nr : ¬ avD dk gl r := by
      rcases or6 with e | e | e
      · rw [e]
        exact was D3 oc1
      · rw [e]
        exact was (D3.same t1) oc2
      · exact D5.new e
    have hx6 := hx3.mono (Ext.of_same T)
    refine fin r H6 _ _ (Ext.of_same T) (D3.same T) nr hr6 ((hx6.take i).app (hx6.drop (i + 1))) ((nc3.sub fun d h => List.mem_of_mem_take h).app (nc3.sub fun d h => List.mem_of_mem_drop h)) ?_
    rw [wA_app]
    omega
  refine iteZ (by simp [hs0]) ?_
  refine ⟨_, rfl, rfl, _, rfl, ?_⟩
  by_cases hs1 : sort = 1
  · refine iteY (by simp [hs1]) ?_
    refine ⟨_, rfl, _, rfl, (i : Int), rfl, a, xs, rfl, ha3, fun c1 H4 t1 hc1 oc1 => ?_⟩
    rw [cut_to] at hc1
    refine ⟨_, rfl, _, rfl, a, xs, _, _, rfl, rfl, SqT.of (t1 _ _ ha3), atI_nat gx, (by show 1 ≤ sizeLine; decide), fun p2 hp2 => ?_⟩
    have t2 := same_new hp2 (.tup [xs[i]])
    refine ⟨c1, p2, _, _, rfl, rfl, t2 _ _ hc1, upd_same, small _ (by rw [List.length_take, List.length_singleton]; omega), fun c3 H5 t3 hc3 oc3 => ?_⟩
    have T5 := t1.trans (t2.trans t3)
    refine ⟨_, rfl, _, rfl, (i : Int), rfl, a, xs, rfl, T5 _ _ ha3, fun c4 H6 t4 hc4 oc4 => ?_⟩
    rw [cut_from] at hc4
    refine ⟨c3, c4, _, _, rfl, rfl, t4 _ _ hc3, hc4, small _ (by rw [List.length_append, List.length_take, List.length_drop, List.length_singleton]; omega), fun r H7 t5 hr7 or7 => ?_⟩
    have T7 := T5.trans (t4.trans t5)
    have n3 : ¬ avD dk gl c3 := by
      rcases oc3 with e | e | e
      · rw [e]
        exact was D3 oc1
      · rw [e]
        exact (D3.same t1).new hp2
      · exact (D3.same (t1.trans t2)).new e
    have nr : ¬ avD dk gl r := by
      rcases or7 with e | e | e
      · rw [e]
        exact n3
      · rw [e]
        exact was (D3.same T5) oc4
      · exact (D3.same (T5.trans t4)).new e
    have hx7 := hx3.mono (Ext.of_same T7)
    refine fin r H7 _ _ (Ext.of_same T7) (D3.same T7) nr hr7 (((hx7.take i).snoc (rpi.mono (Ext.of_same T7))).app (hx7.drop i)) (((nc3.sub fun d h => List.mem_of_mem_take h).app (.cons nci .nil)).app (nc3.sub fun d h => List.mem_of_mem_drop h)) ?_
    rw [wA_app, wA_app]
    simp only [PyData.weightAll]
    omega
  refine iteZ (by simp [hs1]) ?_
  refine ⟨_, rfl, rfl, _, rfl, ?_⟩
  by_cases hs2 : sort = 2
  · refine iteY (by simp [hs2]) ?_
    refine ⟨_, rfl, _, rfl, a, xs, rfl, .inr (SqT.of ha3), dk, gl, _, rfl, D3, by omega, fun o_ H4 e4 D4 o0 o1 => ?_⟩
    have oi1 : o_.toNat < xs.length := by omega
    obtain ⟨o, rfl⟩ : ∃ o : Nat, o_ = (o : Int) := ⟨o_.toNat, by omega⟩
    have oi : o < xs.length := by omega
    have oid : o < ds.length := by omega
    have ox : xs[o]? = some xs[o] := List.getElem?_eq_getElem oi
    have od : ds[o]? = some ds[o] := List.getElem?_eq_getElem oid
    have wo : ds[o].weight + 1 ≤ PyData.weightAll ds := wA_mem (List.getElem_mem oid)
    have ha4 := e4 _ _ na ha3
    refine ⟨_, rfl, a, xs, rfl, .inr (SqT.of ha4), fun l hl1 => ⟨_, _, rfl, ?_⟩⟩
    have t1 := same_new hl1 (.lst xs)
    have nl := D4.new hl1
    have al : a ≠ l := ne_of_none ha4 hl1
    refine ⟨_, rfl, _, rfl, a, xs, _, _, rfl, rfl, SqT.of (t1 _ _ ha4), atI_nat ox, _, rfl, _, rfl, a, xs, _, _, rfl, rfl, SqT.of (t1 _ _ ha4), atI_nat gx, (by show 2 ≤ sizeLine; decide), fun p2 hp2 => ?_⟩
    have t2 := same_new hp2 (.tup [xs[o], xs[i]])
    have hl2 := t2 _ _ (upd_same (H := H4) (a := l) (o := .lst xs))
    have E5 : Ext (avD dk gl) H3 (upd (upd H4 l (.lst xs)) p2 (.tup [xs[o], xs[i]])) := e4.trans (Ext.of_same (t1.trans t2))
    have D5 := D4.same (t1.trans t2)
    have m5 : upd (upd H4 l (.lst xs)) p2 (.tup [xs[o], xs[i]]) p2 = some (.tup [xs[o], xs[i]]) := upd_same
    have lnone : H3 l = none := by
      cases z : H3 l with
      | none => rfl
      | some u =>
        have := e4 _ _ nl z
        rw [this] at hl1
        cases hl1
    generalize upd (upd H4 l (.lst xs)) p2 (.tup [xs[o], xs[i]]) = H5 at hl2 E5 D5 m5
    have ix1 : ixN xs.length (i : Int) = some i := by
      unfold ixN
      rw [if_pos (by omega), if_pos (by omega), Int.toNat_natCast]
    have ix2 : ixN (xs.set i xs[o]).length (o : Int) = some o := by
      rw [List.length_set]
      unfold ixN
      rw [if_pos (by omega), if_pos (by omega), Int.toNat_natCast]
    refine ⟨p2, _, rfl, SqT.of m5, rfl, _, _, rfl, _, rfl, _, rfl, l, xs, _, i, rfl, rfl, hl2, ix1, _, _, rfl, _, rfl, _, rfl, l, xs.set i xs[o], _, o, rfl, rfl, upd_same, ix2, rfl, ?_⟩
    have E7 : Ext (avD dk gl) H3 (upd (upd H5 l (.lst (xs.set i xs[o]))) l (.lst ((xs.set i xs[o]).set o xs[i]))) := by
      rw [upd_upd]
      exact ext_upd E5 lnone _
    have D7 : DeckAt dk gl (upd (upd H5 l (.lst (xs.set i xs[o]))) l (.lst ((xs.set i xs[o]).set o xs[i]))) := by
      rw [upd_upd]
      exact D5.put nl _
    have m7 : upd (upd H5 l (.lst (xs.set i xs[o]))) l (.lst ((xs.set i xs[o]).set o xs[i])) l = some (.lst ((xs.set i xs[o]).set o xs[i])) := upd_same
    generalize upd (upd H5 l (.lst (xs.set i xs[o]))) l (.lst ((xs.set i xs[o]).set o xs[i])) = H7 at E7 D7 m7
    refine ⟨_, rfl, l, _, rfl, .inl ⟨SqL.of m7, fun r hr7 => ?_⟩⟩
    have t8 := same_new hr7 (.tup ((xs.set i xs[o]).set o xs[i]))
    have E8 := E7.trans (Ext.of_same t8)
    have rpo : Rp (avD dk gl) H3 xs[o] ds[o] := by
      obtain ⟨d', e, r⟩ := hx3.at ox
      rw [od] at e
      cases e
      exact r
    have nco : Nc k' ds[o] := NcAll.iff.mp nc3 _ (List.getElem_mem oid)
    refine fin r _ ((ds.set i ds[o]).set o ds[i]) _ E8 (D7.same t8) (D7.new hr7) upd_same (((hx3.set rpo i).set rpi o).mono E8) ((nc3.set nco i).set nci o) ?_
    have w1 := wA_set ds i ds[o]
    have w2 := wA_set (ds.set i ds[o]) o ds[i]
    omega
  refine iteZ (by simp [hs2]) ?_
  refine ⟨_, rfl, _, rfl, (i : Int), rfl, a, xs, rfl, ha3, fun c1 H4 t1 hc1 oc1 => ?_⟩
  rw [cut_to] at hc1
  have D4 := D3.same t1
  refine ⟨_, rfl, _, rfl, _, rfl, a, xs, _, _, rfl, rfl, SqT.of (t1 _ _ ha3), atI_nat gx, _, rfl, _, _, rfl, rfl, dk, gl, xs[i], ds[i], deep - 1, k', n, rfl, D4, rpi.mono (Ext.of_same t1), nci, by omega, by omega, hn, by omega, by omega, fun v5 d5 H5 e5 D5 r5 n5 w5 => ?_⟩
  rw [hj2] at w5
  have nc1 : ¬ avD dk gl c1 := was D3 oc1
  have hc15 := e5 _ _ nc1 hc1
  refine ⟨(by show 1 ≤ sizeLine; decide), fun p2 hp2 => ?_⟩
  have t2 := same_new hp2 (.tup [v5])
  refine ⟨c1, p2, _, _, rfl, rfl, t2 _ _ hc15, upd_same, small _ (by rw [List.length_take, List.length_singleton]; omega), fun c3 H6 t3 hc3 oc3 => ?_⟩
  have E6 : Ext (avD dk gl) H3 H6 := (Ext.of_same t1).trans (e5.trans (Ext.of_same (t2.trans t3)))
  have D6 := D5.same (t2.trans t3)
  refine ⟨_, rfl, _, rfl, _, _, rfl, rfl, _, rfl, a, xs, rfl, E6 _ _ na ha3, fun c4 H7 t4 hc4 oc4 => ?_⟩
  rw [next_, cut_from] at hc4
  refine ⟨c3, c4, _, _, rfl, rfl, t4 _ _ hc3, hc4, small _ (by rw [List.length_append, List.length_take, List.length_drop, List.length_singleton]; omega), fun r H8 t5 hr8 or8 => ?_⟩
  have n3 : ¬ avD dk gl c3 := by
    rcases oc3 with e | e | e
    · rw [e]
      exact nc1
    · rw [e]
      exact D5.new hp2
    · exact (D5.same t2).new e
  have nr : ¬ avD dk gl r := by
    rcases or8 with e | e | e
    · rw [e]
      exact n3
    · rw [e]
      exact was D6 oc4
    · exact (D6.same t4).new e
  have E8 := E6.trans (Ext.of_same (t4.trans t5))
  have hx8 := hx3.mono E8
  have r58 := r5.mono (Ext.of_same (t2.trans (t3.trans (t4.trans t5))))
  refine fin r H8 _ _ E8 (D6.same (t4.trans t5)) nr hr8 (((hx8.take i).snoc r58).app (hx8.drop (i + 1))) (((nc3.sub fun d h => List.mem_of_mem_take h).app (.cons n5 .nil)).app (nc3.sub fun d h => List.mem_of_mem_drop h)) ?_
  rw [wA_app, wA_app]
  simp only [PyData.weightAll]
  have ws := wB_succ n j
  omega
theorem bent_all (D : Def K mg "_law_bent" sBent ["deck", "value", "deep"]) (B : Blt mg) (DD : Dfn P w K mg base "_law_draw" ["deck", "many"] 1 spDraw) (DO : Dfn P w K mg base "_law_other" ["deck", "item"] 6 spOther) : ∀ m : Nat, Dfn P w K mg base "_law_bent" ["deck", "value", "deep"] (m + 6) (spBent m)
  | 0 => by
    obtain ⟨f, fd, F, mm, b⟩ := D.ex
    refine ⟨f, fd, (none_ok fun vs H Q E h => ?_).mono (Nat.zero_le _), mm, F.kp, b⟩
    obtain ⟨_, _, _, _, _, _, _, _, _, _, _, _, _, _, h0, h1, _⟩ := h
    omega
  | m + 1 => D.ok fun f fd F => ok_bent F B DD DO (bent_all D B DD DO m)
end
end Rw
namespace Rw
open PySem PyProof.Rows
/-! ### sorted of a tuple of ints; a value of any kind beside a text -/
section
variable {prog : Program} {w : World} {A : Around} {E : Value → Shared → Prop} {s : Shared}
theorem got_tup {T : Addr} {us : List Value} {Q : List Value → Shared → Prop} (ht : s.heap.IsTuple T us.toArray) (hz : us.length ≤ sizeLine)
    (q : Q us { s with heap := (s.heap.push (seqObj "list" #[] 0)).update s.heap.objs.size (Obj.mapSeq (· ++ us.toArray)) }) : wpAny (model prog w) A (collect (.ref T)) Q E s := by
  obtain ⟨oT, look, cls, k, dat⟩ := ht
  have look2 : (s.heap.push (seqObj "list" #[] 0)).get? T = some oT := Heap.get?_push_of_some _ look
  have mine : (s.heap.push (seqObj "list" #[] 0)).get? s.heap.objs.size = some (seqObj "list" #[] 0) := Heap.get?_push_size _ rfl
  unfold collect
  refine wpAny_bind (wpAny_runValue (codeAny_builtin entry_proto_collect' (show wpAny _ _ (do again (.builtin "list.__iadd__" ⟨[← newList [], .ref T], []⟩)) _ _ s from ?_)))
  refine wpAny_bind (wpAny_newList (wpAny_pure ⟨Code.quiet_builtin _ (by decide +kernel), codeAny_builtin entry_list_iadd' (show wpAny _ _ (Builtin.List.listExtendWith (.ref s.heap.objs.size) (.ref T) (.ref s.heap.objs.size)) _ _ { s with heap := s.heap.push (seqObj "list" #[] 0) } from ?_)⟩))
  unfold Builtin.List.listExtendWith
  refine wpAny_bind (wpAny_typeOf (T := "tuple") ⟨oT, look2, cls⟩ ?_)
  rw [if_pos (by rw [show (Value.type "tuple" == Value.type "tuple") = true from rfl, Bool.or_true])]
  refine wpAny_bind (listItems_at look2 dat (wpAny_bind (listItems_at mine rfl ?_)))
  rw [if_neg (by simp)]
  refine wpAny_bind (listUpdate_at mine rfl (wpAny_pure ?_) (Nat.zero_le _) ?_)
  · refine (show wpAny (model prog w) A (do
      let o ← load s.heap.objs.size
      match o.data with
      | .seq xs _ => pure xs.toList
      | _ => unsupported "internal:collect") Q E { s with heap := (s.heap.push (seqObj "list" #[] 0)).update s.heap.objs.size (Obj.mapSeq (· ++ us.toArray)) } from ?_)
    refine wpAny_bind (wpAny_load (get?_update_seq mine _) (show wpAny _ _ (pure ((#[] : Array Value) ++ us.toArray).toList) Q E _ from ?_))
    rw [show ((#[] : Array Value) ++ us.toArray).toList = us by simp]
    exact wpAny_pure q
  · have e : ((#[] : Array Value) ++ us.toArray).size = us.length := by simp
    rw [e]
    exact Nat.le_succ_of_le hz
theorem sort_tup {T : Addr} {us : List Value} {ns : List Int} {Q : Value → Shared → Prop} (ht : s.heap.IsTuple T us.toArray) (hi : IntsAre us ns) (hz : us.length ≤ sizeLine)
    (q : ∀ (out : Array Value) (ms : List Int), IntsAre out.toList ms → ms.Perm ns → ms.Pairwise (· ≤ ·) → Q (.ref (s.heap.objs.size + 1)) { s with heap := sortedAll s.heap us out }) :
    wpAny (model prog w) A (call (.builtin "sorted") [.ref T]) Q E s := by
  refine Calls.call_function_entry kind_sorted plain_sorted entry_sorted (args_sorted1 _) (show wpAny _ _ (Builtin.«sorted» _) _ _ _ from ?_)
  unfold Builtin.«sorted»
  refine wpAny_bind (m := checkCount "sorted" 1 1 _) (wpAny_pure (wpAny_bind (got_tup ht hz (wpAny_bind (wpAny_newList ?_ hz)))))
  have grown : ((s.heap.push (seqObj "list" #[] 0)).update s.heap.objs.size (Obj.mapSeq (· ++ us.toArray))).objs.size = s.heap.objs.size + 1 := (Heap.size_update ..).trans (size_push' _ _)
  have there : (((s.heap.push (seqObj "list" #[] 0)).update s.heap.objs.size (Obj.mapSeq (· ++ us.toArray))).push (seqObj "list" us.toArray 0)).get? (s.heap.objs.size + 1) = some (seqObj "list" us.toArray 0) := grown ▸ Heap.get?_push_size _ rfl
  refine (show wpAny _ _ _ _ _ { s with heap := ((s.heap.push (seqObj "list" #[] 0)).update s.heap.objs.size (Obj.mapSeq (· ++ us.toArray))).push (seqObj "list" us.toArray 0) } from ?_)
  rw [grown]
  refine wpAny_bind (wpAny_holding (wpAny_call_entry slot_list_sort ⟨_, there, rfl⟩ entry_list_sort (list_sort_treeAny there hi hz fun out ms k1 k2 k3 => ⟨_, rfl, wpAny_pure ⟨_, rfl, q out ms k1 k2 k3⟩⟩) (args_list_sort _)))
end
open L2 PySem.Spec
def rSortT (K : PySem.W.Frag) : List V → Hp → VK → Prop := fun vs H Q => ∃ (T : Addr) (ns : List Int), vs = [V.ref T] ∧ SqT K H T (ns.map V.int) ∧ ns.length ≤ sizeLine ∧
  ∀ (ms : List Int) (p : Addr), ms.Perm ns → ms.Pairwise (· ≤ ·) → H p = none → Q (.ref p) (upd H p (.lst (ms.map V.int)))
section
variable {X : Cx}
theorem call_sortT : CallR X (.builtin "sorted") (rSortT X.K) := by
  intro pins s σ H vs us Q I r h
  obtain ⟨T, ns, rfl, ht, hz, q⟩ := h
  obtain ⟨its, rv, look, _⟩ := I.tuple ht
  rw [Vals.ref1 r]
  have len : its.length = ns.length := by rw [← rv.length, List.length_map]
  refine sort_tup look rv.ints (by rw [len]; exact hz) fun out ms k1 k2 k3 => ?_
  obtain ⟨ep, at_⟩ := sortedAll_at s.heap its out
  have hm : (ms.map V.int).length ≤ sizeLine := by
    rw [List.length_map, k2.length_eq]
    exact hz
  refine ⟨.ref _, upd H (s.heap.objs.size + 1) (.lst (ms.map V.int)), I.laid (t' := s.toks) (fun _ _ => sortedAll_old) (Nat.le_succ _) ⟨hm, out.toList, ep, vals_of_ints k1, ?_⟩, rfl, q _ _ k2 k3 (I.hok.fresh (Nat.le_succ _))⟩
  simpa using at_
end
end Rw
namespace Rw
open PySem PySem.Spec PyProof.Rows L2 PySem.SeqAt
theorem dict_ne_str_no (l : Addr) (es : Array DictEntry) (n : Nat) (dd : Option Addr) (sl : Array (Option Value)) (z : Str) (u : Tok) :
    Meets (Builtin.«dict.__ne__» ⟨[.ref l, .str z u], []⟩) (fun _ R s => s.heap.get? l = some { cls := .type "dict", dict := dd, data := .dict es n, slots := sl } ∧ R (.ok (.ret .notImplemented)) s) :=
  .of_wp fun prog w A R s q => by
    obtain ⟨hp, gens, dr, toks, os⟩ := s
    obtain ⟨look, q⟩ := q
    have other : isSubtype (.type "str") (.type "dict") = pure false := by rw [isSubtype_type]; kernel_rfl
    wp_walk using AutoSeq1.wpAny_loadPart' look, wpAny_load look
    exact ⟨_, rfl, q⟩
theorem str_ne_dict_no (z : Str) (u : Tok) (l : Addr) (c : Value) (es : Array DictEntry) (n : Nat) (dd : Option Addr) (sl : Array (Option Value)) :
    Meets (Builtin.«str.__ne__» ⟨[.str z u, .ref l], []⟩) (fun _ R s => s.heap.get? l = some { cls := c, dict := dd, data := .dict es n, slots := sl } ∧ R (.ok (.ret .notImplemented)) s) :=
  .of_wp fun prog w A R s q => by
    obtain ⟨hp, gens, dr, toks, os⟩ := s
    obtain ⟨look, q⟩ := q
    wp_walk using AutoSeq1.wpAny_loadPart' look, wpAny_load look
    exact ⟨_, rfl, q⟩
theorem sub_str_dict2 : isSubtype (.type "str") (.type "dict") = pure false := by rw [isSubtype_type]; kernel_rfl
section
variable {A : Around} {s : Shared}
theorem ne_dict_str {l : Addr} {o : Obj} {es : Array DictEntry} {n : Nat} (z : Str) (u : Tok) (look : s.heap.get? l = some o) (hc : o.cls = .type "dict") (hd : o.data = .dict es n) (hu : A.units < cLine) : RcNeAt A s (.ref l) (.str z u) true := fun prog w E Q q => by
  obtain ⟨cls, dd, data, sl⟩ := o
  have hc' : cls = .type "dict" := hc
  have hd' : data = .dict es n := hd
  rw [hc', hd'] at look
  exact rc_ne_decline_or (k := false) ⟨_, look, rfl⟩ (typeIs_str s z u) (by decide) sub_str_dict2 F.slot_dict_ne F.slot_str_ne_refl
    (fun _ r => call_meets F.slot_dict_ne ⟨_, look, rfl⟩ F.entry_dict_ne (F.args_dict_ne_2 _ _) (dict_ne_str_no l es n dd sl z u) ⟨look, r⟩)
    (fun _ r => call_meets F.slot_str_ne_refl (typeIs_str s z u) F.entry_str_ne (F.args_str_ne_2 _ _) (str_ne_dict_no z u l (.type "dict") es n dd sl) ⟨look, r⟩)
    (fun _ r => wpAny_of_eq (rfl : isSame (.ref l) (.str z u) = pure false) r) (.inr hu) q
theorem ne_any_str {u : Value} {d : PyData} {as : List Addr} (hu : A.units < cLine) (rd : Reads s.heap u d as) (z : Str) (t : Tok) : RcNeAt A s u (.str z t) (!eqS d z) := by
  cases rd with
  | none => exact RcNeAt.none_str z t
  | bool b => exact RcNeAt.bool_str b z t
  | int i k => exact RcNeAt.int_str i k z t
  | str x k =>
    have e : (z == x) = (x == z) := by
      by_cases h : x = z
      · subst h
        rfl
      · rw [beq_eq_false_iff_ne.mpr h, beq_eq_false_iff_ne.mpr fun y => h y.symm]
    show RcNeAt A s (.str x k) (.str z t) (!(z == x))
    rw [e]
    exact RcNeAt.str_str x k z t
  | list h1 h2 h3 h4 => exact RcNeAt.list_str z t ⟨_, h1, h2, _, h3⟩ hu
  | tuple h1 h2 h3 h4 => exact RcNeAt.tuple_str z t ⟨_, h1, h2, _, h3⟩ hu
  | dict h1 h2 h3 h4 h5 => exact ne_dict_str z t h1 h2 h3 hu
end
section
variable {X : Cx}
def rNeS : R2 := fun x y H Q => ∃ (av : Addr → Prop) (d : PyData) (z : Str), Rp av H x d ∧ y = .str z ∧ Q (.bl (!eqS d z)) H
theorem op_neS (hu : X.A.units < cLine) : OpR X (compareOp .NotEq) rNeS := by
  intro pins s σ H x y v u Q I rx ry h
  obtain ⟨av, d, z, hd, rfl, q⟩ := h
  obtain ⟨t, rfl⟩ := ry
  obtain ⟨as, rd, _⟩ := hd.reads I d x v rx
  exact ne_any_str hu rd z t X.prog X.w _ _ ⟨.bl _, H, I, rfl, q⟩
end
end Rw
namespace Rw
open PySem PySem.Spec PyProof.Rows L2 PySem.SeqAt
section
variable {X : Cx}
/-- a list of anything beside an empty one -/
def rNoneL (K : PySem.W.Frag) (neg : Bool) : R2 := fun x y H Q => ∃ (a b : Addr) (xs : List V), x = .ref a ∧ y = .ref b ∧ SqL K H a xs ∧ SqL K H b [] ∧ Q (.bl (neg != decide (xs = []))) H
theorem op_eqNone (hu : X.A.units < cLine) : OpR X (compareOp .Eq) (rNoneL X.K false) := by
  intro pins s σ H x y v u Q I rx ry h
  obtain ⟨a, b, xs, rfl, rfl, ha, hb, q⟩ := h
  cases rx
  cases ry
  obtain ⟨i1, r1, l1, _⟩ := I.list ha
  obtain ⟨i2, r2, l2, _⟩ := I.list hb
  cases r2
  cases r1 with
  | nil => exact eq_listAt (e := fun _ => true) l1.isList l2.isList rfl hu (fun j z _ => absurd z (by simp)) ⟨.bl _, H, I, rfl, q⟩
  | cons _ _ => exact eq_list_lengthsAt l1.isList l2.isList (by simp) hu ⟨.bl _, H, I, rfl, by simpa using q⟩
theorem op_neNone (hu : X.A.units < cLine) : OpR X (compareOp .NotEq) (rNoneL X.K true) := by
  intro pins s σ H x y v u Q I rx ry h
  obtain ⟨a, b, xs, rfl, rfl, ha, hb, q⟩ := h
  cases rx
  cases ry
  obtain ⟨i1, r1, l1, _⟩ := I.list ha
  obtain ⟨i2, r2, l2, _⟩ := I.list hb
  cases r2
  cases r1 with
  | nil => exact RcNeAt.lists (e := fun _ => true) l1.isList l2.isList rfl hu (fun j z _ => absurd z (by simp)) X.prog X.w _ _ ⟨.bl _, H, I, rfl, q⟩
  | cons _ _ => exact RcNeAt.lists_lengths l1.isList l2.isList (by simp) hu X.prog X.w _ _ ⟨.bl _, H, I, rfl, by simpa using q⟩
end
/-! ### the mirror -/
def zsW : List Str := ["stand", "bow", "even"]
def wordB (d : PyData) : Bool := zsW.any (eqS d)
def pairT : PyData → Bool
  | .tuple ds => decide (ds.length = 2) && ds.all (isT "tuple")
  | _ => false
def dashAt (ds : List PyData) (i : Nat) : Bool := match ds[i]? with
  | some d => eqS d "-"
  | none => false
def rowB (n i : Nat) : PyData → Bool
  | .tuple ds => decide (ds.length = n) && dashAt ds i && (ds.take i ++ ds.drop (i + 1)).all wordB
  | _ => false
structure Blt2 (mg : Str → Option Value) : Prop where
  all : mg "all" = none
  sorted : mg "sorted" = none
  words : ∃ a, mg "WORDS" = some (.ref a)
abbrev sPairT : Stmt := top 3
abbrev sRow : Stmt := top 6
def spPairT : Sp := fun vs H Q _ => ∃ (av : Addr → Prop) (v : V) (d : PyData), vs = [v] ∧ Rp av H v d ∧ Q (.bl (pairT d)) H
def spRow : Sp := fun vs H Q _ => ∃ (av : Addr → Prop) (v : V) (d : PyData) (n i : Nat), vs = [.int (n : Nat), .int (i : Nat), v] ∧ Rp av H v d ∧ i < n ∧ n ≤ 1000 ∧ ∀ H', Same H H' → Q (.bl (rowB n i d)) H'
section
variable {P : Program} {w : World} {K : PySem.W.Frag} {mg : Str → Option Value} {base : Heap} {f : Addr} {fd : FuncData}
theorem scPairT : FnScope ["value"] ["value"] (defScope sPairT) := ⟨rfl, rfl, rfl, by decide +kernel, rfl, by decide +kernel, by decide +kernel⟩
theorem ok_pairT (F : Fun K "is_pair_of_tuples" "is_pair_of_tuples" sPairT f fd) (B : Blt mg) (DT : Dfn P w K mg base "is_tuple_of" ["value", "many"] 1 spTupleOf) : FnOk P w K mg base CX0 2 f fd ["value"] spPairT := by
  refine F.ok scPairT (fun vs H Q E h => ?_) (fun cdv A outer s H vs Q E hr h => ?_)
  · obtain ⟨_, _, _, rfl, _⟩ := h
    rfl
  obtain ⟨av, v, d, rfl, hd, q⟩ := h
  refine ⟨_, pss_one (ps_ret (pe_and (pe_own DT hr (pa_cons (pv 0) (pa_cons pe_int pa_nil))) (pe_and (pe_isi (n := "tuple") (by simp) (pe_ix ix_tup (pv 0) pe_int (fun _ _ => rfl)) B.isi B.tup bt_tuple)
    (pe_one (pe_isi (n := "tuple") (by simp) (pe_ix ix_tup (pv 0) pe_int (fun _ _ => rfl)) B.isi B.tup bt_tuple))))), ?_⟩
  refine ⟨_, rfl, av, v, d, 2, rfl, hd, _, rfl, ?_⟩
  by_cases c : tupOf 2 d = true
  case neg =>
    refine iteZ c ?_
    have e2 : pairT d = false := by
      cases d with
      | tuple ds =>
        show (decide (ds.length = 2) && _) = false
        rw [decide_eq_false fun z => c (decide_eq_true (by rw [z]; rfl)), Bool.false_and]
      | _ => rfl
    rw [e2] at q
    exact q
  refine iteY c ?_
  match d, c, hd, q with
  | .tuple [a, b], c, hd, q =>
  obtain ⟨t, xs, rfl, _, ha, hx⟩ := hd.get_tup
  cases hx with
  | cons r1 r2 =>
    cases r2 with
    | cons r2 r3 =>
    cases r3
    refine ⟨_, rfl, t, _, _, _, rfl, rfl, SqT.of ha, rfl, av, _, a, rfl, r1, _, rfl, ?_⟩
    by_cases c1 : isT "tuple" a = true
    case neg =>
      refine iteZ c1 ?_
      have e1 : isT "tuple" a = false := by simpa using c1
      have e2 : pairT (.tuple [a, b]) = false := by
        show (true && (isT "tuple" a && _)) = false
        rw [e1]
        rfl
      rw [e2] at q
      exact q
    refine iteY c1 ?_
    refine ⟨_, rfl, t, _, _, _, rfl, rfl, SqT.of ha, rfl, av, _, b, rfl, r2, ?_⟩
    have e2 : pairT (.tuple [a, b]) = isT "tuple" b := by
      show (true && (isT "tuple" a && (isT "tuple" b && true))) = _
      rw [c1, Bool.true_and, Bool.true_and, Bool.and_true]
    rw [e2] at q
    exact q
theorem scRow : FnScope ["hands", "hand", "value", "word"] ["hands", "hand", "value"] (defScope sRow) := ⟨rfl, rfl, rfl, by decide +kernel, rfl, by decide +kernel, by decide +kernel⟩
theorem ok_row (F : Fun K "is_row" "is_row" sRow f fd) (C : Blt2 mg) (hW : ∀ (a : Addr) (H : Hp), mg "WORDS" = some (.ref a) → SqT K H a (zsW.map V.str)) (DT : Dfn P w K mg base "is_tuple_of" ["value", "many"] 1 spTupleOf) : FnOk P w K mg base CX0 2 f fd ["hands", "hand", "value"] spRow := by
  refine F.ok scRow (fun vs H Q E h => ?_) (fun cdv A outer s H vs Q E hr h => ?_)
  · obtain ⟨_, _, _, _, _, rfl, _⟩ := h
    rfl
  obtain ⟨av, v, d, n, i, rfl, hd, hin, hn, q⟩ := h
  have nd := scRow.nd
  have hu := hu_of hr
  have hu0 : (A.deeper (PyProof.Rows.envOfC "is_row" (defScope sRow) s.heap.objs.size f cdv)).units < cLine := by omega
  obtain ⟨wa, hwa⟩ := C.words
  refine ⟨_, pss_cons (ps_if (PW.pt (pw_or (pt_not (pt_val (pe_own DT hr (pa_cons (pv 2) (pa_cons (pv 0) pa_nil))))) (pw_or1 (pt_cmpR (op_neS hu0) (pe_ix ix_tup (pv 2) (pv 1) (fun _ _ => rfl)) pe_str (nomark _))))) (pss_one (ps_ret pe_bl)) pss_nil)
    (pss_one (ps_ret (pe_callB (cr_all (by rfl)) (by rfl) C.all (by decide +kernel) (pa_cons (pe_lc (own := [("word", 3)]) (g := gName 3) (tt := tYes) rfl nd (pi_tup (pe_op op_catB (pe_slice sl_tupB (pv 2) po_none (po_some (pv 1))) (pe_slice sl_tupB (pv 2) (po_some (pe_op op_add (pv 1) pe_int)) po_none)))
      (blkOk_by (N := ["hands", "hand", "value", "word"]) (sc := defScope sRow) (by decide +kernel)) (fun _ _ _ _ _ => pg_name (i := 3) nd rfl (Or.inl rfl)) (fun _ _ _ _ _ => pts_nil) (fun _ _ _ _ _ => pe_cmpR (r := rInS K false) (op_inS hu) (pv 3) (pe_glob (v := .ref wa) (by rfl) hwa rfl) (by rfl))) pa_nil)))), ?_⟩
  refine ⟨_, rfl, _, rfl, av, v, d, n, rfl, hd, _, rfl, ?_⟩
  by_cases c : tupOf (n : Nat) d = true
  case neg =>
    refine iteY (by simpa using c) ?_
    refine iteT (B := True) ?_
    have e : rowB n i d = false := by
      cases d with
      | tuple ds =>
        show (decide (ds.length = n) && _ && _) = false
        rw [decide_eq_false fun z => c (decide_eq_true (by rw [z])), Bool.false_and, Bool.false_and]
      | _ => rfl
    have q' := q H (Same.refl _)
    rw [e] at q'
    exact q'
  obtain ⟨ds, rfl⟩ : ∃ ds, d = .tuple ds := by
    cases d with
    | tuple ds => exact ⟨ds, rfl⟩
    | _ => cases c
  have len : ds.length = n := by
    have z : ((ds.length : Nat) : Int) = (n : Nat) := of_decide_eq_true c
    omega
  refine iteZ (by simpa using c) ?_
  obtain ⟨t, xs, rfl, _, ht, hx⟩ := hd.get_tup
  have lx := hx.len
  have hi : i < xs.length := by omega
  have gx : xs[i]? = some xs[i] := List.getElem?_eq_getElem hi
  obtain ⟨d1, hd1, r1⟩ := hx.at gx
  have ed : dashAt ds i = eqS d1 "-" := by
    unfold dashAt
    rw [hd1]
  refine ⟨_, rfl, _, rfl, t, xs, _, _, rfl, rfl, SqT.of ht, atI_nat gx, av, d1, "-", r1, rfl, _, rfl, ?_⟩
  have eR : rowB n i (.tuple ds) = (eqS d1 "-" && (ds.take i ++ ds.drop (i + 1)).all wordB) := by
    show (decide (ds.length = n) && dashAt ds i && _) = _
    rw [decide_eq_true len, Bool.true_and, ed]
  rw [eR] at q
  by_cases c2 : eqS d1 "-" = true
  case neg =>
    refine iteY (by simpa using c2) ?_
    have e : eqS d1 "-" = false := by simpa using c2
    have q' := q H (Same.refl _)
    rw [e, Bool.false_and] at q'
    exact q'
  refine iteZ (by simpa using c2) ?_
  rw [c2, Bool.true_and] at q
  refine ⟨_, rfl, _, rfl, (i : Int), rfl, t, xs, rfl, ht, fun p1 H1 s1 hc1 _ => ?_⟩
  rw [cut_to] at hc1
  have next_ : ((i : Int) + 1) = ((i + 1 : Nat) : Int) := by omega
  refine ⟨_, rfl, _, rfl, _, _, rfl, rfl, _, rfl, t, xs, rfl, s1 _ _ ht, fun p2 H2 s2 hc2 _ => ?_⟩
  rw [next_, cut_from] at hc2
  refine ⟨p1, p2, _, _, rfl, rfl, s2 _ _ hc1, hc2, sz (by rw [List.length_take, List.length_drop]; omega), fun r H3 s3 hr3 _ => ?_⟩
  have T := s1.trans (s2.trans s3)
  have hes : RpAll av H3 (xs.take i ++ xs.drop (i + 1)) (ds.take i ++ ds.drop (i + 1)) := ((hx.take i).app (hx.drop (i + 1))).mono (Ext.of_same T)
  generalize ds.take i ++ ds.drop (i + 1) = es at hes q
  have les : es.length ≤ 1000 := by
    have z := hes.len
    rw [List.length_append, List.length_take, List.length_drop] at z
    omega
  generalize xs.take i ++ xs.drop (i + 1) = ys at hes hr3
  refine ⟨r, rfl, ⟨_, SqT.of hr3⟩, fun D hD => ?_⟩
  refine lc_tup (K := K) (a := r) (xs := ys) (fun j H' => Same H3 H' ∧ H' D = some (.lst (((es.take j).map wordB).map V.bl))) ?_ ?_ ?_ ?_
  · exact ⟨same_new hD _, upd_same⟩
  · rintro j H' _ ⟨e, _⟩
    exact SqT.of (e _ _ hr3)
  · rintro j x H' hj ⟨e, hl⟩
    obtain ⟨dj, hdj, rj⟩ := hes.at hj
    have hj2 : j < es.length := (List.getElem?_eq_some_iff.mp hdj).1
    refine ⟨rfl, ?_⟩
    refine iteT (B := True) ?_
    refine ⟨_, rfl, av, dj, wa, zsW, rj.mono (Ext.of_same e), rfl, hW wa _ hwa, _, hl, szlt (by rw [List.length_map, List.length_map, List.length_take]; omega), same_upd e hD _, ?_⟩
    have en : es.take (j + 1) = es.take j ++ [dj] := by
      rw [List.take_add_one, hdj]
      rfl
    have eb : (false != zsW.any (eqS dj)) = wordB dj := by
      show (false != wordB dj) = _
      cases wordB dj <;> rfl
    rw [upd_same, en, List.map_append, List.map_append, eb]
    rfl
  rintro H4 ⟨e, hl⟩
  have full : es.take ys.length = es := by rw [List.take_of_length_le (by have := hes.len; omega)]
  rw [full] at hl
  refine ⟨D, es.map wordB, rfl, SqL.of hl, ?_⟩
  have ea : (es.map wordB).all id = es.all wordB := by rw [List.all_map]; rfl
  rw [ea]
  exact q _ (T.trans e)
end
end Rw
namespace Rw
open PySem L2
theorem eqS_of {d : PyData} {z : Str} (h : eqS d z = true) : d = .str z := by
  cases d with
  | str x =>
    have e : z = x := eq_of_beq h
    rw [e]
  | _ => cases h
theorem wordB_of {d : PyData} (h : wordB d = true) : ∃ z, d = .str z := by
  obtain ⟨z, _, e⟩ := List.any_eq_true.mp h
  exact ⟨z, eqS_of e⟩
theorem rowB_parts {n i : Nat} {d : PyData} (h : rowB n i d = true) : ∃ es, d = .tuple es ∧ es.length = n ∧ dashAt es i = true ∧ ∀ e ∈ es.take i ++ es.drop (i + 1), wordB e = true := by
  cases d with
  | tuple es =>
    have h' : (decide (es.length = n) && dashAt es i && (es.take i ++ es.drop (i + 1)).all wordB) = true := h
    rw [Bool.and_eq_true, Bool.and_eq_true] at h'
    exact ⟨es, rfl, of_decide_eq_true h'.1.1, h'.1.2, fun e he => List.all_eq_true.mp h'.2 e he⟩
  | _ => cases h
theorem row_text {n i : Nat} {d : PyData} (h : rowB n i d = true) {j : Nat} (hj : j < n) : ∃ es z, d = .tuple es ∧ es[j]? = some (.str z) := by
  obtain ⟨es, rfl, le, h1, h2⟩ := rowB_parts h
  have ge : es[j]? = some es[j] := List.getElem?_eq_getElem (by omega)
  by_cases c : j = i
  · subst c
    unfold dashAt at h1
    rw [ge] at h1
    exact ⟨es, _, rfl, ge.trans (by rw [eqS_of h1])⟩
  · have m : es[j] ∈ es.take i ++ es.drop (i + 1) := by
      rw [List.mem_append]
      by_cases q : j < i
      · exact .inl (List.mem_of_getElem? (i := j) (by rw [List.getElem?_take_of_lt q, ge]))
      · refine .inr (List.mem_of_getElem? (i := j - (i + 1)) ?_)
        rw [List.getElem?_drop, show i + 1 + (j - (i + 1)) = j by omega, ge]
    obtain ⟨z, e⟩ := wordB_of (h2 _ m)
    exact ⟨es, z, rfl, ge.trans (by rw [e])⟩
def cellE (ts : List PyData) (i j : Nat) : Bool := match ts[i]? with
  | some (.tuple es) => match es[j]? with
    | some d => eqS d "even"
    | none => false
  | _ => false
def evIn (ts : List PyData) (i : Nat) : Nat → Nat → Option (Nat × Nat)
  | 0, _ => none
  | k + 1, j => if (cellE ts i j != cellE ts j i) = true then some (i, j) else evIn ts i k (j + 1)
def evOut (ts : List PyData) (n : Nat) : Nat → Nat → Option (Nat × Nat)
  | 0, _ => none
  | k + 1, i => match evIn ts i (n - (i + 1)) (i + 1) with
    | some p => some p
    | none => evOut ts n k (i + 1)
theorem evIn_succ (ts : List PyData) (i k j : Nat) : evIn ts i (k + 1) j = if (cellE ts i j != cellE ts j i) = true then some (i, j) else evIn ts i k (j + 1) := rfl
theorem evOut_succ (ts : List PyData) (n k i : Nat) : evOut ts n (k + 1) i = match evIn ts i (n - (i + 1)) (i + 1) with
    | some p => some p
    | none => evOut ts n k (i + 1) := rfl
def evP : Option (Nat × Nat) → PyData
  | some p => .tuple [.str "even", .int (p.1 : Nat), .int (p.2 : Nat)]
  | none => .none
def evenE (ts : List PyData) : PyData := evP (evOut ts ts.length ts.length 0)
def RowsOk (ts : List PyData) : Prop := ∀ i d, ts[i]? = some d → rowB ts.length i d = true
theorem cell_at {av : Addr → Prop} {H : Hp} {xs : List V} {ts : List PyData} (hx : RpAll av H xs ts) (ok : RowsOk ts) {i j : Nat} (hi : i < ts.length) (hj : j < ts.length) :
    ∃ (a : Addr) (ys : List V) (z : Str), xs[i]? = some (.ref a) ∧ H a = some (.tup ys) ∧ ys[j]? = some (.str z) ∧ decide (V.str z = V.str "even") = cellE ts i j := by
  have hxi : i < xs.length := by have := hx.len; omega
  have gx : xs[i]? = some xs[i] := List.getElem?_eq_getElem hxi
  obtain ⟨d, hd, r⟩ := hx.at gx
  obtain ⟨es, z, rfl, ez⟩ := row_text (ok i d hd) hj
  obtain ⟨a, ys, ea, _, ha, hy⟩ := r.get_tup
  have hyj : j < ys.length := by
    have := (List.getElem?_eq_some_iff.mp ez).1
    have := hy.len
    omega
  have gy : ys[j]? = some ys[j] := List.getElem?_eq_getElem hyj
  obtain ⟨d2, hd2, r2⟩ := hy.at gy
  rw [ez] at hd2
  cases hd2
  refine ⟨a, ys, z, gx.trans (by rw [ea]), ha, gy.trans (by rw [r2.get_str]), ?_⟩
  unfold cellE
  rw [hd]
  show decide (V.str z = V.str "even") = (match es[j]? with | some d => eqS d "even" | none => false)
  rw [ez]
  show decide (V.str z = V.str "even") = (("even" : Str) == z)
  by_cases c : z = "even"
  · subst c
    rw [decide_eq_true rfl]
    exact (beq_self_eq_true _).symm
  · rw [decide_eq_false fun q => c (V.str.inj q), beq_eq_false_iff_ne.mpr fun q => c q.symm]
abbrev sEven : Stmt := top 7
def spEven : Sp := fun vs H Q _ => ∃ (av : Addr → Prop) (v : V) (ts : List PyData), vs = [v] ∧ Rp av H v (.tuple ts) ∧ RowsOk ts ∧ ts.length ≤ 1000 ∧ Gives (evenE ts) H Q
theorem Gives.three {x : Str} {i j : Int} {H H3 : Hp} {Q : VK} (g : Gives (.tuple [.str x, .int i, .int j]) H Q) (s : Same H H3) {p : Addr} (hp : H3 p = none) : Q (.ref p) (upd H3 p (.tup [.str x, .int i, .int j])) := by
  refine g _ _ (s.trans (same_new hp _)) (.tup ?_ upd_same (.cons (.str _) (.cons (.int _) (.cons (.int _) .nil))))
  rintro ⟨o, ho⟩
  rw [s _ _ ho] at hp
  cases hp
section
variable {P : Program} {w : World} {K : PySem.W.Frag} {mg : Str → Option Value} {base : Heap} {f : Addr} {fd : FuncData}
theorem scEven : FnScope ["table", "one", "other"] ["table"] (defScope sEven) := ⟨rfl, rfl, rfl, by decide +kernel, rfl, by decide +kernel, by decide +kernel⟩
theorem ok_even (F : Fun K "evenness_error" "evenness_error" sEven f fd) (B : Blt mg) : FnOk P w K mg base CX0 1 f fd ["table"] spEven := by
  refine F.ok scEven (fun vs H Q E h => ?_) (fun cdv A outer s H vs Q E hr h => ?_)
  · obtain ⟨_, _, _, rfl, _⟩ := h
    rfl
  obtain ⟨av, v, ts, rfl, hd, ok, hn, q⟩ := h
  have nd := scEven.nd
  refine ⟨_, pss_cons (ps_for PassesOwn.never rfl (pi_range1 (by rfl) B.rng (pa_cons (pe_callB call_len_seq (by rfl) B.len PySem.boot_len (pa_cons (pv 0) pa_nil)) pa_nil)) (pg_name (i := 1) nd rfl (Or.inl rfl))
      (pss_one (ps_for PassesOwn.never rfl (pi_range2 (by rfl) B.rng (pa_cons (pe_op op_add (pv 1) pe_int) (pa_cons (pe_callB call_len_seq (by rfl) B.len PySem.boot_len (pa_cons (pv 0) pa_nil)) pa_nil))) (pg_name (i := 2) nd rfl (Or.inl rfl))
        (pss_one (ps_if (pt_cmpR op_ne (pe_cmpR op_eq (pe_ix ix_tup (pe_ix ix_tup (pv 0) (pv 1) (fun _ _ => rfl)) (pv 2) (fun _ _ => rfl)) pe_str (nomark _)) (pe_cmpR op_eq (pe_ix ix_tup (pe_ix ix_tup (pv 0) (pv 2) (fun _ _ => rfl)) (pv 1) (fun _ _ => rfl)) pe_str (nomark _)) (nomark _))
          (pss_one (ps_ret (pe_tup (pa_cons pe_str (pa_cons (pv 1) (pa_cons (pv 2) pa_nil)))))) pss_nil)))))
    (pss_one (ps_ret pe_non)), ?_⟩
  obtain ⟨t, xs, rfl, _, ht, hx⟩ := hd.get_tup
  have lx := hx.len
  refine ⟨_, rfl, t, xs, rfl, .inr (SqT.of ht), _, rfl, by omega, by omega, for_it (walk_range (lo := 0) (n := xs.length)) (fun i σ H' => H' = H ∧ (∃ (v1 v2 : Option V), σ = [some (.ref t), v1, v2]) ∧ evOut ts ts.length (ts.length - i) i = evOut ts ts.length ts.length 0) ⟨rfl, ⟨_, _, rfl⟩, rfl⟩ (fun _ _ _ _ _ => trivial) ?_ ?_⟩
  · rintro i x σ H1 H2 hi ⟨rfl, ⟨_, _, rfl⟩, hev⟩ ⟨rfl, ex⟩
    have ex : x = V.int (i : Nat) := by
      rw [ex]
      show V.int (0 + (i : Nat)) = _
      rw [Int.zero_add]
    subst ex
    have hk : ts.length - i = (ts.length - (i + 1)) + 1 := by omega
    rw [hk] at hev
    have next_ : ((i : Int) + 1) = ((i + 1 : Nat) : Int) := by omega
    refine ⟨_, rfl, _, _, rfl, rfl, ?_⟩
    refine ⟨_, rfl, t, xs, rfl, .inr (SqT.of ht), _, _, rfl, ⟨by omega, by omega, by omega, by omega⟩, ?_⟩
    refine for_it (walk_range (lo := (i : Int) + 1) (n := (((xs.length : Nat) : Int) - ((i : Int) + 1)).toNat)) (fun k σ H' => H' = H2 ∧ (∃ v2 : Option V, σ = [some (.ref t), some (.int (i : Nat)), v2]) ∧ evIn ts i (ts.length - (i + 1) - k) (i + 1 + k) = evIn ts i (ts.length - (i + 1)) (i + 1)) ⟨rfl, ⟨_, rfl⟩, rfl⟩ (fun _ _ _ _ _ => trivial) ?_ ?_
    · rintro k y σ H3 H4 hk2 ⟨rfl, ⟨_, rfl⟩, hin⟩ ⟨rfl, ey⟩
      have ey : y = V.int ((i + 1 + k : Nat) : Int) := by
        rw [ey]
        show V.int ((i : Int) + 1 + (k : Nat)) = _
        congr 1
      subst ey
      have hj : i + 1 + k < ts.length := by omega
      have hi' : i < ts.length := by omega
      generalize hjj : i + 1 + k = j at hj hin
      obtain ⟨a1, y1, z1, g1, b1, c1, d1⟩ := cell_at hx ok hi' hj
      obtain ⟨a2, y2, z2, g2, b2, c2, d2⟩ := cell_at hx ok hj hi'
      have hk3 : ts.length - (i + 1) - k = (ts.length - (i + 1) - (k + 1)) + 1 := by omega
      rw [hk3] at hin
      refine ⟨_, rfl, _, rfl, t, xs, _, _, rfl, rfl, SqT.of ht, atI_nat g1, _, rfl, a1, y1, _, _, rfl, rfl, SqT.of b1, atI_nat c1, rfl, _, rfl, _, rfl, t, xs, _, _, rfl, rfl, SqT.of ht, atI_nat g2, _, rfl, a2, y2, _, _, rfl, rfl, SqT.of b2, atI_nat c2, rfl, rfl, _, rfl, ?_⟩
      have eb : (!decide (V.bl (decide (V.str z1 = V.str "even")) = V.bl (decide (V.str z2 = V.str "even")))) = (cellE ts i j != cellE ts j i) := by
        rw [d1, d2]
        cases cellE ts i j <;> cases cellE ts j i <;> rfl
      by_cases c : (cellE ts i j != cellE ts j i) = true
      · rw [evIn_succ, if_pos c] at hin
        refine iteY (eb.trans c) ?_
        refine ⟨_, rfl, _, rfl, (by show 3 ≤ sizeLine; decide), fun p hp => ?_⟩
        have e : evenE ts = .tuple [.str "even", .int (i : Nat), .int (j : Nat)] := by
          unfold evenE
          rw [← hev, evOut_succ, ← hin]
          rfl
        rw [e] at q
        exact q.three (Same.refl _) hp
      · rw [evIn_succ, if_neg c] at hin
        refine iteZ (fun z => c (eb.symm.trans z)) ?_
        refine ⟨rfl, ⟨_, rfl⟩, ?_⟩
        rw [← hin, ← hjj]
        rfl
    · rintro σ H3 ⟨rfl, ⟨_, rfl⟩, hin⟩
      have z0 : ts.length - (i + 1) - (((xs.length : Nat) : Int) - ((i : Int) + 1)).toNat = 0 := by omega
      rw [z0] at hin
      refine ⟨rfl, ⟨_, _, rfl⟩, ?_⟩
      rw [← hev, evOut_succ, ← hin]
      rfl
  · rintro σ H3 ⟨rfl, ⟨_, _, rfl⟩, hev⟩
    have z0 : ts.length - xs.length = 0 := by omega
    rw [z0] at hev
    have e : evenE ts = .none := by
      unfold evenE
      rw [← hev]
      rfl
    rw [e] at q
    exact q _ _ (Same.refl _) .non
end
end Rw
namespace Rw
open PySem L2
def badP (p : Nat → PyData → Bool) : Nat → List PyData → Option Nat
  | _, [] => none
  | i, d :: r => if p i d = true then badP p (i + 1) r else some i
theorem badP_nil (p : Nat → PyData → Bool) (i : Nat) : badP p i [] = none := rfl
theorem badP_cons (p : Nat → PyData → Bool) (i : Nat) (d : PyData) (r : List PyData) : badP p i (d :: r) = if p i d = true then badP p (i + 1) r else some i := rfl
theorem drop_at : ∀ {ds : List PyData} {i : Nat} {d : PyData}, ds[i]? = some d → ds.drop i = d :: ds.drop (i + 1)
  | [], _, _, h => by simp at h
  | e :: ds, 0, d, h => by
    have q : e = d := Option.some.inj h
    rw [q]
    rfl
  | e :: ds, i + 1, d, h => drop_at (ds := ds) (i := i) h
theorem badP_none {p : Nat → PyData → Bool} : ∀ {ds : List PyData} {i : Nat}, badP p i ds = none → ∀ j d, ds[j]? = some d → p (i + j) d = true
  | [], _, _, _, _, hd => by simp at hd
  | e :: ds, i, h, j, d, hd => by
    rw [badP_cons] at h
    by_cases c : p i e = true
    · rw [if_pos c] at h
      cases j with
      | zero =>
        have q : e = d := Option.some.inj hd
        rw [← q]
        exact c
      | succ j =>
        have z := badP_none (ds := ds) (i := i + 1) h j d hd
        rw [show i + (j + 1) = i + 1 + j by omega]
        exact z
    · rw [if_neg c] at h
      cases h
def tableE (n : Nat) (ts : List PyData) : PyData := if ts.length = n then match badP (rowB n) 0 ts with
    | some k => .tuple [.str "row", .int (k : Nat)]
    | none => evenE ts
  else .str "rows"
def intsOf : List PyData → Option (List Int)
  | [] => some []
  | .int i :: r => (intsOf r).map (i :: ·)
  | _ => none
def others (n i : Nat) : List Int := ((List.range n).filter fun j => decide (j ≠ i)).map fun j => ((j : Nat) : Int)
def orderB (n i : Nat) : PyData → Bool
  | .tuple ds => match intsOf ds with
    | some ns => ns.isPerm (others n i)
    | none => false
  | _ => false
def ordersE (n : Nat) (os : List PyData) : PyData := if os.length = n then match badP (orderB n) 0 os with
    | some k => .tuple [.str "order", .int (k : Nat)]
    | none => .none
  else .str "orders"
def isNone : PyData → Bool
  | .none => true
  | _ => false
def doorE (n : Nat) (d : PyData) : PyData := match d with
  | .tuple [.tuple ts, .tuple os] => if isNone (tableE n ts) = true then ordersE n os else tableE n ts
  | _ => .str "form"
abbrev sTable : Stmt := top 8
abbrev sOrder : Stmt := top 9
abbrev sOrders : Stmt := top 10
abbrev sDoorE : Stmt := top 11
def spTable : Sp := fun vs H Q _ => ∃ (av : Addr → Prop) (v : V) (ts : List PyData) (n : Nat), vs = [.int (n : Nat), v] ∧ Rp av H v (.tuple ts) ∧ n ≤ 1000 ∧ Gives (tableE n ts) H Q
def spOrder : Sp := fun vs H Q _ => ∃ (av : Addr → Prop) (v : V) (d : PyData) (n i : Nat), vs = [.int (n : Nat), .int (i : Nat), v] ∧ Rp av H v d ∧ i < n ∧ n ≤ 1000 ∧ d.weight ≤ 100000 ∧ ∀ H', Same H H' → Q (.bl (orderB n i d)) H'
def spOrders : Sp := fun vs H Q _ => ∃ (av : Addr → Prop) (v : V) (os : List PyData) (n : Nat), vs = [.int (n : Nat), v] ∧ Rp av H v (.tuple os) ∧ n ≤ 1000 ∧ PyData.weightAll os ≤ 100000 ∧ Gives (ordersE n os) H Q
def spDoorE : Sp := fun vs H Q _ => ∃ (av : Addr → Prop) (v : V) (d : PyData) (n : Nat), vs = [.int (n : Nat), v] ∧ Rp av H v d ∧ n ≤ 1000 ∧ d.weight ≤ 100000 ∧ Gives (doorE n d) H Q
theorem len_ne {a n : Nat} : (!decide (V.int ((a : Nat) : Int) = V.int ((n : Nat) : Int))) = !decide (a = n) := by
  by_cases h : a = n
  · subst h
    rw [decide_eq_true rfl, decide_eq_true rfl]
  · rw [decide_eq_false h, decide_eq_false fun z => h (by have := V.int.inj z; omega)]
section
variable {P : Program} {w : World} {K : PySem.W.Frag} {mg : Str → Option Value} {base : Heap} {f : Addr} {fd : FuncData}
theorem scTable : FnScope ["hands", "table", "hand", "row"] ["hands", "table"] (defScope sTable) := ⟨rfl, rfl, rfl, by decide +kernel, rfl, by decide +kernel, by decide +kernel⟩
theorem ok_table (F : Fun K "table_error" "table_error" sTable f fd) (B : Blt mg) (DR : Dfn P w K mg base "is_row" ["hands", "hand", "value"] 2 spRow) (DE : Dfn P w K mg base "evenness_error" ["table"] 1 spEven) : FnOk P w K mg base CX0 3 f fd ["hands", "table"] spTable := by
  refine F.ok scTable (fun vs H Q E h => ?_) (fun cdv A outer s H vs Q E hr h => ?_)
  · obtain ⟨_, _, _, _, rfl, _⟩ := h
    rfl
  obtain ⟨av, v, ts, n, rfl, hd, hn, q⟩ := h
  have nd := scTable.nd
  have hr1 : Room 1 (A.deeper (PyProof.Rows.envOfC "table_error" (defScope sTable) s.heap.objs.size f cdv)) := hr.mono (by omega)
  refine ⟨_, pss_cons (ps_if (pt_cmpR op_ne (pe_callB call_len_seq (by rfl) B.len PySem.boot_len (pa_cons (pv 1) pa_nil)) (pv 0) (nomark _)) (pss_one (ps_ret pe_str)) pss_nil)
    (pss_cons (ps_for PassesOwn.never rfl (pi_enumT (by rfl) B.enu (pa_cons (pv 1) pa_nil)) (pg_tup rfl (pgs_cons (pg_name (i := 2) nd rfl (Or.inl rfl)) (pgs_cons (pg_name (i := 3) nd rfl (Or.inl rfl)) pgs_nil)))
      (pss_one (ps_if (pt_not (pt_val (pe_own DR hr (pa_cons (pv 0) (pa_cons (pv 2) (pa_cons (pv 3) pa_nil)))))) (pss_one (ps_ret (pe_tup (pa_cons pe_str (pa_cons (pv 2) pa_nil))))) pss_nil)))
    (pss_one (ps_ret (pe_own DE hr1 (pa_cons (pv 1) pa_nil))))), ?_⟩
  obtain ⟨a, xs, rfl, _, ha, hx⟩ := hd.get_tup
  have hl := hx.len
  refine ⟨_, rfl, a, xs, rfl, .inr (SqT.of ha), _, rfl, rfl, _, rfl, ?_⟩
  by_cases c : ts.length = n
  case neg =>
    refine iteY (len_ne.trans (by rw [decide_eq_false (by omega)]; rfl)) ?_
    have e : tableE n ts = .str "rows" := if_neg c
    rw [e] at q
    exact q _ _ (Same.refl _) (.str _)
  have eT : tableE n ts = match badP (rowB n) 0 ts with
    | some k => .tuple [.str "row", .int (k : Nat)]
    | none => evenE ts := if_pos c
  refine iteZ (fun z => by rw [len_ne, decide_eq_true (by omega)] at z; cases z) ?_
  refine ⟨_, rfl, a, xs, rfl, SqT.of ha, for_it (walk_enumT (K := K) (a := a) (xs := xs)) (fun i σ H' => ∃ (v2 v3 : Option V), σ = [some (.int (n : Nat)), some (.ref a), v2, v3] ∧ Same H H' ∧ badP (rowB n) i (ts.drop i) = badP (rowB n) 0 ts) ⟨none, none, rfl, Same.refl _, rfl⟩ ?_ ?_ ?_⟩
  · rintro i σ H' _ ⟨_, _, _, s1, _⟩
    exact SqT.of (s1 _ _ ha)
  · rintro i x σ H1 H2 hi ⟨v2, v3, rfl, s1, hb1⟩ ⟨T, x1, y, rfl, hT, rfl, e1, hy⟩
    cases (Option.some.inj e1)
    obtain ⟨d, hdi, hry⟩ := hx.at hy
    have s2 : Same H (upd H1 T (.tup [.int (i : Nat), y])) := s1.trans (same_new hT _)
    rw [drop_at hdi, badP_cons] at hb1
    refine ⟨T, _, rfl, SqT.of upd_same, rfl, _, _, rfl, _, _, rfl, rfl, ?_⟩
    generalize upd H1 T (.tup [.int (i : Nat), y]) = H3 at s2
    refine ⟨_, rfl, _, rfl, _, rfl, av, y, d, n, i, rfl, hry.mono (Ext.of_same s2), by omega, hn, fun H4 s3 => ⟨_, rfl, ?_⟩⟩
    have s4 := s2.trans s3
    by_cases c2 : rowB n i d = true
    · refine iteZ (by simpa using c2) ?_
      rw [if_pos c2] at hb1
      exact ⟨_, _, rfl, s4, hb1⟩
    · refine iteY (by simpa using c2) ?_
      rw [if_neg c2] at hb1
      rw [eT, ← hb1] at q
      refine ⟨_, rfl, (by show 2 ≤ sizeLine; decide), fun p hp => ?_⟩
      exact Gives.pair q s4 hp
  · rintro σ H' ⟨v2, v3, rfl, s1, hb1⟩
    rw [hl, List.drop_length, badP_nil] at hb1
    rw [eT, ← hb1] at q
    have ok : RowsOk ts := fun i d hi => by
      have z := badP_none hb1.symm i d hi
      rw [Nat.zero_add] at z
      rw [c]
      exact z
    exact ⟨_, rfl, av, _, ts, rfl, hd.mono (Ext.of_same s1), ok, by omega, Gives.ext q s1⟩
end
end Rw
namespace Rw
open PySem L2
theorem intsOf_map : ∀ ns : List Int, intsOf (ns.map PyData.int) = some ns
  | [] => rfl
  | n :: r => by
    show (intsOf (r.map PyData.int)).map (n :: ·) = _
    rw [intsOf_map r]
    rfl
theorem ints_of_all : ∀ {ds : List PyData}, ds.all isIntB = true → ∃ ns : List Int, ds = ns.map PyData.int
  | [], _ => ⟨[], rfl⟩
  | d :: r, h => by
    rw [List.all_cons, Bool.and_eq_true] at h
    obtain ⟨ns, rfl⟩ := ints_of_all h.2
    obtain ⟨i, rfl⟩ := int_of h.1
    exact ⟨i :: ns, rfl⟩
theorem all_of_intsOf : ∀ {ds : List PyData} {ns : List Int}, intsOf ds = some ns → ds = ns.map PyData.int
  | [], ns, h => by
    cases h
    rfl
  | .int i :: r, ns, h => by
    have h' : (intsOf r).map (i :: ·) = some ns := h
    cases e : intsOf r with
    | none =>
      rw [e] at h'
      cases h'
    | some ms =>
      rw [e] at h'
      cases h'
      rw [all_of_intsOf e]
      rfl
  | .none :: _, _, h => nomatch h
  | .bool _ :: _, _, h => nomatch h
  | .str _ :: _, _, h => nomatch h
  | .list _ :: _, _, h => nomatch h
  | .tuple _ :: _, _, h => nomatch h
  | .dict _ :: _, _, h => nomatch h
theorem RpAll.back {av : Addr → Prop} {H : Hp} : ∀ {ns : List Int} {xs : List V}, RpAll av H xs (ns.map PyData.int) → xs = ns.map V.int
  | [], _, h => by
    cases h
    rfl
  | n :: r, _, h => by
    cases h with
    | cons a b =>
      rw [RpAll.back b, a.get_int]
      rfl
theorem others_le (n i : Nat) : (others n i).Pairwise (· ≤ ·) := by
  unfold others
  rw [List.pairwise_map]
  exact (List.Pairwise.filter _ List.pairwise_lt_range).imp fun {a b} h => by omega
theorem others_eq {n i : Nat} {ms ns : List Int} (p : ms.Perm ns) (s : ms.Pairwise (· ≤ ·)) : decide (ms = others n i) = ns.isPerm (others n i) := by
  rw [Bool.eq_iff_iff, decide_eq_true_iff, List.isPerm_iff]
  constructor
  · intro e
    rw [← e]
    exact p.symm
  · intro q
    exact List.Perm.eq_of_pairwise (fun a b _ _ h1 h2 => Int.le_antisymm h1 h2) s (others_le n i) (p.trans q)
theorem others_step (j i : Nat) : others (j + 1) i = others j i ++ (if j ≠ i then [((j : Nat) : Int)] else []) := by
  unfold others
  rw [List.range_succ, List.filter_append, List.map_append]
  congr 1
  by_cases c : j = i
  · rw [if_neg fun z => z c]
    simp [c]
  · rw [if_pos c]
    simp [c]
theorem others_len2 (i : Nat) : ∀ n : Nat, (others n i).length = if i < n then n - 1 else n
  | 0 => rfl
  | n + 1 => by
    rw [others_step, List.length_append, others_len2 i n]
    by_cases c : n = i
    · have h1 : (if n ≠ i then [((n : Nat) : Int)] else []) = [] := if_neg fun z => z c
      rw [h1, if_neg (by omega), if_pos (by omega), List.length_nil]
      omega
    · have h1 : (if n ≠ i then [((n : Nat) : Int)] else []) = [((n : Nat) : Int)] := if_pos c
      rw [h1, List.length_singleton]
      by_cases q : i < n
      · rw [if_pos q, if_pos (by omega)]
        omega
      · rw [if_neg q, if_neg (by omega)]
theorem others_len {n i : Nat} (h : i < n) : (others n i).length = n - 1 := by
  rw [others_len2, if_pos h]
theorem others_mem {n i : Nat} {x : Int} (h : x ∈ others n i) : 0 ≤ x ∧ x < n := by
  obtain ⟨j, hj, rfl⟩ := List.mem_map.mp h
  have := List.mem_range.mp (List.mem_filter.mp hj).1
  omega
end Rw
namespace Rw
open PySem L2
section
variable {P : Program} {w : World} {K : PySem.W.Frag} {mg : Str → Option Value} {base : Heap} {f : Addr} {fd : FuncData}
theorem scOrder : FnScope ["hands", "hand", "value", "other"] ["hands", "hand", "value"] (defScope sOrder) := ⟨rfl, rfl, rfl, by decide +kernel, rfl, by decide +kernel, by decide +kernel⟩
theorem ok_order (F : Fun K "is_order" "is_order" sOrder f fd) (B : Blt mg) (C : Blt2 mg) (DT : Dfn P w K mg base "is_tuple_of" ["value", "many"] 1 spTupleOf) (DI : Dfn P w K mg base "is_integer" ["value"] 1 spInteger) : FnOk P w K mg base CX0 2 f fd ["hands", "hand", "value"] spOrder := by
  refine F.ok scOrder (fun vs H Q E h => ?_) (fun cdv A outer s H vs Q E hr h => ?_)
  · obtain ⟨_, _, _, _, _, rfl, _⟩ := h
    rfl
  obtain ⟨av, v, d, n, i, rfl, hd, hin, hn, wd, q⟩ := h
  have nd := scOrder.nd
  have hu64 : (A.deeper (PyProof.Rows.envOfC "is_order" (defScope sOrder) s.heap.objs.size f cdv)).units + 64 < cLine := by
    have := hr.un
    omega
  refine ⟨_, pss_cons (ps_if (PW.pt (pw_or (pt_not (pt_val (pe_own DT hr (pa_cons (pv 2) (pa_cons (pe_op op_sub (pv 0) pe_int) pa_nil))))) (pw_or1 (pt_not (pt_val (pe_callB (cr_all (by rfl)) (by rfl) C.all (by decide +kernel)
      (pa_cons (pe_lc (own := [("other", 3)]) (g := gName 3) (tt := tYes) rfl nd (pi_tup (pv 2)) (blkOk_by (N := ["hands", "hand", "value", "other"]) (sc := defScope sOrder) (by decide +kernel)) (fun _ _ _ _ _ => pg_name (i := 3) nd rfl (Or.inl rfl)) (fun _ _ _ _ _ => pts_nil)
        (fun _ _ _ _ _ => pe_own DI hr (pa_cons (pv 3) pa_nil))) pa_nil))))))) (pss_one (ps_ret pe_bl)) pss_nil)
    (pss_one (ps_ret (pe_cmpR (op_eqD hu64) (pe_callB call_sortT (by rfl) C.sorted (by decide +kernel) (pa_cons (pv 2) pa_nil))
      (pe_lc (own := [("other", 3)]) (g := gName 3) (tt := _) rfl nd (pi_range1 (by rfl) B.rng (pa_cons (pv 0) pa_nil)) (blkOk_by (N := ["hands", "hand", "value", "other"]) (sc := defScope sOrder) (by decide +kernel)) (fun _ _ _ _ _ => pg_name (i := 3) nd rfl (Or.inl rfl)) (fun _ _ _ _ _ => pts_one (pt_cmpR op_ne (pv 3) (pv 1) (nomark _))) (fun _ _ _ _ _ => pv 3)) (nomark _)))), ?_⟩
  refine ⟨_, rfl, _, rfl, _, _, rfl, rfl, av, v, d, _, rfl, hd, _, rfl, ?_⟩
  have low : ∀ ds ns, d = .tuple ds → intsOf ds = some ns → ns.isPerm (others n i) = true → tupOf ((n : Nat) - 1) d = true ∧ ds.all isIntB = true := fun ds ns e1 e2 e3 => by
    have hp := List.isPerm_iff.mp e3
    have hl := hp.length_eq
    rw [others_len hin] at hl
    have e4 := all_of_intsOf e2
    subst e1
    refine ⟨decide_eq_true ?_, ?_⟩
    · rw [e4, List.length_map]
      omega
    · rw [e4, List.all_map, List.all_eq_true]
      exact fun _ _ => rfl
  have no : ¬ (tupOf ((n : Nat) - 1) d = true ∧ ∀ ds, d = .tuple ds → ds.all isIntB = true) → orderB n i d = false := fun z => by
    cases e : orderB n i d with
    | false => rfl
    | true =>
      cases d with
      | tuple ds =>
        have e' : (match intsOf ds with | some ns => ns.isPerm (others n i) | none => false) = true := e
        cases e2 : intsOf ds with
        | none =>
          rw [e2] at e'
          cases e'
        | some ns =>
          rw [e2] at e'
          obtain ⟨h1, h2⟩ := low ds ns rfl e2 e'
          exact absurd ⟨h1, fun ds' h => by cases h; exact h2⟩ z
      | _ => cases e
  by_cases c : tupOf ((n : Nat) - 1) d = true
  case neg =>
    refine iteY (by simpa using c) ?_
    refine iteT (B := True) ?_
    rw [no fun z => c z.1] at q
    exact q H (Same.refl _)
  obtain ⟨ds, rfl⟩ : ∃ ds, d = .tuple ds := by
    cases d with
    | tuple ds => exact ⟨ds, rfl⟩
    | _ => cases c
  refine iteZ (by simpa using c) ?_
  obtain ⟨t, xs, rfl, _, ht, hx⟩ := hd.get_tup
  have lx := hx.len
  have ld : ds.length ≤ 100000 := by
    have := wA_len ds
    simp only [PyData.weight] at wd
    omega
  refine ⟨_, rfl, t, rfl, ⟨_, SqT.of ht⟩, fun D hD => ?_⟩
  refine lc_tup (K := K) (a := t) (xs := xs) (fun j H' => Same H H' ∧ H' D = some (.lst (((ds.take j).map isIntB).map V.bl))) ?_ ?_ ?_ ?_
  · exact ⟨same_new hD _, upd_same⟩
  · rintro j H' _ ⟨e, _⟩
    exact SqT.of (e _ _ ht)
  · rintro j x H' hj ⟨e, hl⟩
    obtain ⟨dj, hdj, rj⟩ := hx.at hj
    have hj2 : j < ds.length := (List.getElem?_eq_some_iff.mp hdj).1
    refine ⟨rfl, ?_⟩
    refine iteT (B := True) ?_
    refine ⟨_, rfl, av, x, dj, rfl, rj.mono (Ext.of_same e), _, hl, ?_, same_upd e hD _, ?_⟩
    · rw [List.length_map, List.length_map, List.length_take]
      exact szlt (by omega)
    have en : ds.take (j + 1) = ds.take j ++ [dj] := by
      rw [List.take_add_one, hdj]
      rfl
    rw [upd_same, en, List.map_append, List.map_append]
    rfl
  rintro H1 ⟨e1, hl⟩
  rw [List.take_of_length_le (by omega)] at hl
  have ea : (ds.map isIntB).all id = ds.all isIntB := by rw [List.all_map]; rfl
  refine ⟨D, ds.map isIntB, rfl, SqL.of hl, _, rfl, ?_⟩
  by_cases c2 : ds.all isIntB = true
  case neg =>
    refine iteY (by rw [ea]; simpa using c2) ?_
    rw [no fun z => c2 (z.2 ds rfl)] at q
    exact q H1 e1
  refine iteZ (by rw [ea]; simpa using c2) ?_
  obtain ⟨ns, rfl⟩ := ints_of_all c2
  have hxs := hx.back
  subst hxs
  rw [List.length_map] at ld
  refine ⟨_, rfl, t, ns, rfl, SqT.of (e1 _ _ ht), sz ld, fun ms p pm pw hp => ?_⟩
  have s2 : Same H1 (upd H1 p (.lst (ms.map V.int))) := same_new hp _
  have hm : upd H1 p (.lst (ms.map V.int)) p = some (.lst (ms.map V.int)) := upd_same
  generalize upd H1 p (.lst (ms.map V.int)) = H2 at s2 hm
  refine ⟨_, rfl, _, rfl, by omega, by omega, fun D2 hD2 => ?_⟩
  refine lc_range (lo := 0) (n := n) (fun j H' => Same H2 H' ∧ H' D2 = some (.lst ((others j i).map V.int))) ?_ ?_ ?_
  · exact ⟨same_new hD2 _, upd_same⟩
  · rintro j H' hj ⟨e, hl2⟩
    refine ⟨rfl, ?_⟩
    refine ⟨_, rfl, _, rfl, rfl, _, rfl, ?_⟩
    have lo : (others j i).length ≤ j := by
      rw [others_len2]
      split <;> omega
    by_cases c3 : j = i
    · refine iteZ ?_ ?_
      · subst c3
        simp
      · refine ⟨e, ?_⟩
        rw [others_step, if_neg fun z => z c3, List.append_nil]
        exact hl2
    · refine iteY ?_ ?_
      · have z : ¬ V.int (0 + (j : Nat)) = V.int (i : Nat) := fun z => c3 (by have := V.int.inj z; omega)
        rw [decide_eq_false z]
        rfl
      · refine ⟨_, rfl, _, hl2, szlt (by rw [List.length_map]; omega), same_upd e hD2 _, ?_⟩
        rw [upd_same, others_step, if_pos c3, List.map_append]
        show some (HO.lst (_ ++ [V.int (0 + (j : Nat))])) = some (HO.lst (_ ++ [V.int (j : Nat)]))
        rw [Int.zero_add]
  rintro H3 ⟨e3, hl3⟩
  have T := e1.trans (s2.trans e3)
  have D1 : Dp K H3 (.ref p) (.list (ms.map PyData.int)) := .lst (SqL.of (e3 _ _ hm)) (dp_ints _)
  refine ⟨.list (ms.map PyData.int), .list ((others n i).map PyData.int), D1, .lst (SqL.of hl3) (dp_ints _), shaped_ints _, shaped_ints _, ?_⟩
  rw [eqv_ints, others_eq pm pw]
  have eo : orderB n i (.tuple (ns.map PyData.int)) = ns.isPerm (others n i) := by
    show (match intsOf (ns.map PyData.int) with | some ns => ns.isPerm (others n i) | none => false) = _
    rw [intsOf_map]
  rw [eo] at q
  exact q H3 T
end
end Rw
namespace Rw
open PySem L2
theorem isNone_of {d : PyData} (h : isNone d = true) : d = .none := by
  cases d <;> first | rfl | cases h
theorem pairT_of {d : PyData} (h : pairT d = true) : ∃ ts os, d = .tuple [.tuple ts, .tuple os] := by
  cases d with
  | tuple ds =>
    have h' : (decide (ds.length = 2) && ds.all (isT "tuple")) = true := h
    rw [Bool.and_eq_true] at h'
    have l := of_decide_eq_true h'.1
    match ds, l, h'.2 with
    | [a, b], _, h2 =>
      have h3 : (isT "tuple" a && (isT "tuple" b && true)) = true := h2
      rw [Bool.and_true, Bool.and_eq_true] at h3
      obtain ⟨ts, rfl⟩ := isT_tup.mp h3.1
      obtain ⟨os, rfl⟩ := isT_tup.mp h3.2
      exact ⟨ts, os, rfl⟩
  | _ => cases h
theorem doorE_form {n : Nat} {d : PyData} (h : ¬ pairT d = true) : doorE n d = .str "form" := by
  unfold doorE
  split
  · exact absurd rfl h
  · rfl
theorem ordersE_nil (n : Nat) (os : List PyData) (h : os.length = n) : ordersE n os = match badP (orderB n) 0 os with
    | some k => .tuple [.str "order", .int (k : Nat)]
    | none => .none := if_pos h
section
variable {P : Program} {w : World} {K : PySem.W.Frag} {mg : Str → Option Value} {base : Heap} {f : Addr} {fd : FuncData}
theorem scOrders : FnScope ["hands", "orders", "hand", "order"] ["hands", "orders"] (defScope sOrders) := ⟨rfl, rfl, rfl, by decide +kernel, rfl, by decide +kernel, by decide +kernel⟩
theorem ok_orders (F : Fun K "orders_error" "orders_error" sOrders f fd) (B : Blt mg) (DO : Dfn P w K mg base "is_order" ["hands", "hand", "value"] 2 spOrder) : FnOk P w K mg base CX0 3 f fd ["hands", "orders"] spOrders := by
  refine F.ok scOrders (fun vs H Q E h => ?_) (fun cdv A outer s H vs Q E hr h => ?_)
  · obtain ⟨_, _, _, _, rfl, _⟩ := h
    rfl
  obtain ⟨av, v, os, n, rfl, hd, hn, wd, q⟩ := h
  have nd := scOrders.nd
  refine ⟨_, pss_cons (ps_if (pt_cmpR op_ne (pe_callB call_len_seq (by rfl) B.len PySem.boot_len (pa_cons (pv 1) pa_nil)) (pv 0) (nomark _)) (pss_one (ps_ret pe_str)) pss_nil)
    (pss_cons (ps_for PassesOwn.never rfl (pi_enumT (by rfl) B.enu (pa_cons (pv 1) pa_nil)) (pg_tup rfl (pgs_cons (pg_name (i := 2) nd rfl (Or.inl rfl)) (pgs_cons (pg_name (i := 3) nd rfl (Or.inl rfl)) pgs_nil)))
      (pss_one (ps_if (pt_not (pt_val (pe_own DO hr (pa_cons (pv 0) (pa_cons (pv 2) (pa_cons (pv 3) pa_nil)))))) (pss_one (ps_ret (pe_tup (pa_cons pe_str (pa_cons (pv 2) pa_nil))))) pss_nil)))
    (pss_one (ps_ret pe_non))), ?_⟩
  obtain ⟨a, xs, rfl, _, ha, hx⟩ := hd.get_tup
  have hl := hx.len
  refine ⟨_, rfl, a, xs, rfl, .inr (SqT.of ha), _, rfl, rfl, _, rfl, ?_⟩
  by_cases c : os.length = n
  case neg =>
    refine iteY (len_ne.trans (by rw [decide_eq_false (by omega)]; rfl)) ?_
    have e : ordersE n os = .str "orders" := if_neg c
    rw [e] at q
    exact q _ _ (Same.refl _) (.str _)
  have eT := ordersE_nil n os c
  refine iteZ (fun z => by rw [len_ne, decide_eq_true (by omega)] at z; cases z) ?_
  refine ⟨_, rfl, a, xs, rfl, SqT.of ha, for_it (walk_enumT (K := K) (a := a) (xs := xs)) (fun i σ H' => ∃ (v2 v3 : Option V), σ = [some (.int (n : Nat)), some (.ref a), v2, v3] ∧ Same H H' ∧ badP (orderB n) i (os.drop i) = badP (orderB n) 0 os) ⟨none, none, rfl, Same.refl _, rfl⟩ ?_ ?_ ?_⟩
  · rintro i σ H' _ ⟨_, _, _, s1, _⟩
    exact SqT.of (s1 _ _ ha)
  · rintro i x σ H1 H2 hi ⟨v2, v3, rfl, s1, hb1⟩ ⟨T, x1, y, rfl, hT, rfl, e1, hy⟩
    cases (Option.some.inj e1)
    obtain ⟨d, hdi, hry⟩ := hx.at hy
    have s2 : Same H (upd H1 T (.tup [.int (i : Nat), y])) := s1.trans (same_new hT _)
    rw [drop_at hdi, badP_cons] at hb1
    refine ⟨T, _, rfl, SqT.of upd_same, rfl, _, _, rfl, _, _, rfl, rfl, ?_⟩
    generalize upd H1 T (.tup [.int (i : Nat), y]) = H3 at s2
    have wdd : d.weight ≤ 100000 := by
      have := wA_mem (List.mem_of_getElem? hdi)
      omega
    refine ⟨_, rfl, _, rfl, _, rfl, av, y, d, n, i, rfl, hry.mono (Ext.of_same s2), by omega, hn, wdd, fun H4 s3 => ⟨_, rfl, ?_⟩⟩
    have s4 := s2.trans s3
    by_cases c2 : orderB n i d = true
    · refine iteZ (by simpa using c2) ?_
      rw [if_pos c2] at hb1
      exact ⟨_, _, rfl, s4, hb1⟩
    · refine iteY (by simpa using c2) ?_
      rw [if_neg c2] at hb1
      rw [eT, ← hb1] at q
      refine ⟨_, rfl, (by show 2 ≤ sizeLine; decide), fun p hp => ?_⟩
      exact Gives.pair q s4 hp
  · rintro σ H' ⟨v2, v3, rfl, s1, hb1⟩
    rw [hl, List.drop_length, badP_nil] at hb1
    rw [eT, ← hb1] at q
    exact q _ _ s1 .non
theorem scDoorE : FnScope ["hands", "value", "table", "orders", "error"] ["hands", "value"] (defScope sDoorE) := ⟨rfl, rfl, rfl, by decide +kernel, rfl, by decide +kernel, by decide +kernel⟩
theorem ok_doorE (F : Fun K "door_error" "door_error" sDoorE f fd) (DP : Dfn P w K mg base "is_pair_of_tuples" ["value"] 2 spPairT) (DT : Dfn P w K mg base "table_error" ["hands", "table"] 3 spTable) (DO : Dfn P w K mg base "orders_error" ["hands", "orders"] 3 spOrders) : FnOk P w K mg base CX0 4 f fd ["hands", "value"] spDoorE := by
  refine F.ok scDoorE (fun vs H Q E h => ?_) (fun cdv A outer s H vs Q E hr h => ?_)
  · obtain ⟨_, _, _, _, rfl, _⟩ := h
    rfl
  obtain ⟨av, v, d, n, rfl, hd, hn, wd, q⟩ := h
  have nd := scDoorE.nd
  have hr2 : Room 2 (A.deeper (PyProof.Rows.envOfC "door_error" (defScope sDoorE) s.heap.objs.size f cdv)) := hr.mono (by omega)
  refine ⟨_, pss_cons (ps_if (pt_not (pt_val (pe_own DP hr2 (pa_cons (pv 1) pa_nil)))) (pss_one (ps_ret pe_str)) pss_nil)
    (pss_cons (ps_asg (pv 1) (pg_tup rfl (pgs_cons (pg_name (i := 2) nd rfl (Or.inl rfl)) (pgs_cons (pg_name (i := 3) nd rfl (Or.inl rfl)) pgs_nil))))
    (pss_cons (ps_set (i := 4) nd rfl (Or.inl rfl) (pe_own DT hr (pa_cons (pv 0) (pa_cons (pv 2) pa_nil))))
    (pss_cons (ps_if (pt_cmpR op_isN (pv 4) pe_non (nomark _)) (pss_one (ps_set (i := 4) nd rfl (Or.inl rfl) (pe_own DO hr (pa_cons (pv 0) (pa_cons (pv 3) pa_nil))))) pss_nil)
    (pss_one (ps_ret (pv 4)))))), ?_⟩
  refine ⟨_, rfl, av, v, d, rfl, hd, _, rfl, ?_⟩
  by_cases c : pairT d = true
  case neg =>
    refine iteY (by simpa using c) ?_
    rw [doorE_form c] at q
    exact q _ _ (Same.refl _) (.str _)
  refine iteZ (by simpa using c) ?_
  obtain ⟨ts, os, rfl⟩ := pairT_of c
  obtain ⟨t, xs, rfl, _, ht, hx⟩ := hd.get_tup
  cases hx with
  | cons r1 r2 =>
  cases r2 with
  | cons r2 r3 =>
  cases r3
  have eD : doorE n (.tuple [.tuple ts, .tuple os]) = if isNone (tableE n ts) = true then ordersE n os else tableE n ts := rfl
  rw [eD] at q
  refine ⟨_, rfl, t, _, rfl, SqT.of ht, rfl, _, _, rfl, _, _, rfl, rfl, ?_⟩
  refine ⟨_, rfl, _, rfl, av, _, ts, n, rfl, r1, hn, fun err H1 s1 re => ?_⟩
  refine ⟨_, rfl, rfl, _, rfl, ?_⟩
  by_cases c2 : isNone (tableE n ts) = true
  · rw [if_pos c2] at q
    rw [isNone_of c2] at re
    cases re.get_non
    refine iteY (decide_eq_true rfl) ?_
    refine ⟨_, rfl, _, rfl, av, _, os, n, rfl, r2.mono (Ext.of_same s1), hn, ?_, fun err2 H2 s2 re2 => ⟨_, rfl, Gives.ext q s1 _ _ s2 re2⟩⟩
    simp only [PyData.weight, PyData.weightAll] at wd
    omega
  · rw [if_neg c2] at q
    have z : ¬ err = V.non := fun e => by
      subst e
      generalize tableE n ts = d at re c2
      cases re
      exact c2 rfl
    refine iteZ (by rw [decide_eq_false z]; decide) ?_
    exact ⟨_, rfl, q _ _ s1 re⟩
end
end Rw
namespace Rw
open PySem L2
abbrev sLawRow : Stmt := top 23
abbrev sLawOrder : Stmt := top 24
theorem take_next {α : Type} {es : List α} {j : Nat} {d : α} (h : es[j]? = some d) : es.take (j + 1) = es.take j ++ [d] := by
  rw [List.take_add_one, h]
  rfl
theorem all_snoc {es : List PyData} {p : PyData → Bool} {j : Nat} {d : PyData} (h : es[j]? = some d) : (es.take (j + 1)).all p = ((es.take j).all p && p d) := by
  rw [take_next h, List.all_append, List.all_cons, List.all_nil, Bool.and_true]
section
variable {P : Program} {w : World} {K : PySem.W.Frag} {mg : Str → Option Value} {base : Heap} {f : Addr} {fd : FuncData}
theorem scLawRow : FnScope ["hands", "i", "row", "wrong", "word"] ["hands", "i", "row"] (defScope sLawRow) := ⟨rfl, rfl, rfl, by decide +kernel, rfl, by decide +kernel, by decide +kernel⟩
theorem ok_lawRow (F : Fun K "_law_is_row" "_law_is_row" sLawRow f fd) (B : Blt mg) : FnOk P w K mg base CX0 1 f fd ["hands", "i", "row"] spRow := by
  refine F.ok scLawRow (fun vs H Q E h => ?_) (fun cdv A outer s H vs Q E hr h => ?_)
  · obtain ⟨_, _, _, _, _, rfl, _⟩ := h
    rfl
  obtain ⟨av, v, d, n, i, rfl, hd, hin, hn, q⟩ := h
  have nd := scLawRow.nd
  have hu := hu_of hr
  have hu0 : (A.deeper (PyProof.Rows.envOfC "_law_is_row" (defScope sLawRow) s.heap.objs.size f cdv)).units < cLine := by omega
  refine ⟨_, pss_cons (ps_if (PW.pt (pw_or (pt_not (pt_val (pe_isi (n := "tuple") (by simp) (pv 2) B.isi B.tup bt_tuple))) (pw_or1 (pt_cmpR op_ne (pe_callB call_len_seq (by rfl) B.len PySem.boot_len (pa_cons (pv 2) pa_nil)) (pv 0) (nomark _))))) (pss_one (ps_ret pe_bl)) pss_nil)
    (pss_cons (ps_setLc (i := 3) (own := [("word", 4)]) (g := gName 4) (tt := _) (by rfl) nd rfl rfl (sw_true rfl rfl rfl (by decide +kernel)) (pi_tup (pe_op op_catB (pe_slice sl_tupB (pv 2) po_none (po_some (pv 1))) (pe_slice sl_tupB (pv 2) (po_some (pe_op op_add (pv 1) pe_int)) po_none)))
      (blkOk_by (N := ["hands", "i", "row", "wrong", "word"]) (sc := defScope sLawRow) (by decide +kernel)) (fun _ _ _ _ _ => pg_name (i := 4) nd rfl (Or.inl rfl)) (fun _ _ _ _ _ => pts_one (pt_cmpR (r := rInS K true) (op_notInS hu) (pv 4) (pe_tup (pa_cons pe_str (pa_cons pe_str (pa_cons pe_str pa_nil)))) (by rfl))) (fun _ _ _ _ _ => pv 4))
    (pss_one (ps_ret (pe_and (pe_cmpR (r := rNoneL K false) (op_eqNone hu0) (pv 3) (pe_lst pa_nil) (nomark _)) (pe_and (pe_isi (n := "str") (by simp) (pe_ix ix_tup (pv 2) (pv 1) (fun _ _ => rfl)) B.isi B.str bt_str)
      (pe_one (pe_cmpR op_eq (pe_ix ix_tup (pv 2) (pv 1) (fun _ _ => rfl)) pe_str (nomark _)))))))), ?_⟩
  refine ⟨_, rfl, av, v, d, rfl, hd, _, rfl, ?_⟩
  by_cases c0 : isT "tuple" d = true
  case neg =>
    refine iteY (by simpa using c0) ?_
    refine iteT (B := True) ?_
    have e : rowB n i d = false := by
      cases d with
      | tuple ds => exact absurd rfl c0
      | _ => rfl
    rw [e] at q
    exact q H (Same.refl _)
  obtain ⟨ds, rfl⟩ := isT_tup.mp c0
  refine iteZ (by simpa using c0) ?_
  obtain ⟨t, xs, rfl, _, ht, hx⟩ := hd.get_tup
  have lx := hx.len
  refine ⟨_, rfl, t, xs, rfl, .inr (SqT.of ht), _, rfl, rfl, _, rfl, ?_⟩
  by_cases c : ds.length = n
  case neg =>
    refine iteY (len_ne.trans (by rw [decide_eq_false (by omega)]; rfl)) ?_
    have e : rowB n i (.tuple ds) = false := by
      show (decide (ds.length = n) && _ && _) = false
      rw [decide_eq_false c, Bool.false_and, Bool.false_and]
    rw [e] at q
    exact q H (Same.refl _)
  refine iteZ (fun z => by rw [len_ne, decide_eq_true (by omega)] at z; cases z) ?_
  have hi : i < xs.length := by omega
  have gx : xs[i]? = some xs[i] := List.getElem?_eq_getElem hi
  obtain ⟨d1, hd1, r1⟩ := hx.at gx
  have ed : dashAt ds i = eqS d1 "-" := by
    unfold dashAt
    rw [hd1]
  have eR : rowB n i (.tuple ds) = (eqS d1 "-" && (ds.take i ++ ds.drop (i + 1)).all wordB) := by
    show (decide (ds.length = n) && dashAt ds i && _) = _
    rw [decide_eq_true c, Bool.true_and, ed]
  rw [eR] at q
  refine ⟨_, rfl, _, rfl, (i : Int), rfl, t, xs, rfl, ht, fun p1 H1 s1 hc1 _ => ?_⟩
  rw [cut_to] at hc1
  have next_ : ((i : Int) + 1) = ((i + 1 : Nat) : Int) := by omega
  refine ⟨_, rfl, _, rfl, _, _, rfl, rfl, _, rfl, t, xs, rfl, s1 _ _ ht, fun p2 H2 s2 hc2 _ => ?_⟩
  rw [next_, cut_from] at hc2
  refine ⟨p1, p2, _, _, rfl, rfl, s2 _ _ hc1, hc2, sz (by rw [List.length_take, List.length_drop]; omega), fun r H3 s3 hr3 _ => ?_⟩
  have T := s1.trans (s2.trans s3)
  have hes : RpAll av H3 (xs.take i ++ xs.drop (i + 1)) (ds.take i ++ ds.drop (i + 1)) := ((hx.take i).app (hx.drop (i + 1))).mono (Ext.of_same T)
  generalize ds.take i ++ ds.drop (i + 1) = es at hes q
  have les : es.length ≤ 1000 := by
    have z := hes.len
    rw [List.length_append, List.length_take, List.length_drop] at z
    omega
  generalize xs.take i ++ xs.drop (i + 1) = ys at hes hr3
  refine ⟨r, rfl, ⟨_, SqT.of hr3⟩, fun D hD => ?_⟩
  refine lc_tup (K := K) (a := r) (xs := ys) (fun j H' => Same H3 H' ∧ ∃ ws : List V, H' D = some (.lst ws) ∧ ws.length ≤ j ∧ decide (ws = []) = (es.take j).all wordB) ?_ ?_ ?_ ?_
  · exact ⟨same_new hD _, [], upd_same, Nat.le_refl _, rfl⟩
  · rintro j H' _ ⟨e, _⟩
    exact SqT.of (e _ _ hr3)
  · rintro j x H' hj ⟨e, ws, hl, lw, ew⟩
    obtain ⟨dj, hdj, rj⟩ := hes.at hj
    have hj2 : j < es.length := (List.getElem?_eq_some_iff.mp hdj).1
    refine ⟨rfl, ?_⟩
    refine ⟨_, rfl, (by show 3 ≤ sizeLine; decide), fun p hp => ⟨av, dj, p, zsW, (rj.mono (Ext.of_same e)).mono (Ext.of_same (same_new hp _)), rfl, SqT.of upd_same, _, rfl, ?_⟩⟩
    have s5 : Same H' (upd H' p (.tup [.str "stand", .str "bow", .str "even"])) := same_new hp _
    have hl5 := s5 _ _ hl
    have e5 := e.trans s5
    have eb : (true != zsW.any (eqS dj)) = !wordB dj := by
      show (true != wordB dj) = _
      cases wordB dj <;> rfl
    by_cases c3 : wordB dj = true
    · refine iteZ (by rw [eb, c3]; decide) ?_
      refine ⟨e5, ws, hl5, by omega, ?_⟩
      rw [all_snoc hdj, c3, Bool.and_true]
      exact ew
    · have c4 : wordB dj = false := by simpa using c3
      refine iteY (by rw [eb, c4]; rfl) ?_
      refine ⟨_, rfl, ws, hl5, szlt (by omega), same_upd e5 hD _, ws ++ [x], upd_same, by rw [List.length_append, List.length_singleton]; omega, ?_⟩
      rw [all_snoc hdj, c4, Bool.and_false]
      exact decide_eq_false (by simp)
  rintro H4 ⟨e4, ws, hl, lw, ew⟩
  rw [List.take_of_length_le (by have := hes.len; omega)] at ew
  refine ⟨_, rfl, Nat.zero_le _, fun p hp => ⟨D, p, ws, rfl, rfl, SqL.of (same_new hp _ _ _ hl), SqL.of upd_same, _, rfl, ?_⟩⟩
  have s5 := same_new hp (.lst [])
  have T5 := T.trans (e4.trans s5)
  have ht5 := T5 _ _ ht
  have r15 := r1.mono (Ext.of_same T5)
  rw [ew]
  have eb : (false != es.all wordB) = es.all wordB := by cases es.all wordB <;> rfl
  rw [eb]
  generalize upd H4 p (.lst []) = H5 at T5 ht5 r15
  by_cases c3 : es.all wordB = true
  case neg =>
    have c4 : es.all wordB = false := by simpa using c3
    rw [c4, Bool.and_false] at q
    refine iteZ c3 ?_
    exact q _ T5
  refine iteY c3 ?_
  rw [c3, Bool.and_true] at q
  refine ⟨_, rfl, _, rfl, t, xs, _, _, rfl, rfl, SqT.of ht5, atI_nat gx, av, _, d1, rfl, r15, _, rfl, ?_⟩
  by_cases c5 : isT "str" d1 = true
  case neg =>
    have e : eqS d1 "-" = false := by
      cases d1 with
      | str z => exact absurd rfl c5
      | _ => rfl
    have c6 : isT "str" d1 = false := by simpa using c5
    rw [e] at q
    refine iteZ c5 ?_
    exact q _ T5
  refine iteY c5 ?_
  obtain ⟨z, rfl⟩ : ∃ z, d1 = .str z := by
    cases d1 with
    | str z => exact ⟨z, rfl⟩
    | _ => simp [isT, clsOf, isC] at c5
  refine ⟨_, rfl, _, rfl, t, xs, _, _, rfl, rfl, SqT.of ht5, atI_nat (gx.trans (by rw [r1.get_str])), rfl, ?_⟩
  have ez : decide (V.str z = V.str "-") = eqS (.str z) "-" := by
    show _ = (("-" : Str) == z)
    by_cases h : z = "-"
    · subst h
      rw [decide_eq_true rfl]
      exact (beq_self_eq_true _).symm
    · rw [decide_eq_false fun y => h (V.str.inj y), beq_eq_false_iff_ne.mpr fun y => h y.symm]
  show Q (V.bl (decide (V.str z = V.str "-"))) H5
  rw [ez]
  exact q _ T5
end
end Rw
namespace Rw
open PySem L2
theorem whole_int {l m : Int} {d : PyData} (h : wholeB l m d = true) : isIntB d = true := by
  cases d <;> first | rfl | cases h
theorem orderB_whole {n i : Nat} {d : PyData} (h : orderB n i d = true) : ∃ ns : List Int, d = .tuple (ns.map PyData.int) ∧ ns.isPerm (others n i) = true ∧ (ns.map PyData.int).all (wholeB 0 ((n : Int) - 1)) = true := by
  cases d with
  | tuple ds =>
    have e' : (match intsOf ds with | some ns => ns.isPerm (others n i) | none => false) = true := h
    cases e2 : intsOf ds with
    | none =>
      rw [e2] at e'
      cases e'
    | some ns =>
      rw [e2] at e'
      refine ⟨ns, by rw [all_of_intsOf e2], e', ?_⟩
      rw [List.all_map, List.all_eq_true]
      intro x hx
      have hm := (List.isPerm_iff.mp e').mem_iff.mp hx
      have h2 := others_mem hm
      show (decide (0 ≤ x) && decide (x ≤ (n : Int) - 1)) = true
      rw [decide_eq_true h2.1, decide_eq_true (by omega)]
      rfl
  | _ => cases h
section
variable {P : Program} {w : World} {K : PySem.W.Frag} {mg : Str → Option Value} {base : Heap} {f : Addr} {fd : FuncData}
theorem scLawOrder : FnScope ["hands", "i", "row", "own"] ["hands", "i", "row"] (defScope sLawOrder) := ⟨rfl, rfl, rfl, by decide +kernel, rfl, by decide +kernel, by decide +kernel⟩
theorem ok_lawOrder (F : Fun K "_law_is_order" "_law_is_order" sLawOrder f fd) (B : Blt mg) (C : Blt2 mg) (DW : Dfn P w K mg base "_law_whole" ["value", "least", "most"] 1 spWhole) : FnOk P w K mg base CX0 2 f fd ["hands", "i", "row"] spOrder := by
  refine F.ok scLawOrder (fun vs H Q E h => ?_) (fun cdv A outer s H vs Q E hr h => ?_)
  · obtain ⟨_, _, _, _, _, rfl, _⟩ := h
    rfl
  obtain ⟨av, v, d, n, i, rfl, hd, hin, hn, wd, q⟩ := h
  have nd := scLawOrder.nd
  have hu64 : (A.deeper (PyProof.Rows.envOfC "_law_is_order" (defScope sLawOrder) s.heap.objs.size f cdv)).units + 64 < cLine := by
    have := hr.un
    omega
  have hu0 : (A.deeper (PyProof.Rows.envOfC "_law_is_order" (defScope sLawOrder) s.heap.objs.size f cdv)).units < cLine := by omega
  refine ⟨_, pss_cons (ps_if (PW.pt (pw_or (pt_not (pt_val (pe_isi (n := "tuple") (by simp) (pv 2) B.isi B.tup bt_tuple))) (pw_or1 (pt_cmpR (r := rNoneL K true) (op_neNone hu0)
      (pe_lc (own := [("own", 3)]) (g := gName 3) (tt := _) rfl nd (pi_tup (pv 2)) (blkOk_by (N := ["hands", "i", "row", "own"]) (sc := defScope sLawOrder) (by decide +kernel)) (fun _ _ _ _ _ => pg_name (i := 3) nd rfl (Or.inl rfl))
        (fun _ _ _ _ _ => pts_one (pt_not (pt_val (pe_own DW hr (pa_cons (pv 3) (pa_cons pe_int (pa_cons (pe_op op_sub (pv 0) pe_int) pa_nil))))))) (fun _ _ _ _ _ => pv 3)) (pe_lst pa_nil) (nomark _))))) (pss_one (ps_ret pe_bl)) pss_nil)
    (pss_one (ps_ret (pe_cmpR (op_eqD hu64) (pe_callB call_sortT (by rfl) C.sorted (by decide +kernel) (pa_cons (pv 2) pa_nil))
      (pe_lc (own := [("own", 3)]) (g := gName 3) (tt := _) rfl nd (pi_range1 (by rfl) B.rng (pa_cons (pv 0) pa_nil)) (blkOk_by (N := ["hands", "i", "row", "own"]) (sc := defScope sLawOrder) (by decide +kernel)) (fun _ _ _ _ _ => pg_name (i := 3) nd rfl (Or.inl rfl)) (fun _ _ _ _ _ => pts_one (pt_cmpR op_ne (pv 3) (pv 1) (nomark _))) (fun _ _ _ _ _ => pv 3)) (nomark _)))), ?_⟩
  have no : ¬ (∃ ds, d = .tuple ds ∧ ds.all (wholeB 0 ((n : Int) - 1)) = true) → orderB n i d = false := fun z => by
    cases e : orderB n i d with
    | false => rfl
    | true =>
      obtain ⟨ns, rfl, _, h2⟩ := orderB_whole e
      exact absurd ⟨_, rfl, h2⟩ z
  refine ⟨_, rfl, av, v, d, rfl, hd, _, rfl, ?_⟩
  by_cases c0 : isT "tuple" d = true
  case neg =>
    refine iteY (by simpa using c0) ?_
    refine iteT (B := True) ?_
    rw [no fun ⟨ds, e, _⟩ => c0 (isT_tup.mpr ⟨ds, e⟩)] at q
    exact q H (Same.refl _)
  obtain ⟨ds, rfl⟩ := isT_tup.mp c0
  refine iteZ (by simpa using c0) ?_
  obtain ⟨t, xs, rfl, _, ht, hx⟩ := hd.get_tup
  have lx := hx.len
  have ld : ds.length ≤ 100000 := by
    have := wA_len ds
    simp only [PyData.weight] at wd
    omega
  refine ⟨_, rfl, t, rfl, ⟨_, SqT.of ht⟩, fun D hD => ?_⟩
  refine lc_tup (K := K) (a := t) (xs := xs) (fun j H' => Same H H' ∧ ∃ ws : List V, H' D = some (.lst ws) ∧ ws.length ≤ j ∧ decide (ws = []) = (ds.take j).all (wholeB 0 ((n : Int) - 1))) ?_ ?_ ?_ ?_
  · exact ⟨same_new hD _, [], upd_same, Nat.le_refl _, rfl⟩
  · rintro j H' _ ⟨e, _⟩
    exact SqT.of (e _ _ ht)
  · rintro j x H' hj ⟨e, ws, hl, lw, ew⟩
    obtain ⟨dj, hdj, rj⟩ := hx.at hj
    have hj2 : j < ds.length := (List.getElem?_eq_some_iff.mp hdj).1
    refine ⟨rfl, ?_⟩
    refine ⟨_, rfl, _, rfl, _, _, rfl, rfl, av, x, dj, 0, (n : Int) - 1, rfl, rj.mono (Ext.of_same e), _, rfl, ?_⟩
    by_cases c3 : wholeB 0 ((n : Int) - 1) dj = true
    · refine iteZ (by rw [c3]; decide) ?_
      refine ⟨e, ws, hl, by omega, ?_⟩
      rw [all_snoc hdj, c3, Bool.and_true]
      exact ew
    · have c4 : wholeB 0 ((n : Int) - 1) dj = false := by simpa using c3
      refine iteY (by rw [c4]; rfl) ?_
      refine ⟨_, rfl, ws, hl, szlt (by omega), same_upd e hD _, ws ++ [x], upd_same, by rw [List.length_append, List.length_singleton]; omega, ?_⟩
      rw [all_snoc hdj, c4, Bool.and_false]
      exact decide_eq_false (by simp)
  rintro H1 ⟨e1, ws, hl, lw, ew⟩
  rw [List.take_of_length_le (by omega)] at ew
  refine ⟨Nat.zero_le _, fun p0 hp0 => ⟨D, p0, ws, rfl, rfl, SqL.of (same_new hp0 _ _ _ hl), SqL.of upd_same, _, rfl, ?_⟩⟩
  have s0 := same_new hp0 (.lst [])
  generalize upd H1 p0 (.lst []) = H0 at s0
  rw [ew]
  have e10 := e1.trans s0
  by_cases c2 : ds.all (wholeB 0 ((n : Int) - 1)) = true
  case neg =>
    have c4 : ds.all (wholeB 0 ((n : Int) - 1)) = false := by simpa using c2
    refine iteY (by rw [c4]; rfl) ?_
    rw [no fun ⟨ds', e, h⟩ => by cases e; exact c2 h] at q
    exact q _ e10
  refine iteZ (by rw [c2]; decide) ?_
  obtain ⟨ns, rfl⟩ := ints_of_all (ds := ds) (List.all_eq_true.mpr fun x hx => whole_int (List.all_eq_true.mp c2 x hx))
  have hxs := hx.back
  subst hxs
  rw [List.length_map] at ld
  refine ⟨_, rfl, t, ns, rfl, SqT.of (e10 _ _ ht), sz ld, fun ms p pm pw hp => ?_⟩
  have s2 : Same H0 (upd H0 p (.lst (ms.map V.int))) := same_new hp _
  have hm : upd H0 p (.lst (ms.map V.int)) p = some (.lst (ms.map V.int)) := upd_same
  generalize upd H0 p (.lst (ms.map V.int)) = H2 at s2 hm
  refine ⟨_, rfl, _, rfl, by omega, by omega, fun D2 hD2 => ?_⟩
  refine lc_range (lo := 0) (n := n) (fun j H' => Same H2 H' ∧ H' D2 = some (.lst ((others j i).map V.int))) ?_ ?_ ?_
  · exact ⟨same_new hD2 _, upd_same⟩
  · rintro j H' hj ⟨e, hl2⟩
    refine ⟨rfl, ?_⟩
    refine ⟨_, rfl, _, rfl, rfl, _, rfl, ?_⟩
    have lo : (others j i).length ≤ j := by
      rw [others_len2]
      split <;> omega
    by_cases c3 : j = i
    · refine iteZ ?_ ?_
      · subst c3
        simp
      · refine ⟨e, ?_⟩
        rw [others_step, if_neg fun z => z c3, List.append_nil]
        exact hl2
    · refine iteY ?_ ?_
      · have z : ¬ V.int (0 + (j : Nat)) = V.int (i : Nat) := fun z => c3 (by have := V.int.inj z; omega)
        rw [decide_eq_false z]
        rfl
      · refine ⟨_, rfl, _, hl2, szlt (by rw [List.length_map]; omega), same_upd e hD2 _, ?_⟩
        rw [upd_same, others_step, if_pos c3, List.map_append]
        show some (HO.lst (_ ++ [V.int (0 + (j : Nat))])) = some (HO.lst (_ ++ [V.int (j : Nat)]))
        rw [Int.zero_add]
  rintro H3 ⟨e3, hl3⟩
  have T := e10.trans (s2.trans e3)
  have D1 : Dp K H3 (.ref p) (.list (ms.map PyData.int)) := .lst (SqL.of (e3 _ _ hm)) (dp_ints _)
  refine ⟨.list (ms.map PyData.int), .list ((others n i).map PyData.int), D1, .lst (SqL.of hl3) (dp_ints _), shaped_ints _, shaped_ints _, ?_⟩
  rw [eqv_ints, others_eq pm pw]
  have eo : orderB n i (.tuple (ns.map PyData.int)) = ns.isPerm (others n i) := by
    show (match intsOf (ns.map PyData.int) with | some ns => ns.isPerm (others n i) | none => false) = _
    rw [intsOf_map]
  rw [eo] at q
  exact q H3 T
end
end Rw
namespace Rw
open PySem L2
abbrev sFault : Stmt := top 25
theorem evenE_none {ts : List PyData} {n : Nat} (hn : ts.length = n) (h : evOut ts n n 0 = none) : evenE ts = .none := by
  unfold evenE
  rw [hn, h]
  rfl
section
variable {P : Program} {w : World} {K : PySem.W.Frag} {mg : Str → Option Value} {base : Heap} {f : Addr} {fd : FuncData}
theorem scFault : FnScope ["hands", "value", "table", "orders", "i", "row", "j", "own"] ["hands", "value"] (defScope sFault) := ⟨rfl, rfl, rfl, by decide +kernel, rfl, by decide +kernel, by decide +kernel⟩
theorem ok_fault (F : Fun K "_law_door_fault" "_law_door_fault" sFault f fd) (B : Blt mg) (DR : Dfn P w K mg base "_law_is_row" ["hands", "i", "row"] 1 spRow) (DO : Dfn P w K mg base "_law_is_order" ["hands", "i", "row"] 2 spOrder) : FnOk P w K mg base CX0 3 f fd ["hands", "value"] spDoorE := by
  refine F.ok scFault (fun vs H Q E h => ?_) (fun cdv A outer s H vs Q E hr h => ?_)
  · obtain ⟨_, _, _, _, rfl, _⟩ := h
    rfl
  obtain ⟨av, v, d, n, rfl, hd, hn, wd, q⟩ := h
  have nd := scFault.nd
  have hr1 : Room 1 (A.deeper (PyProof.Rows.envOfC "_law_door_fault" (defScope sFault) s.heap.objs.size f cdv)) := hr.mono (by omega)
  have hu0 : (A.deeper (PyProof.Rows.envOfC "_law_door_fault" (defScope sFault) s.heap.objs.size f cdv)).units < cLine := by
    have := hu_of hr
    omega
  refine ⟨_, pss_cons (ps_if (PW.pt (pw_or (pt_not (pt_val (pe_isi (n := "tuple") (by simp) (pv 1) B.isi B.tup bt_tuple))) (pw_or (pt_cmpR op_ne (pe_callB call_len_seq (by rfl) B.len PySem.boot_len (pa_cons (pv 1) pa_nil)) pe_int (nomark _)) (pw_or1 (pt_cmpR (r := rNoneL K true) (op_neNone hu0)
      (pe_lc (own := [("own", 7)]) (g := gName 7) (tt := tNot (tB (tCB (rIsD K "tuple") (tCons (tVar 7) (tCons (tC (.ty "tuple")) tNil))))) rfl nd (pi_tup (pv 1)) (blkOk_by (N := ["hands", "value", "table", "orders", "i", "row", "j", "own"]) (sc := defScope sFault) (by decide +kernel)) (fun _ _ _ _ _ => pg_name (i := 7) nd rfl (Or.inl rfl))
        (fun _ _ _ _ _ => by exact pts_one (pt_not (pt_val (pe_isi (n := "tuple") (by simp) (pv 7) B.isi B.tup bt_tuple)))) (fun _ _ _ _ _ => pv 7)) (pe_lst pa_nil) (nomark _)))))) (pss_one (ps_ret pe_str)) pss_nil)
    (pss_cons (ps_asg (pv 1) (pg_tup rfl (pgs_cons (pg_name (i := 2) nd rfl (Or.inl rfl)) (pgs_cons (pg_name (i := 3) nd rfl (Or.inl rfl)) pgs_nil))))
    (pss_cons (ps_if (pt_cmpR op_ne (pe_callB call_len_seq (by rfl) B.len PySem.boot_len (pa_cons (pv 2) pa_nil)) (pv 0) (nomark _)) (pss_one (ps_ret pe_str)) pss_nil)
    (pss_cons (ps_for PassesOwn.never rfl (pi_enumT (by rfl) B.enu (pa_cons (pv 2) pa_nil)) (pg_tup rfl (pgs_cons (pg_name (i := 4) nd rfl (Or.inl rfl)) (pgs_cons (pg_name (i := 5) nd rfl (Or.inl rfl)) pgs_nil)))
      (pss_one (ps_if (pt_not (pt_val (pe_own DR hr1 (pa_cons (pv 0) (pa_cons (pv 4) (pa_cons (pv 5) pa_nil)))))) (pss_one (ps_ret (pe_tup (pa_cons pe_str (pa_cons (pv 4) pa_nil))))) pss_nil)))
    (pss_cons (ps_for PassesOwn.never rfl (pi_range1 (by rfl) B.rng (pa_cons (pv 0) pa_nil)) (pg_name (i := 4) nd rfl (Or.inl rfl))
      (pss_one (ps_for PassesOwn.never rfl (pi_range2 (by rfl) B.rng (pa_cons (pe_op op_add (pv 4) pe_int) (pa_cons (pv 0) pa_nil))) (pg_name (i := 6) nd rfl (Or.inl rfl))
        (pss_one (ps_if (pt_cmpR op_ne (pe_cmpR op_eq (pe_ix ix_tup (pe_ix ix_tup (pv 2) (pv 4) (fun _ _ => rfl)) (pv 6) (fun _ _ => rfl)) pe_str (nomark _)) (pe_cmpR op_eq (pe_ix ix_tup (pe_ix ix_tup (pv 2) (pv 6) (fun _ _ => rfl)) (pv 4) (fun _ _ => rfl)) pe_str (nomark _)) (nomark _))
          (pss_one (ps_ret (pe_tup (pa_cons pe_str (pa_cons (pv 4) (pa_cons (pv 6) pa_nil)))))) pss_nil)))))
    (pss_cons (ps_if (pt_cmpR op_ne (pe_callB call_len_seq (by rfl) B.len PySem.boot_len (pa_cons (pv 3) pa_nil)) (pv 0) (nomark _)) (pss_one (ps_ret pe_str)) pss_nil)
    (pss_cons (ps_for PassesOwn.never rfl (pi_enumT (by rfl) B.enu (pa_cons (pv 3) pa_nil)) (pg_tup rfl (pgs_cons (pg_name (i := 4) nd rfl (Or.inl rfl)) (pgs_cons (pg_name (i := 5) nd rfl (Or.inl rfl)) pgs_nil)))
      (pss_one (ps_if (pt_not (pt_val (pe_own DO hr (pa_cons (pv 0) (pa_cons (pv 4) (pa_cons (pv 5) pa_nil)))))) (pss_one (ps_ret (pe_tup (pa_cons pe_str (pa_cons (pv 4) pa_nil))))) pss_nil)))
    (pss_one (ps_ret pe_non)))))))), ?_⟩
  have form : ∀ {H' : Hp}, Same H H' → ¬ pairT d = true → Q (.str "form") H' := fun s1 c => by
    rw [doorE_form c] at q
    exact q _ _ s1 (.str _)
  refine ⟨_, rfl, av, v, d, rfl, hd, _, rfl, ?_⟩
  by_cases c0 : isT "tuple" d = true
  case neg =>
    refine iteY (by simpa using c0) ?_
    refine iteT (B := True) ?_
    exact form (Same.refl _) fun z => by
      obtain ⟨ts, os, e⟩ := pairT_of z
      exact c0 (isT_tup.mpr ⟨_, e⟩)
  obtain ⟨ds, rfl⟩ := isT_tup.mp c0
  refine iteZ (by simpa using c0) ?_
  obtain ⟨t, xs, rfl, _, ht, hx⟩ := hd.get_tup
  have lx := hx.len
  refine ⟨_, rfl, t, xs, rfl, .inr (SqT.of ht), rfl, _, rfl, ?_⟩
  by_cases c1 : ds.length = 2
  case neg =>
    refine iteY (by have := hx.len; simp; omega) ?_
    refine iteT (B := True) ?_
    exact form (Same.refl _) fun z => by
      obtain ⟨ts, os, e⟩ := pairT_of z
      cases e
      exact c1 rfl
  refine iteZ (by have := hx.len; simp; omega) ?_
  refine ⟨_, rfl, t, rfl, ⟨_, SqT.of ht⟩, fun D hD => ?_⟩
  refine lc_tup (K := K) (a := t) (xs := xs) (fun j H' => Same H H' ∧ ∃ ws : List V, H' D = some (.lst ws) ∧ ws.length ≤ j ∧ decide (ws = []) = (ds.take j).all (isT "tuple")) ?_ ?_ ?_ ?_
  · exact ⟨same_new hD _, [], upd_same, Nat.le_refl _, rfl⟩
  · rintro j H' _ ⟨e, _⟩
    exact SqT.of (e _ _ ht)
  · rintro j x H' hj ⟨e, ws, hl, lw, ew⟩
    obtain ⟨dj, hdj, rj⟩ := hx.at hj
    have hj2 : j < ds.length := (List.getElem?_eq_some_iff.mp hdj).1
    refine ⟨rfl, ?_⟩
    refine ⟨_, rfl, av, x, dj, rfl, rj.mono (Ext.of_same e), _, rfl, ?_⟩
    by_cases c3 : isT "tuple" dj = true
    · refine iteZ (by rw [c3]; decide) ?_
      refine ⟨e, ws, hl, by omega, ?_⟩
      rw [all_snoc hdj, c3, Bool.and_true]
      exact ew
    · have c4 : isT "tuple" dj = false := by simpa using c3
      refine iteY (by rw [c4]; rfl) ?_
      refine ⟨_, rfl, ws, hl, szlt (by omega), same_upd e hD _, ws ++ [x], upd_same, by rw [List.length_append, List.length_singleton]; omega, ?_⟩
      rw [all_snoc hdj, c4, Bool.and_false]
      exact decide_eq_false (by simp)
  rintro H1 ⟨e1, ws, hl, lw, ew⟩
  rw [List.take_of_length_le (by omega)] at ew
  refine ⟨Nat.zero_le _, fun p0 hp0 => ⟨D, p0, ws, rfl, rfl, SqL.of (same_new hp0 _ _ _ hl), SqL.of upd_same, _, rfl, ?_⟩⟩
  have s0 := same_new hp0 (.lst [])
  generalize upd H1 p0 (.lst []) = H0 at s0
  rw [ew]
  have e10 := e1.trans s0
  by_cases c2 : ds.all (isT "tuple") = true
  case neg =>
    have c4 : ds.all (isT "tuple") = false := by simpa using c2
    refine iteY (by rw [c4]; rfl) ?_
    exact form e10 fun z => by
      obtain ⟨ts, os, e⟩ := pairT_of z
      cases e
      exact c2 rfl
  refine iteZ (by rw [c2]; decide) ?_
  have cp : pairT (.tuple ds) = true := by
    show (decide (ds.length = 2) && ds.all (isT "tuple")) = true
    rw [decide_eq_true c1, c2]
    rfl
  clear form
  obtain ⟨ts, os, ee⟩ := pairT_of cp
  cases ee
  cases hx with
  | cons r1 r2 =>
  cases r2 with
  | cons r2 r3 =>
  cases r3
  have eD : doorE n (.tuple [.tuple ts, .tuple os]) = if isNone (tableE n ts) = true then ordersE n os else tableE n ts := rfl
  rw [eD] at q
  replace q := Gives.ext q e10
  have r1 := r1.mono (Ext.of_same e10)
  have r2 := r2.mono (Ext.of_same e10)
  have ht := e10 _ _ ht
  clear e10 s0 e1 ew hl hD hp0 hd
  have wo : PyData.weightAll os ≤ 100000 := by
    simp only [PyData.weight, PyData.weightAll] at wd
    omega
  refine ⟨_, rfl, t, _, rfl, SqT.of ht, rfl, _, _, rfl, _, _, rfl, rfl, ?_⟩
  obtain ⟨ta, ys, rfl, _, hta, hys⟩ := r1.get_tup
  obtain ⟨oa, zs, rfl, _, hoa, hzs⟩ := r2.get_tup
  have ly := hys.len
  have lz := hzs.len
  refine ⟨_, rfl, ta, ys, rfl, .inr (SqT.of hta), _, rfl, rfl, _, rfl, ?_⟩
  by_cases c : ts.length = n
  case neg =>
    refine iteY (len_ne.trans (by rw [decide_eq_false (by omega)]; rfl)) ?_
    have e : tableE n ts = .str "rows" := if_neg c
    rw [e] at q
    exact q _ _ (Same.refl _) (.str _)
  have eT : tableE n ts = match badP (rowB n) 0 ts with
    | some k => .tuple [.str "row", .int (k : Nat)]
    | none => evenE ts := if_pos c
  refine iteZ (fun z => by rw [len_ne, decide_eq_true (by omega)] at z; cases z) ?_
  refine ⟨_, rfl, ta, ys, rfl, SqT.of hta, for_it (walk_enumT (K := K) (a := ta) (xs := ys)) (fun i σ H' => ∃ (v4 v5 v6 v7 : Option V), σ = [some (.int (n : Nat)), some (.ref t), some (.ref ta), some (.ref oa), v4, v5, v6, v7] ∧ Same H0 H' ∧ badP (rowB n) i (ts.drop i) = badP (rowB n) 0 ts) ⟨_, _, _, _, rfl, Same.refl _, rfl⟩ ?_ ?_ ?_⟩
  · rintro i σ H' _ ⟨_, _, _, _, _, s1, _⟩
    exact SqT.of (s1 _ _ hta)
  · rintro i x σ H1 H2 hi ⟨v4, v5, v6, v7, rfl, s1, hb1⟩ ⟨T, x1, y, rfl, hT, rfl, e1, hy⟩
    cases (Option.some.inj e1)
    obtain ⟨d, hdi, hry⟩ := hys.at hy
    have s2 : Same H0 (upd H1 T (.tup [.int (i : Nat), y])) := s1.trans (same_new hT _)
    rw [drop_at hdi, badP_cons] at hb1
    refine ⟨T, _, rfl, SqT.of upd_same, rfl, _, _, rfl, _, _, rfl, rfl, ?_⟩
    generalize upd H1 T (.tup [.int (i : Nat), y]) = H3 at s2
    refine ⟨_, rfl, _, rfl, _, rfl, av, y, d, n, i, rfl, hry.mono (Ext.of_same s2), by omega, hn, fun H4 s3 => ⟨_, rfl, ?_⟩⟩
    have s4 := s2.trans s3
    by_cases c2 : rowB n i d = true
    · refine iteZ (by simpa using c2) ?_
      rw [if_pos c2] at hb1
      exact ⟨_, _, _, _, rfl, s4, hb1⟩
    · refine iteY (by simpa using c2) ?_
      rw [if_neg c2] at hb1
      rw [eT, ← hb1] at q
      refine ⟨_, rfl, (by show 2 ≤ sizeLine; decide), fun p hp => ?_⟩
      exact Gives.pair q s4 hp
  rintro σ H1 ⟨v4, v5, v6, v7, rfl, s1, hb1⟩
  rw [ly, List.drop_length, badP_nil] at hb1
  rw [eT, ← hb1] at q
  have ok : RowsOk ts := fun i d hi => by
    have z := badP_none hb1.symm i d hi
    rw [Nat.zero_add] at z
    rw [c]
    exact z
  replace q := Gives.ext q s1
  have hta := s1 _ _ hta
  have hoa := s1 _ _ hoa
  have hys := hys.mono (Ext.of_same s1)
  have hzs := hzs.mono (Ext.of_same s1)
  clear eT hb1
  subst c
  refine ⟨_, rfl, _, rfl, by omega, by omega, ?_⟩
  refine for_it (walk_range (lo := 0) (n := ts.length)) (fun i σ H' => H' = H1 ∧ (∃ (v4 v5 v6 v7 : Option V), σ = [some (.int (ts.length : Nat)), some (.ref t), some (.ref ta), some (.ref oa), v4, v5, v6, v7]) ∧ evOut ts ts.length (ts.length - i) i = evOut ts ts.length ts.length 0) ⟨rfl, ⟨_, _, _, _, rfl⟩, rfl⟩ (fun _ _ _ _ _ => trivial) ?_ ?_
  · rintro i x σ H2 H3 hi ⟨rfl, ⟨_, _, _, _, rfl⟩, hev⟩ ⟨rfl, ex⟩
    have ex : x = V.int (i : Nat) := by
      rw [ex]
      show V.int (0 + (i : Nat)) = _
      rw [Int.zero_add]
    subst ex
    have hk : ts.length - i = (ts.length - (i + 1)) + 1 := by omega
    rw [hk] at hev
    refine ⟨_, rfl, _, _, rfl, rfl, ?_⟩
    refine ⟨_, rfl, _, _, rfl, ⟨by omega, by omega, by omega, by omega⟩, ?_⟩
    refine for_it (walk_range (lo := (i : Int) + 1) (n := (((ts.length : Nat) : Int) - ((i : Int) + 1)).toNat)) (fun k σ H' => H' = H3 ∧ (∃ v5 v6 v7 : Option V, σ = [some (.int (ts.length : Nat)), some (.ref t), some (.ref ta), some (.ref oa), some (.int (i : Nat)), v5, v6, v7]) ∧ evIn ts i (ts.length - (i + 1) - k) (i + 1 + k) = evIn ts i (ts.length - (i + 1)) (i + 1)) ⟨rfl, ⟨_, _, _, rfl⟩, rfl⟩ (fun _ _ _ _ _ => trivial) ?_ ?_
    · rintro k y σ H4 H5 hk2 ⟨rfl, ⟨_, _, _, rfl⟩, hin⟩ ⟨rfl, ey⟩
      have ey : y = V.int ((i + 1 + k : Nat) : Int) := by
        rw [ey]
        show V.int ((i : Int) + 1 + (k : Nat)) = _
        congr 1
      subst ey
      have hj : i + 1 + k < ts.length := by omega
      generalize hjj : i + 1 + k = j at hj hin
      obtain ⟨a1, y1, z1, g1, b1, c1, d1⟩ := cell_at hys ok hi hj
      obtain ⟨a2, y2, z2, g2, b2, c2, d2⟩ := cell_at hys ok hj hi
      have hk3 : ts.length - (i + 1) - k = (ts.length - (i + 1) - (k + 1)) + 1 := by omega
      rw [hk3] at hin
      refine ⟨_, rfl, _, rfl, ta, ys, _, _, rfl, rfl, SqT.of hta, atI_nat g1, _, rfl, a1, y1, _, _, rfl, rfl, SqT.of b1, atI_nat c1, rfl, _, rfl, _, rfl, ta, ys, _, _, rfl, rfl, SqT.of hta, atI_nat g2, _, rfl, a2, y2, _, _, rfl, rfl, SqT.of b2, atI_nat c2, rfl, rfl, _, rfl, ?_⟩
      have eb : (!decide (V.bl (decide (V.str z1 = V.str "even")) = V.bl (decide (V.str z2 = V.str "even")))) = (cellE ts i j != cellE ts j i) := by
        rw [d1, d2]
        cases cellE ts i j <;> cases cellE ts j i <;> rfl
      by_cases c3 : (cellE ts i j != cellE ts j i) = true
      · rw [evIn_succ, if_pos c3] at hin
        refine iteY (eb.trans c3) ?_
        refine ⟨_, rfl, _, rfl, (by show 3 ≤ sizeLine; decide), fun p hp => ?_⟩
        have e : evenE ts = .tuple [.str "even", .int (i : Nat), .int (j : Nat)] := by
          unfold evenE
          rw [← hev, evOut_succ, ← hin]
          rfl
        rw [e] at q
        exact Gives.three q (Same.refl _) hp
      · rw [evIn_succ, if_neg c3] at hin
        refine iteZ (fun z => c3 (eb.symm.trans z)) ?_
        refine ⟨rfl, ⟨_, _, _, rfl⟩, ?_⟩
        rw [← hin, ← hjj]
        rfl
    · rintro σ H4 ⟨rfl, ⟨_, _, _, rfl⟩, hin⟩
      have z0 : ts.length - (i + 1) - (((ts.length : Nat) : Int) - ((i : Int) + 1)).toNat = 0 := by omega
      rw [z0] at hin
      refine ⟨rfl, ⟨_, _, _, _, rfl⟩, ?_⟩
      rw [← hev, evOut_succ, ← hin]
      rfl
  rintro σ H2 ⟨rfl, ⟨_, _, _, _, rfl⟩, hev⟩
  rw [Nat.sub_self] at hev
  rw [evenE_none rfl hev.symm] at q
  replace q : Gives (ordersE ts.length os) H2 Q := q
  refine ⟨_, rfl, oa, zs, rfl, .inr (SqT.of hoa), _, rfl, rfl, _, rfl, ?_⟩
  by_cases c3 : os.length = ts.length
  case neg =>
    refine iteY (len_ne.trans (by rw [decide_eq_false (by omega)]; rfl)) ?_
    have e : ordersE ts.length os = .str "orders" := if_neg c3
    rw [e] at q
    exact q _ _ (Same.refl _) (.str _)
  have eT := ordersE_nil ts.length os c3
  refine iteZ (fun z => by rw [len_ne, decide_eq_true (by omega)] at z; cases z) ?_
  refine ⟨_, rfl, oa, zs, rfl, SqT.of hoa, for_it (walk_enumT (K := K) (a := oa) (xs := zs)) (fun i σ H' => ∃ (v4 v5 v6 v7 : Option V), σ = [some (.int (ts.length : Nat)), some (.ref t), some (.ref ta), some (.ref oa), v4, v5, v6, v7] ∧ Same H2 H' ∧ badP (orderB ts.length) i (os.drop i) = badP (orderB ts.length) 0 os) ⟨_, _, _, _, rfl, Same.refl _, rfl⟩ ?_ ?_ ?_⟩
  · rintro i σ H' _ ⟨_, _, _, _, _, s1, _⟩
    exact SqT.of (s1 _ _ hoa)
  · rintro i x σ H3 H4 hi ⟨v4, v5, v6, v7, rfl, s2, hb1⟩ ⟨T, x1, y, rfl, hT, rfl, e1, hy⟩
    cases (Option.some.inj e1)
    obtain ⟨d, hdi, hry⟩ := hzs.at hy
    have s3 : Same H2 (upd H3 T (.tup [.int (i : Nat), y])) := s2.trans (same_new hT _)
    rw [drop_at hdi, badP_cons] at hb1
    refine ⟨T, _, rfl, SqT.of upd_same, rfl, _, _, rfl, _, _, rfl, rfl, ?_⟩
    generalize upd H3 T (.tup [.int (i : Nat), y]) = H5 at s3
    have wdd : d.weight ≤ 100000 := by
      have := wA_mem (List.mem_of_getElem? hdi)
      omega
    refine ⟨_, rfl, _, rfl, _, rfl, av, y, d, ts.length, i, rfl, hry.mono (Ext.of_same s3), by omega, hn, wdd, fun H6 s4 => ⟨_, rfl, ?_⟩⟩
    have s5 := s3.trans s4
    by_cases c2 : orderB ts.length i d = true
    · refine iteZ (by simpa using c2) ?_
      rw [if_pos c2] at hb1
      exact ⟨_, _, _, _, rfl, s5, hb1⟩
    · refine iteY (by simpa using c2) ?_
      rw [if_neg c2] at hb1
      rw [eT, ← hb1] at q
      refine ⟨_, rfl, (by show 2 ≤ sizeLine; decide), fun p hp => ?_⟩
      exact Gives.pair q s5 hp
  · rintro σ H' ⟨v4, v5, v6, v7, rfl, s2, hb1⟩
    rw [lz, List.drop_length, badP_nil] at hb1
    rw [eT, ← hb1] at q
    exact q _ _ s2 .non
end
end Rw
namespace Rw
open PySem L2
abbrev sMixed : Stmt := top 16
theorem free_of {dk gl : Addr} {H H1 : Hp} (e1 : Ext (avD dk gl) H H1) {p : Addr} (n : ¬ avD dk gl p) (h : H1 p = none) : H p = none := by
  cases z : H p with
  | none => rfl
  | some o =>
    rw [e1 _ _ n z] at h
    cases h
theorem map_erase {α β : Type} (g : α → β) : ∀ (l : List α) (i : Nat), (l.map g).eraseIdx i = (l.eraseIdx i).map g
  | [], _ => rfl
  | _ :: _, 0 => rfl
  | a :: l, i + 1 => congrArg (g a :: ·) (map_erase g l i)
/-- a list of the same many ints, each of those that were handed in; new to the heap H -/
def spMixed : Sp := fun vs H Q _ => ∃ (dk gl l : Addr) (ns : List Int), vs = [.ref dk, .ref l] ∧ DeckAt dk gl H ∧ H l = some (.lst (ns.map V.int)) ∧ ns.length ≤ 1000 ∧ ∀ (r : Addr) (ms : List Int) (H' : Hp), Ext (avD dk gl) H H' → DeckAt dk gl H' → H' r = some (.lst (ms.map V.int)) → ms.length = ns.length → (∀ x ∈ ms, x ∈ ns) → Q (.ref r) H'
section
variable {P : Program} {w : World} {K : PySem.W.Frag} {mg : Str → Option Value} {base : Heap} {f : Addr} {fd : FuncData}
theorem scMixed : FnScope ["deck", "items", "left", "found"] ["deck", "items"] (defScope sMixed) := ⟨rfl, rfl, rfl, by decide +kernel, rfl, by decide +kernel, by decide +kernel⟩
theorem ok_mixed (F : Fun K "_law_mixed" "_law_mixed" sMixed f fd) (B : Blt mg) (DD : Dfn P w K mg base "_law_draw" ["deck", "many"] 1 spDraw) : FnOk P w K mg base CX0 2 f fd ["deck", "items"] spMixed := by
  refine F.ok scMixed (fun vs H Q E h => ?_) (fun cdv A outer s H vs Q E hr h => ?_)
  · obtain ⟨_, _, _, _, rfl, _⟩ := h
    rfl
  obtain ⟨dk, gl, l, ns, rfl, hD, hl, hz, q⟩ := h
  have nd := scMixed.nd
  have hu64 : (A.deeper (PyProof.Rows.envOfC "_law_mixed" (defScope sMixed) s.heap.objs.size f cdv)).units + 64 < cLine := by
    have := hr.un
    omega
  refine ⟨_, pss_cons (ps_par (i := 2) (j := 3) (by rfl) nd rfl rfl (by decide) rfl rfl (pa_cons (pe_callTy call_list_of (by rfl) B.list (by decide +kernel) (pa_cons (pv 1) pa_nil)) (pa_cons (pe_lst pa_nil) pa_nil)) (by rfl))
    (pss_cons (ps_while PassesOwn.never (pt_cmpR (op_neD hu64) (pv 2) (pe_lst pa_nil) (nomark _)) (pss_one (ps_expr (pe_bm PySem.F.plainAttrs_list PySem.F.slot_list_append PySem.F.type_list_append mt_append (pv 3)
      (pa_cons (pe_bm PySem.F.plainAttrs_list PySem.F.slot_list_pop PySem.F.type_list_pop mt_popAt (pv 2) (pa_cons (pe_own DD hr (pa_cons (pv 0) (pa_cons (pe_callB call_len_seq (by rfl) B.len PySem.boot_len (pa_cons (pv 2) pa_nil)) pa_nil))) pa_nil)) pa_nil)))))
    (pss_one (ps_ret (pv 3)))), ?_⟩
  refine ⟨_, rfl, l, _, rfl, .inl (SqL.of hl), fun L hL => ⟨Nat.zero_le _, fun M hM => ⟨_, _, rfl, ?_⟩⟩⟩
  have nL : ¬ avD dk gl L := hD.new hL
  have D1 := hD.same (same_new hL (.lst (ns.map V.int)))
  have nM : ¬ avD dk gl M := D1.new hM
  have ne : M ≠ L := (ne_of_none upd_same hM).symm
  have hM0 : H M = none := by
    rw [upd_ne ne] at hM
    exact hM
  refine ⟨fun m σ H' => ∃ (ls fs : List Int), σ = [some (.ref dk), some (.ref l), some (.ref L), some (.ref M)] ∧ m = ls.length ∧ Ext (avD dk gl) H H' ∧ DeckAt dk gl H' ∧ H' L = some (.lst (ls.map V.int)) ∧ H' M = some (.lst (fs.map V.int)) ∧ fs.length + ls.length = ns.length ∧ (∀ x ∈ ls, x ∈ ns) ∧ ∀ x ∈ fs, x ∈ ns,
    ⟨ns.length, ns, [], rfl, rfl, ext_upd (ext_upd Ext.refl hL _) hM0 _, D1.put nM _, by rw [upd_ne ne.symm]; exact upd_same, upd_same, by simp, fun _ h => h, fun x h => absurd h (by simp)⟩, ?_⟩
  rintro m σ H1 ⟨ls, fs, rfl, rfl, e1, D2, h1, h2, hlen, i1, i2⟩
  refine ⟨_, rfl, Nat.zero_le _, fun p hp => ?_⟩
  have s1 := same_new hp (.lst [])
  refine ⟨.list (ls.map PyData.int), .list (([] : List Int).map PyData.int), .lst (SqL.of (s1 _ _ h1)) (dp_ints _), .lst (SqL.of upd_same) .nil, shaped_ints _, shaped_ints [], _, rfl, ?_⟩
  rw [eqv_ints]
  have h1 := s1 _ _ h1
  have h2 := s1 _ _ h2
  have e1 := e1.trans (Ext.of_same s1)
  have D2 := D2.same s1
  generalize upd H1 p (.lst []) = H2 at h1 h2 e1 D2
  by_cases c : ls = []
  · subst c
    refine iteZ (by simp) ?_
    exact ⟨_, rfl, q M fs H2 e1 D2 h2 (by simpa using hlen) i2⟩
  · refine iteY (by simp [c]) ?_
    have lpos : 0 < ls.length := List.length_pos_iff.mpr c
    refine ⟨fun σ2 H3 => ∃ m', m' < ls.length ∧ ∃ (ls fs : List Int), σ2 = [some (.ref dk), some (.ref l), some (.ref L), some (.ref M)] ∧ m' = ls.length ∧ Ext (avD dk gl) H H3 ∧ DeckAt dk gl H3 ∧ H3 L = some (.lst (ls.map V.int)) ∧ H3 M = some (.lst (fs.map V.int)) ∧ fs.length + ls.length = ns.length ∧ (∀ x ∈ ls, x ∈ ns) ∧ ∀ x ∈ fs, x ∈ ns, fun _ _ h => h, ?_⟩
    refine ⟨_, rfl, .inl ⟨rfl, _, SqL.of h2⟩, _, rfl, .inl ⟨rfl, _, SqL.of h1⟩, _, rfl, _, rfl, L, _, rfl, .inl (SqL.of h1), dk, gl, _, rfl, D2, by rw [List.length_map]; omega, fun r H3 e3 D3 r0 r1 => ?_⟩
    rw [List.length_map] at r1
    have rl : r < (ls.length : Int) := by omega
    have g1 := e3 _ _ nL h1
    have g2 := e3 _ _ nM h2
    have rk : r.toNat < ls.length := by omega
    have gx : (ls.map V.int)[r.toNat]? = some (V.int ls[r.toNat]) := by
      rw [List.getElem?_map, List.getElem?_eq_getElem rk]
      rfl
    refine ⟨L, _, r, r.toNat, _, rfl, rfl, g1, by omega, by omega, seqIndex_of r0 (by rw [List.length_map]; exact rl), gx, ?_⟩
    have x3 : (ls.map V.int).eraseIdx r.toNat = (ls.eraseIdx r.toNat).map V.int := map_erase _ _ _
    rw [x3]
    refine ⟨M, _, _, rfl, rfl, by rw [upd_ne ne]; exact g2, szlt (by rw [List.length_map]; omega), ?_⟩
    have x4 : fs.map V.int ++ [V.int ls[r.toNat]] = (fs ++ [ls[r.toNat]]).map V.int := by
      rw [List.map_append]
      rfl
    rw [x4]
    have le : (ls.eraseIdx r.toNat).length = ls.length - 1 := List.length_eraseIdx_of_lt rk
    refine ⟨(ls.eraseIdx r.toNat).length, by omega, _, _, rfl, rfl, ext_upd (ext_upd (e1.trans e3) hL _) hM0 _, (D3.put nL _).put nM _, by rw [upd_ne ne.symm]; exact upd_same, upd_same, ?_, fun x h => i1 x (List.mem_of_mem_eraseIdx h), ?_⟩
    · rw [List.length_append, List.length_singleton, le]
      omega
    · intro x h
      rcases List.mem_append.mp h with y | y
      · exact i2 x y
      · rw [List.mem_singleton.mp y]
        exact i1 _ (List.getElem_mem rk)
end
end Rw
namespace Rw
open PySem L2
abbrev sDoor : Stmt := top 22
def rOk (x : Int) : Prop := 0 ≤ x ∧ x < 1000
def rowD (zs : List Str) : PyData := .tuple (zs.map PyData.str)
def ordD (ns : List Int) : PyData := .tuple (ns.map PyData.int)
def doorD (tab : List (List Str)) (ords : List (List Int)) : PyData := .tuple [.tuple (tab.map rowD), .tuple (ords.map ordD)]
def wordsD : List Str := ["-", "stand", "bow", "even"]
theorem wordsD_ok : ∀ z ∈ wordsD, zOk z = true := by decide +kernel
structure DoorOk (n : Nat) (tab : List (List Str)) (ords : List (List Int)) : Prop where
  tl : tab.length = n
  tr : ∀ zs ∈ tab, zs.length = n ∧ ∀ z ∈ zs, zOk z = true
  ol : ords.length ≤ 5
  oo : ∀ ns ∈ ords, ns.length ≤ 5 ∧ ∀ x ∈ ns, rOk x
  n5 : n ≤ 5
theorem w_all {c : Nat} : ∀ {ds : List PyData}, (∀ d ∈ ds, d.weight ≤ c) → PyData.weightAll ds ≤ ds.length * (c + 1)
  | [], _ => by simp [PyData.weightAll]
  | d :: ds, h => by
    have h1 := h d List.mem_cons_self
    have h2 := w_all (ds := ds) fun e he => h e (List.mem_cons_of_mem _ he)
    simp only [PyData.weightAll, List.length_cons]
    have : (ds.length + 1) * (c + 1) = ds.length * (c + 1) + (c + 1) := Nat.succ_mul _ _
    omega
theorem row_ok {zs : List Str} (h : ∀ z ∈ zs, zOk z = true) (l : zs.length ≤ 5) : Nc 1 (rowD zs) ∧ (rowD zs).weight ≤ 355 := by
  refine ⟨Nc.tup (NcAll.iff.mpr fun d hd => ?_), ?_⟩
  · obtain ⟨z, hz, rfl⟩ := List.mem_map.mp hd
    exact (Nc.ofZ (h z hz)).1
  · have w := w_all (c := 70) (ds := zs.map PyData.str) fun d hd => by
      obtain ⟨z, hz, rfl⟩ := List.mem_map.mp hd
      exact (Nc.ofZ (k := 0) (h z hz)).2
    rw [List.length_map] at w
    have : zs.length * 71 ≤ 5 * 71 := Nat.mul_le_mul_right _ l
    unfold rowD
    simp only [PyData.weight]
    omega
theorem sm_of {x : Int} (h : rOk x) : x.natAbs < 10 ^ 20 := by
  have ten20 : (10 : Nat) ^ 20 = 100000000000000000000 := by decide
  obtain ⟨a, b⟩ := h
  omega
theorem ord_ok {ns : List Int} (h : ∀ x ∈ ns, rOk x) (l : ns.length ≤ 5) : Nc 1 (ordD ns) ∧ (ordD ns).weight ≤ 355 := by
  refine ⟨Nc.tup (NcAll.iff.mpr fun d hd => ?_), ?_⟩
  · obtain ⟨z, hz, rfl⟩ := List.mem_map.mp hd
    exact .int (sm_of (h z hz))
  · have w := w_all (c := 70) (ds := ns.map PyData.int) fun d hd => by
      obtain ⟨z, hz, rfl⟩ := List.mem_map.mp hd
      exact w_int (sm_of (h z hz))
    rw [List.length_map] at w
    have : ns.length * 71 ≤ 5 * 71 := Nat.mul_le_mul_right _ l
    unfold ordD
    simp only [PyData.weight]
    omega
theorem tab_ok {n : Nat} {tab : List (List Str)} {ords : List (List Int)} (h : DoorOk n tab ords) : Nc 2 (.tuple (tab.map rowD)) ∧ (PyData.tuple (tab.map rowD)).weight ≤ 1780 := by
  refine ⟨Nc.tup (NcAll.iff.mpr fun d hd => ?_), ?_⟩
  · obtain ⟨zs, hz, rfl⟩ := List.mem_map.mp hd
    have := h.n5
    exact (row_ok (h.tr zs hz).2 (by have := (h.tr zs hz).1; omega)).1
  · have w := w_all (c := 355) (ds := tab.map rowD) fun d hd => by
      obtain ⟨zs, hz, rfl⟩ := List.mem_map.mp hd
      have := h.n5
      exact (row_ok (h.tr zs hz).2 (by have := (h.tr zs hz).1; omega)).2
    rw [List.length_map] at w
    have : tab.length * 356 ≤ 5 * 356 := Nat.mul_le_mul_right _ (by have := h.tl; have := h.n5; omega)
    simp only [PyData.weight]
    omega
theorem ords_ok {n : Nat} {tab : List (List Str)} {ords : List (List Int)} (h : DoorOk n tab ords) : Nc 2 (.tuple (ords.map ordD)) ∧ (PyData.tuple (ords.map ordD)).weight ≤ 1780 := by
  refine ⟨Nc.tup (NcAll.iff.mpr fun d hd => ?_), ?_⟩
  · obtain ⟨ns, hz, rfl⟩ := List.mem_map.mp hd
    exact (ord_ok (h.oo ns hz).2 (h.oo ns hz).1).1
  · have w := w_all (c := 355) (ds := ords.map ordD) fun d hd => by
      obtain ⟨ns, hz, rfl⟩ := List.mem_map.mp hd
      exact (ord_ok (h.oo ns hz).2 (h.oo ns hz).1).2
    rw [List.length_map] at w
    have : ords.length * 356 ≤ 5 * 356 := Nat.mul_le_mul_right _ h.ol
    simp only [PyData.weight]
    omega
theorem door_ok {n : Nat} {tab : List (List Str)} {ords : List (List Int)} (h : DoorOk n tab ords) : Nc 3 (doorD tab ords) ∧ (doorD tab ords).weight ≤ 3600 := by
  obtain ⟨a, b⟩ := tab_ok h
  obtain ⟨c, d⟩ := ords_ok h
  refine ⟨Nc.tup (.cons a (.cons c .nil)), ?_⟩
  unfold doorD
  rw [PyData.weight]
  rw [PyData.weightAll, PyData.weightAll, PyData.weightAll]
  omega
structure DoorAt (dk gl WL RL OL : Addr) (H H' : Hp) (n : Nat) (ra : List Addr) (ov : List V) (ords : List (List Int)) : Prop where
  ex : Ext (avD dk gl) H H'
  de : DeckAt dk gl H'
  nW : ¬ avD dk gl WL
  nR : ¬ avD dk gl RL
  nO : ¬ avD dk gl OL
  zO : H OL = none
  OR : OL ≠ RL
  OW : OL ≠ WL
  wl : ∃ ws : List Addr, H' WL = some (.lst (ws.map V.ref)) ∧ ws.length = 6 ∧ ∀ w ∈ ws, ¬ avD dk gl w ∧ ∃ y z : Str, H' w = some (.tup [.str y, .str z]) ∧ y ∈ wordsD ∧ z ∈ wordsD
  rl : H' RL = some (.lst (ra.map V.ref))
  rn : ra.length = n
  rows : ∀ a ∈ ra, H a = none ∧ ¬ avD dk gl a ∧ a ≠ RL ∧ a ≠ OL ∧ a ≠ WL ∧ ∃ zs : List Str, H' a = some (.lst (zs.map V.str)) ∧ zs.length = n ∧ ∀ z ∈ zs, z ∈ wordsD
  ol : H' OL = some (.lst ov)
  od : RpAll (fun b => dom H b ∨ b = OL ∨ b ∈ ra) H' ov (ords.map ordD)
  os : ∀ ns ∈ ords, ns.length ≤ 5 ∧ ∀ x ∈ ns, rOk x
section
variable {dk gl WL RL OL : Addr} {H H1 : Hp} {n : Nat} {ra : List Addr} {ov : List V} {ords : List (List Int)}
theorem DoorAt.ext (W : DoorAt dk gl WL RL OL H H1 n ra ov ords) (hD : DeckAt dk gl H) {H2 : Hp} (e : Ext (avD dk gl) H1 H2) (D : DeckAt dk gl H2) : DoorAt dk gl WL RL OL H H2 n ra ov ords where
  ex := W.ex.trans e
  de := D
  nW := W.nW
  nR := W.nR
  nO := W.nO
  zO := W.zO
  OR := W.OR
  OW := W.OW
  wl := by
    obtain ⟨ws, h1, h2, h3⟩ := W.wl
    refine ⟨ws, e _ _ W.nW h1, h2, fun w hw => ?_⟩
    obtain ⟨a, y, z, b, c⟩ := h3 w hw
    exact ⟨a, y, z, e _ _ a b, c⟩
  rl := e _ _ W.nR W.rl
  rn := W.rn
  rows := fun a ha => by
    obtain ⟨h1, h2, h3, h4, h5, zs, h6, h7⟩ := W.rows a ha
    exact ⟨h1, h2, h3, h4, h5, zs, e _ _ h2 h6, h7⟩
  ol := e _ _ W.nO W.ol
  od := W.od.mono fun b o nb h => e b o (fun z => nb (.inl (dom_deck hD z))) h
  os := W.os
theorem DoorAt.setRow (W : DoorAt dk gl WL RL OL H H1 n ra ov ords) {a : Addr} (ha : a ∈ ra) {zs : List Str} (hz : zs.length = n) (hw : ∀ z ∈ zs, z ∈ wordsD) : DoorAt dk gl WL RL OL H (upd H1 a (.lst (zs.map V.str))) n ra ov ords := by
  obtain ⟨h1, h2, h3, h4, h5, zs0, h6, h7, h8⟩ := W.rows a ha
  exact {
    ex := ext_upd W.ex h1 _
    de := W.de.put h2 _
    nW := W.nW
    nR := W.nR
    nO := W.nO
    zO := W.zO
    OR := W.OR
    OW := W.OW
    wl := by
      obtain ⟨ws, k1, k2, k3⟩ := W.wl
      refine ⟨ws, by rw [upd_ne h5.symm]; exact k1, k2, fun w hw => ?_⟩
      obtain ⟨b1, y, z, b2, b3⟩ := k3 w hw
      have nw : w ≠ a := fun q => by
        rw [q, h6] at b2
        cases b2
      exact ⟨b1, y, z, by rw [upd_ne nw]; exact b2, b3⟩
    rl := by rw [upd_ne h3.symm]; exact W.rl
    rn := W.rn
    rows := fun b hb => by
      obtain ⟨k1, k2, k3, k4, k5, zs1, k6, k7⟩ := W.rows b hb
      by_cases q : b = a
      · subst q
        exact ⟨k1, k2, k3, k4, k5, zs, upd_same, hz, hw⟩
      · exact ⟨k1, k2, k3, k4, k5, zs1, by rw [upd_ne q]; exact k6, k7⟩
    ol := by rw [upd_ne h4.symm]; exact W.ol
    od := W.od.mono (Ext.put (.inr (.inr ha)) _)
    os := W.os }
theorem DoorAt.addOrd (W : DoorAt dk gl WL RL OL H H1 n ra ov ords) {v : V} {ns : List Int} (r : Rp (fun b => dom H b ∨ b = OL ∨ b ∈ ra) H1 v (ordD ns)) (l : ns.length ≤ 5) (k : ∀ x ∈ ns, rOk x) : DoorAt dk gl WL RL OL H (upd H1 OL (.lst (ov ++ [v]))) n ra (ov ++ [v]) (ords ++ [ns]) where
  ex := ext_upd W.ex W.zO _
  de := W.de.put W.nO _
  nW := W.nW
  nR := W.nR
  nO := W.nO
  zO := W.zO
  OR := W.OR
  OW := W.OW
  wl := by
    obtain ⟨ws, k1, k2, k3⟩ := W.wl
    refine ⟨ws, by rw [upd_ne W.OW.symm]; exact k1, k2, fun w hw => ?_⟩
    obtain ⟨b1, y, z, b2, b3⟩ := k3 w hw
    have nw : w ≠ OL := fun q => by
      rw [q, W.ol] at b2
      cases b2
    exact ⟨b1, y, z, by rw [upd_ne nw]; exact b2, b3⟩
  rl := by rw [upd_ne W.OR.symm]; exact W.rl
  rn := W.rn
  rows := fun b hb => by
    obtain ⟨k1, k2, k3, k4, k5, zs1, k6, k7⟩ := W.rows b hb
    exact ⟨k1, k2, k3, k4, k5, zs1, by rw [upd_ne k4]; exact k6, k7⟩
  ol := upd_same
  od := by
    rw [List.map_append]
    exact (W.od.snoc r).mono (Ext.put (.inr (.inl rfl)) _)
  os := fun ns' h => by
    rcases List.mem_append.mp h with y | y
    · exact W.os ns' y
    · rw [List.mem_singleton.mp y]
      exact ⟨l, k⟩
theorem DoorAt.new (W : DoorAt dk gl WL RL OL H H1 n ra ov ords) {p : Addr} (hp : H1 p = none) : ¬ (dom H p ∨ p = OL ∨ p ∈ ra) := by
  rintro (z | z | z)
  · exact not_dom hp (dom_ext W.ex W.de z)
  · rw [z, W.ol] at hp
    cases hp
  · obtain ⟨_, _, _, _, _, zs, k6, _⟩ := W.rows p z
    rw [k6] at hp
    cases hp
end
end Rw
namespace Rw
open PySem L2
def GivesDoor (dk gl : Addr) (n : Nat) (H : Hp) (Q : VK) : Prop := ∀ (v : V) (tab : List (List Str)) (ords : List (List Int)) (H' : Hp), Ext (avD dk gl) H H' → DeckAt dk gl H' → Rp (dom H) H' v (doorD tab ords) → DoorOk n tab ords → Q v H'
def spDoor : Sp := fun vs H Q _ => ∃ (dk gl : Addr) (n : Nat), vs = [.ref dk, .int (n : Nat)] ∧ DeckAt dk gl H ∧ 1 ≤ n ∧ n ≤ 5 ∧ GivesDoor dk gl n H Q
def WordT (H : Hp) (w : Addr) : Prop := ∃ y z : Str, H w = some (.tup [.str y, .str z]) ∧ y ∈ wordsD ∧ z ∈ wordsD
theorem WordT.make {H1 : Hp} {p : Addr} (_hp : H1 p = none) {y z : Str} (hy : y ∈ wordsD) (hz : z ∈ wordsD) : WordT (upd H1 p (.tup [.str y, .str z])) p := ⟨y, z, upd_same, hy, hz⟩
theorem WordT.same {H1 H2 : Hp} {p : Addr} (h : WordT H1 p) (s : Same H1 H2) : WordT H2 p := by
  obtain ⟨y, z, a, b⟩ := h
  exact ⟨y, z, s _ _ a, b⟩
theorem WordT.off {dk gl : Addr} {H1 : Hp} {p : Addr} (h : WordT H1 p) (D : DeckAt dk gl H1) : ¬ avD dk gl p := by
  obtain ⟨y, z, a, b⟩ := h
  obtain ⟨g, s, t, h1, h2, _⟩ := D.ex
  rintro (e | e)
  · rw [e, h1] at a
    cases a
  · rw [e, h2] at a
    cases a
theorem RpAll.strs {av : Addr → Prop} {H : Hp} : ∀ zs : List Str, RpAll av H (zs.map V.str) (zs.map PyData.str)
  | [] => .nil
  | z :: r => .cons (.str z) (RpAll.strs r)
theorem ixN_nat {n j : Nat} (h : j < n) : ixN n ((j : Nat) : Int) = some j := by
  unfold ixN
  rw [if_pos (by omega), if_pos (by omega), Int.toNat_natCast]
def rTup (K : PySem.W.Frag) : List V → Hp → VK → Prop := fun xs H Q => ∃ (p : Addr) (ys : List V), xs = [.ref p] ∧ ((SqL K H p ys ∧ ∀ l : Addr, H l = none → Q (.ref l) (upd H l (.tup ys))) ∨ SqT K H p ys ∧ Q (.ref p) H)
section
variable {P : Program} {w : World} {K : PySem.W.Frag} {mg : Str → Option Value} {base : Heap} {f : Addr} {fd : FuncData}
theorem scDoor : FnScope ["deck", "hands", "words", "rows", "orders", "i", "j", "hand", "row"] ["deck", "hands"] (defScope sDoor) := ⟨rfl, rfl, rfl, by decide +kernel, rfl, by decide +kernel, by decide +kernel⟩
theorem ok_door (F : Fun K "_law_door" "_law_door" sDoor f fd) (B : Blt mg) (DP : Dfn P w K mg base "_law_pick" ["deck", "items"] 2 spPick) (DM : Dfn P w K mg base "_law_mixed" ["deck", "items"] 2 spMixed) : FnOk P w K mg base CX0 3 f fd ["deck", "hands"] spDoor := by
  refine F.ok scDoor (fun vs H Q E h => ?_) (fun cdv A outer s H vs Q E hr h => ?_)
  · obtain ⟨_, _, _, rfl, _⟩ := h
    rfl
  obtain ⟨dk, gl, n, rfl, hD, n1, n5, q⟩ := h
  have nd := scDoor.nd
  refine ⟨_, pss_cons (ps_set (i := 2) nd rfl (Or.inl rfl) (pe_lst (pa_cons (pe_tup (pa_cons pe_str (pa_cons pe_str pa_nil))) (pa_cons (pe_tup (pa_cons pe_str (pa_cons pe_str pa_nil))) (pa_cons (pe_tup (pa_cons pe_str (pa_cons pe_str pa_nil))) (pa_cons (pe_tup (pa_cons pe_str (pa_cons pe_str pa_nil)))
      (pa_cons (pe_op op_repT (pe_tup (pa_cons pe_str pa_nil)) pe_int) (pa_cons (pe_op op_repT (pe_tup (pa_cons pe_str pa_nil)) pe_int) pa_nil))))))))
    (pss_cons (ps_par (i := 3) (j := 4) (by rfl) nd rfl rfl (by decide) rfl rfl (pa_cons (pe_lc (own := [("hand", 7)]) (g := gName 7) (tt := tYes) rfl nd (pi_range1 (by rfl) B.rng (pa_cons (pv 1) pa_nil))
        (blkOk_by (N := ["deck", "hands", "words", "rows", "orders", "i", "j", "hand", "row"]) (sc := defScope sDoor) (by decide +kernel)) (fun _ _ _ _ _ => pg_name (i := 7) nd rfl (Or.inl rfl)) (fun _ _ _ _ _ => pts_nil) (fun _ _ _ _ _ => pe_op op_rep (pe_lst (pa_cons pe_str pa_nil)) (pv 1)))
        (pa_cons (pe_lst pa_nil) pa_nil)) (by rfl))
    (pss_cons (ps_for PassesOwn.never rfl (pi_range1 (by rfl) B.rng (pa_cons (pv 1) pa_nil)) (pg_name (i := 5) nd rfl (Or.inr rfl))
      (pss_cons (ps_for PassesOwn.never rfl (pi_range2 (by rfl) B.rng (pa_cons (pe_op op_add (pv 5) pe_int) (pa_cons (pv 1) pa_nil))) (pg_name (i := 6) nd rfl (Or.inl rfl))
        (pss_one (ps_asg (pe_own DP hr (pa_cons (pv 0) (pa_cons (pv 2) pa_nil))) (pg_tup rfl (pgs_cons (pg_sub (pe_ix ix_list (pv 3) (pv 5) (fun _ _ => rfl)) (pv 6) set_list) (pgs_cons (pg_sub (pe_ix ix_list (pv 3) (pv 6) (fun _ _ => rfl)) (pv 5) set_list) pgs_nil))))))
      (pss_one (ps_expr (pe_bm PySem.F.plainAttrs_list PySem.F.slot_list_append PySem.F.type_list_append mt_append (pv 4) (pa_cons (pe_callTy call_tuple_of (by rfl) B.tup (by decide +kernel)
        (pa_cons (pe_own DM hr (pa_cons (pv 0) (pa_cons (pe_lc (own := [("j", 6)]) (g := gName 6) (tt := _) rfl nd (pi_range1 (by rfl) B.rng (pa_cons (pv 1) pa_nil))
          (blkOk_by (N := ["deck", "hands", "words", "rows", "orders", "i", "j", "hand", "row"]) (sc := defScope sDoor) (by decide +kernel)) (fun _ _ _ _ _ => pg_name (i := 6) nd rfl (Or.inl rfl)) (fun _ _ _ _ _ => pts_one (pt_cmpR op_ne (pv 6) (pv 5) (nomark _))) (fun _ _ _ _ _ => pv 6)) pa_nil))) pa_nil)) pa_nil))))))
    (pss_one (ps_ret (pe_tup (pa_cons (pe_callTy call_tuple_of (by rfl) B.tup (by decide +kernel) (pa_cons (pe_lc (own := [("row", 8)]) (g := gName 8) (tt := tYes) (te := tCB (rTup K) (tCons (tVar 8) tNil)) rfl nd (pi_list (pv 3))
        (blkOk_by (N := ["deck", "hands", "words", "rows", "orders", "i", "j", "hand", "row"]) (sc := defScope sDoor) (by decide +kernel)) (fun _ _ _ _ _ => pg_name (i := 8) nd rfl (Or.inl rfl)) (fun _ _ _ _ _ => pts_nil) (fun _ _ _ _ _ => by exact pe_callTy (T := "tuple") (r := rTup K) call_tuple_of (by rfl) B.tup (by decide +kernel) (pa_cons (pv 8) pa_nil))) pa_nil))
      (pa_cons (pe_callTy call_tuple_of (by rfl) B.tup (by decide +kernel) (pa_cons (pv 4) pa_nil)) pa_nil))))))), ?_⟩
  refine ⟨(by show 2 ≤ sizeLine; decide), fun p1 hp1 => ?_⟩
  have g1 := WordT.make hp1 (y := "even") (z := "even") (by decide +kernel) (by decide +kernel)
  have s1 := same_new hp1 (.tup [.str "even", .str "even"])
  generalize upd H p1 (.tup [.str "even", .str "even"]) = H1 at s1 g1
  refine ⟨(by show 2 ≤ sizeLine; decide), fun p2 hp2 => ?_⟩
  have g2 := WordT.make hp2 (y := "even") (z := "even") (by decide +kernel) (by decide +kernel)
  have s2 := same_new hp2 (.tup [.str "even", .str "even"])
  generalize upd H1 p2 (.tup [.str "even", .str "even"]) = H2 at s2 g2
  refine ⟨(by show 2 ≤ sizeLine; decide), fun p3 hp3 => ?_⟩
  have g3 := WordT.make hp3 (y := "stand") (z := "bow") (by decide +kernel) (by decide +kernel)
  have s3 := same_new hp3 (.tup [.str "stand", .str "bow"])
  generalize upd H2 p3 (.tup [.str "stand", .str "bow"]) = H3 at s3 g3
  refine ⟨(by show 2 ≤ sizeLine; decide), fun p4 hp4 => ?_⟩
  have g4 := WordT.make hp4 (y := "bow") (z := "stand") (by decide +kernel) (by decide +kernel)
  have s4 := same_new hp4 (.tup [.str "bow", .str "stand"])
  generalize upd H3 p4 (.tup [.str "bow", .str "stand"]) = H4 at s4 g4
  refine ⟨(by show 1 ≤ sizeLine; decide), fun p5 hp5 => ?_⟩
  refine ⟨p5, 2, [.str "stand"], rfl, rfl, SqT.of upd_same, by simp, by decide, by decide, by decide, fun p6 hp6 => ?_⟩
  have g6 : WordT (upd (upd H4 p5 (.tup [.str "stand"])) p6 (.tup [.str "stand", .str "stand"])) p6 := WordT.make hp6 (y := "stand") (z := "stand") (by decide +kernel) (by decide +kernel)
  have s6 : Same H4 (upd (upd H4 p5 (.tup [.str "stand"])) p6 (.tup [.str "stand", .str "stand"])) := (same_new hp5 _).trans (same_new hp6 _)
  have e6 : (upd (upd H4 p5 (.tup [.str "stand"])) p6 (.tup (List.replicate (2 : Int).toNat [V.str "stand"]).flatten)) = upd (upd H4 p5 (.tup [.str "stand"])) p6 (.tup [.str "stand", .str "stand"]) := rfl
  rw [e6]
  generalize upd (upd H4 p5 (.tup [.str "stand"])) p6 (.tup [.str "stand", .str "stand"]) = H6 at s6 g6
  refine ⟨(by show 1 ≤ sizeLine; decide), fun p7 hp7 => ?_⟩
  refine ⟨p7, 2, [.str "bow"], rfl, rfl, SqT.of upd_same, by simp, by decide, by decide, by decide, fun p8 hp8 => ?_⟩
  have g8 : WordT (upd (upd H6 p7 (.tup [.str "bow"])) p8 (.tup [.str "bow", .str "bow"])) p8 := WordT.make hp8 (y := "bow") (z := "bow") (by decide +kernel) (by decide +kernel)
  have s8 : Same H6 (upd (upd H6 p7 (.tup [.str "bow"])) p8 (.tup [.str "bow", .str "bow"])) := (same_new hp7 _).trans (same_new hp8 _)
  have e8 : (upd (upd H6 p7 (.tup [.str "bow"])) p8 (.tup (List.replicate (2 : Int).toNat [V.str "bow"]).flatten)) = upd (upd H6 p7 (.tup [.str "bow"])) p8 (.tup [.str "bow", .str "bow"]) := rfl
  rw [e8]
  generalize upd (upd H6 p7 (.tup [.str "bow"])) p8 (.tup [.str "bow", .str "bow"]) = H8 at s8 g8
  refine ⟨(by show 6 ≤ sizeLine; decide), fun WL hWL => ?_⟩
  have s9 := same_new hWL (.lst ([p1, p2, p3, p4, p6, p8].map V.ref))
  have S19 := s2.trans (s3.trans (s4.trans (s6.trans (s8.trans s9))))
  have S9 := s1.trans S19
  have D9 := hD.same S9
  have words9 : ∀ w ∈ [p1, p2, p3, p4, p6, p8], WordT (upd H8 WL (.lst ([p1, p2, p3, p4, p6, p8].map V.ref))) w := fun w hw => by
    simp only [List.mem_cons, List.not_mem_nil, or_false] at hw
    rcases hw with e | e | e | e | e | e <;> subst e
    · exact g1.same S19
    · exact g2.same (s3.trans (s4.trans (s6.trans (s8.trans s9))))
    · exact g3.same (s4.trans (s6.trans (s8.trans s9)))
    · exact g4.same (s6.trans (s8.trans s9))
    · exact g6.same (s8.trans s9)
    · exact g8.same s9
  have hwl9 : upd H8 WL (.lst ([p1, p2, p3, p4, p6, p8].map V.ref)) WL = some (.lst ([p1, p2, p3, p4, p6, p8].map V.ref)) := upd_same
  have nW : ¬ avD dk gl WL := fun z => by
    have hz : H WL = none := (s1.trans (s2.trans (s3.trans (s4.trans (s6.trans s8))))).free hWL
    obtain ⟨o, ho⟩ := dom_deck hD z
    rw [hz] at ho
    cases ho
  have eL : upd H8 WL (.lst [V.ref p1, V.ref p2, V.ref p3, V.ref p4, V.ref p6, V.ref p8]) = upd H8 WL (.lst ([p1, p2, p3, p4, p6, p8].map V.ref)) := rfl
  rw [eL]
  have w6 : [p1, p2, p3, p4, p6, p8].length = 6 := rfl
  generalize [p1, p2, p3, p4, p6, p8] = ws at words9 hwl9 S9 D9 s9 S19 w6
  generalize upd H8 WL (.lst (ws.map V.ref)) = H9 at words9 hwl9 S9 D9 s9 S19
  clear g1 g2 g3 g4 g6 g8 s1 s2 s3 s4 s6 s8 s9 S19 hp1 hp2 hp3 hp4 hp5 hp6 hp7 hp8 eL e6 e8
  refine ⟨_, rfl, _, rfl, by omega, by omega, fun RL hRL => ?_⟩
  have nRL : ¬ avD dk gl RL := D9.new hRL
  refine lc_range (lo := 0) (n := n) (fun k H' => Same H9 H' ∧ ∃ ra : List Addr, H' RL = some (.lst (ra.map V.ref)) ∧ ra.length = k ∧ ∀ a ∈ ra, H9 a = none ∧ a ≠ RL ∧ ∃ zs : List Str, H' a = some (.lst (zs.map V.str)) ∧ zs.length = n ∧ ∀ z ∈ zs, z ∈ wordsD) ?_ ?_ ?_
  · exact ⟨same_new hRL _, [], upd_same, rfl, fun a h => absurd h (by simp)⟩
  · rintro k H' hk ⟨e, ra, hl, lr, hra⟩
    refine ⟨rfl, ?_⟩
    refine iteT (B := True) ?_
    refine ⟨(by show 1 ≤ sizeLine; decide), fun q1 hq1 => ?_⟩
    refine ⟨_, rfl, q1, n, [.str "-"], rfl, rfl, upd_same, by omega, by omega, sz (by simp; omega), fun a ha => ?_⟩
    have er : (List.replicate ((n : Nat) : Int).toNat [V.str "-"]).flatten = (List.replicate n ("-" : Str)).map V.str := by
      rw [Int.toNat_natCast, List.map_replicate]
      exact List.flatten_replicate_singleton
    rw [er]
    have t1 := (same_new hq1 (.lst [V.str "-"])).trans (same_new ha (.lst ((List.replicate n ("-" : Str)).map V.str)))
    have e2 := e.trans t1
    have hl2 := t1 _ _ hl
    have naR : a ≠ RL := (ne_of_none ((same_new hq1 (.lst [V.str "-"])) _ _ hl) ha).symm
    have ha9 : H9 a = none := (e.trans (same_new hq1 _)).free ha
    refine ⟨_, hl2, szlt (by rw [List.length_map]; omega), same_upd e2 hRL _, ra ++ [a], ?_, by rw [List.length_append, List.length_singleton, lr], fun b hb => ?_⟩
    · rw [upd_same, List.map_append]
      rfl
    · rcases List.mem_append.mp hb with y | y
      · obtain ⟨k1, k2, zs, k3, k4⟩ := hra b y
        exact ⟨k1, k2, zs, by rw [upd_ne k2]; exact t1 _ _ k3, k4⟩
      · rw [List.mem_singleton.mp y]
        refine ⟨ha9, naR, List.replicate n "-", by rw [upd_ne naR]; exact upd_same, List.length_replicate, fun z hz => ?_⟩
        rw [List.eq_of_mem_replicate hz]
        exact List.mem_cons_self
  rintro H10 ⟨e10, ra, hra0, lra, hra⟩
  refine ⟨Nat.zero_le _, fun OL hOL => ⟨_, _, rfl, ?_⟩⟩
  have D10 := D9.same e10
  have s11 := same_new hOL (.lst [])
  have S11 := S9.trans (e10.trans s11)
  have W0 : DoorAt dk gl WL RL OL H (upd H10 OL (.lst [])) n ra [] [] := {
    ex := Ext.of_same S11
    de := D10.same s11
    nW := nW
    nR := nRL
    nO := D10.new hOL
    zO := (S9.trans e10).free hOL
    OR := (ne_of_none hra0 hOL).symm
    OW := (ne_of_none (e10 _ _ hwl9) hOL).symm
    wl := ⟨ws, s11 _ _ (e10 _ _ hwl9), w6, fun w hw => ⟨(words9 w hw).off D9, by
      obtain ⟨y, z, a, b⟩ := words9 w hw
      exact ⟨y, z, s11 _ _ (e10 _ _ a), b⟩⟩⟩
    rl := s11 _ _ hra0
    rn := lra
    rows := fun a ha => by
      obtain ⟨k1, k2, zs, k3, k4⟩ := hra a ha
      refine ⟨S9.free k1, D9.new k1, k2, ne_of_none k3 hOL, (ne_of_none hwl9 k1).symm, zs, s11 _ _ k3, k4⟩
    ol := upd_same
    od := .nil
    os := fun ns h => absurd h (by simp) }
  generalize upd H10 OL (.lst []) = H11 at W0
  clear S11 s11 hOL D10 hra hra0 e10 words9 hwl9 S9 D9 hRL
  refine ⟨_, rfl, _, rfl, by omega, by omega, ?_⟩
  refine for_it (walk_range (lo := 0) (n := n)) (fun i σ H' => ∃ (v5 v6 v7 v8 : Option V) (ov : List V) (ords : List (List Int)), σ = [some (.ref dk), some (.int (n : Nat)), some (.ref WL), some (.ref RL), some (.ref OL), v5, v6, v7, v8] ∧ DoorAt dk gl WL RL OL H H' n ra ov ords ∧ ords.length = i) ⟨_, _, _, _, [], [], rfl, W0, rfl⟩ (fun _ _ _ _ _ => trivial) ?_ ?_
  · rintro i x σ H12 H13 hi ⟨_, _, _, _, ov, ords, rfl, W1, lo⟩ ⟨rfl, ex⟩
    have ex : x = V.int (i : Nat) := by
      rw [ex]
      show V.int (0 + (i : Nat)) = _
      rw [Int.zero_add]
    subst ex
    refine ⟨_, rfl, _, _, rfl, rfl, ?_⟩
    refine ⟨_, rfl, _, _, rfl, ⟨by omega, by omega, by omega, by omega⟩, ?_⟩
    refine for_it (walk_range (lo := (i : Int) + 1) (n := (((n : Nat) : Int) - ((i : Int) + 1)).toNat)) (fun k σ H' => ∃ (v6 v7 v8 : Option V), σ = [some (.ref dk), some (.int (n : Nat)), some (.ref WL), some (.ref RL), some (.ref OL), some (.int (i : Nat)), v6, v7, v8] ∧ DoorAt dk gl WL RL OL H H' n ra ov ords) ⟨_, _, _, rfl, W1⟩ (fun _ _ _ _ _ => trivial) ?_ ?_
    · rintro k y σ H14 H15 hk2 ⟨_, _, _, rfl, W2⟩ ⟨rfl, ey⟩
      have ey : y = V.int ((i + 1 + k : Nat) : Int) := by
        rw [ey]
        show V.int ((i : Int) + 1 + (k : Nat)) = _
        congr 1
      subst ey
      have hj : i + 1 + k < n := by omega
      generalize i + 1 + k = j at hj
      obtain ⟨wl, k1, k2, k3⟩ := W2.wl
      refine ⟨_, rfl, _, rfl, dk, gl, WL, wl.map V.ref, rfl, W2.de, k1, W2.nW, by rw [List.length_map]; omega, by rw [List.length_map]; omega, fun v H16 hv e16 D16 => ?_⟩
      obtain ⟨w0, hw0, rfl⟩ := List.mem_map.mp hv
      obtain ⟨m1, y0, z0, m2, m3, m4⟩ := k3 w0 hw0
      have W3 := W2.ext hD e16 D16
      have m5 := e16 _ _ m1 m2
      have ia : i < ra.length := by have := W3.rn; omega
      have ja : j < ra.length := by have := W3.rn; omega
      have gi : (ra.map V.ref)[i]? = some (.ref ra[i]) := by rw [List.getElem?_map, List.getElem?_eq_getElem ia]; rfl
      have gj : (ra.map V.ref)[j]? = some (.ref ra[j]) := by rw [List.getElem?_map, List.getElem?_eq_getElem ja]; rfl
      obtain ⟨_, _, _, _, _, zi, h6, h7, h8⟩ := W3.rows ra[i] (List.getElem_mem ia)
      have sl : ∀ {zs : List Str} {z : Str} {j : Nat}, zs.length = n → (∀ z ∈ zs, z ∈ wordsD) → z ∈ wordsD → (zs.set j z).length = n ∧ ∀ x ∈ zs.set j z, x ∈ wordsD := fun {zs z j} a b c => ⟨by rw [List.length_set]; exact a, fun x hx => by
        rcases List.mem_or_eq_of_mem_set hx with p | p
        · exact b x p
        · rw [p]
          exact c⟩
      refine ⟨w0, _, rfl, SqT.of m5, rfl, _, _, rfl, ?_⟩
      refine ⟨_, rfl, _, rfl, RL, _, _, _, rfl, rfl, SqL.of W3.rl, atI_nat gi, _, rfl, ra[i], _, _, j, rfl, rfl, h6, ?_, ?_⟩
      · rw [List.length_map, h7]
        exact ixN_nat hj
      have W4 := W3.setRow (List.getElem_mem ia) (sl (j := j) h7 h8 m3).1 (sl (j := j) h7 h8 m3).2
      rw [← List.map_set]
      generalize upd H16 ra[i] (.lst ((zi.set j y0).map V.str)) = H17 at W4
      obtain ⟨_, _, _, _, _, zj, f6, f7, f8⟩ := W4.rows ra[j] (List.getElem_mem ja)
      refine ⟨_, _, rfl, ?_⟩
      refine ⟨_, rfl, _, rfl, RL, _, _, _, rfl, rfl, SqL.of W4.rl, atI_nat gj, _, rfl, ra[j], _, _, i, rfl, rfl, f6, ?_, ?_⟩
      · rw [List.length_map, f7]
        exact ixN_nat hi
      have W5 := W4.setRow (List.getElem_mem ja) (sl (j := i) f7 f8 m4).1 (sl (j := i) f7 f8 m4).2
      rw [← List.map_set]
      exact ⟨rfl, _, _, _, rfl, W5⟩
    · rintro σ H14 ⟨_, _, _, rfl, W2⟩
      refine ⟨_, rfl, .inl ⟨rfl, _, SqL.of W2.ol⟩, ?_⟩
      refine ⟨_, rfl, _, rfl, _, rfl, by omega, by omega, fun D2 hD2 => ?_⟩
      refine lc_range (lo := 0) (n := n) (fun j H' => Same H14 H' ∧ H' D2 = some (.lst ((others j i).map V.int))) ?_ ?_ ?_
      · exact ⟨same_new hD2 _, upd_same⟩
      · rintro j H' hj ⟨e, hl2⟩
        refine ⟨rfl, ?_⟩
        refine ⟨_, rfl, _, rfl, rfl, _, rfl, ?_⟩
        have lo2 : (others j i).length ≤ j := by
          rw [others_len2]
          split <;> omega
        by_cases c3 : j = i
        · refine iteZ ?_ ?_
          · subst c3
            simp
          · refine ⟨e, ?_⟩
            rw [others_step, if_neg fun z => z c3, List.append_nil]
            exact hl2
        · refine iteY ?_ ?_
          · have z : ¬ V.int (0 + (j : Nat)) = V.int (i : Nat) := fun z => c3 (by have := V.int.inj z; omega)
            rw [decide_eq_false z]
            rfl
          · refine ⟨_, rfl, _, hl2, szlt (by rw [List.length_map]; omega), same_upd e hD2 _, ?_⟩
            rw [upd_same, others_step, if_pos c3, List.map_append]
            show some (HO.lst (_ ++ [V.int (0 + (j : Nat))])) = some (HO.lst (_ ++ [V.int (j : Nat)]))
            rw [Int.zero_add]
      rintro H15 ⟨e15, h15⟩
      have W3 := W2.ext hD (Ext.of_same e15) (W2.de.same e15)
      have lo3 := others_len hi
      refine ⟨dk, gl, D2, others n i, rfl, W3.de, h15, by omega, fun r ms H16 e16 D16 hr16 lms mem => ?_⟩
      have W4 := W3.ext hD e16 D16
      refine ⟨r, _, rfl, .inl ⟨SqL.of hr16, fun p hp => ?_⟩⟩
      have s5 := same_new hp (.tup (ms.map V.int))
      have W5 := W4.ext hD (Ext.of_same s5) (W4.de.same s5)
      have hov : ov.length ≤ 5 := by
        have := W5.od.len
        rw [List.length_map] at this
        omega
      refine ⟨OL, ov, _, rfl, rfl, W5.ol, szlt (by omega), ?_⟩
      refine ⟨_, _, _, _, _, ords ++ [ms], rfl, W5.addOrd (.tup (W4.new hp) upd_same (RpAll.ints ms)) (by omega) (fun x hx => ?_), by rw [List.length_append, List.length_singleton, lo]⟩
      have := others_mem (mem x hx)
      exact ⟨this.1, by omega⟩
  · rintro σ H12 ⟨_, _, _, _, ov, ords, rfl, W, lo⟩
    refine ⟨_, rfl, RL, rfl, ⟨_, SqL.of W.rl⟩, fun D3 hD3 => ?_⟩
    have nD3 : ¬ dom H D3 := fun z => not_dom hD3 (dom_ext W.ex W.de z)
    have lra2 := W.rn
    refine lc_list (K := K) (a := RL) (xs := ra.map V.ref) (fun k H' => Same H12 H' ∧ ∃ (tv : List V) (zss : List (List Str)), H' D3 = some (.lst tv) ∧ RpAll (fun b => dom H b ∨ b = D3) H' tv (zss.map rowD) ∧ zss.length = k ∧ ∀ zs ∈ zss, zs.length = n ∧ ∀ z ∈ zs, z ∈ wordsD) ?_ ?_ ?_ ?_
    · exact ⟨same_new hD3 _, [], [], upd_same, .nil, rfl, fun zs h => absurd h (by simp)⟩
    · rintro k H' _ ⟨e, _⟩
      exact SqL.of (e _ _ W.rl)
    · rintro k x H' hk ⟨e, tv, zss, hl, rp, lz, hz⟩
      rw [List.getElem?_map] at hk
      obtain ⟨a, ha, rfl⟩ : ∃ a, ra[k]? = some a ∧ x = V.ref a := by
        cases z : ra[k]? with
        | none =>
          rw [z] at hk
          cases hk
        | some a =>
          rw [z] at hk
          exact ⟨a, rfl, (Option.some.inj hk).symm⟩
      have hk2 : k < ra.length := (List.getElem?_eq_some_iff.mp ha).1
      obtain ⟨_, _, _, _, _, zs, h6, h7, h8⟩ := W.rows a (List.mem_of_getElem? ha)
      refine ⟨rfl, ?_⟩
      refine iteT (B := True) ?_
      refine ⟨_, rfl, a, _, rfl, .inl ⟨SqL.of (e _ _ h6), fun p hp => ?_⟩⟩
      have s5 := same_new hp (.tup (zs.map V.str))
      have ltv : tv.length ≤ 5 := by
        have := rp.len
        rw [List.length_map] at this
        omega
      have np : ¬ (dom H p ∨ p = D3) := by
        rintro (z | z)
        · exact not_dom (e.free hp) (dom_ext W.ex W.de z)
        · rw [z, hl] at hp
          cases hp
      refine ⟨tv, s5 _ _ hl, szlt (by omega), same_upd (e.trans s5) hD3 _, tv ++ [.ref p], zss ++ [zs], upd_same, ?_, by rw [List.length_append, List.length_singleton, lz], fun zs' h => ?_⟩
      · rw [List.map_append]
        exact ((rp.mono (Ext.of_same s5)).snoc (.tup np upd_same (RpAll.strs zs))).mono (Ext.put (.inr rfl) _)
      · rcases List.mem_append.mp h with y | y
        · exact hz zs' y
        · rw [List.mem_singleton.mp y]
          exact ⟨h7, h8⟩
    rintro H13 ⟨e13, tv, zss, hl, rp, lz, hz⟩
    rw [List.length_map] at lz
    refine ⟨D3, tv, rfl, .inl ⟨SqL.of hl, fun p9 hp9 => ?_⟩⟩
    have s9 := same_new hp9 (.tup tv)
    have T9 := e13.trans s9
    refine ⟨_, rfl, OL, ov, rfl, .inl ⟨SqL.of (T9 _ _ W.ol), fun p10 hp10 => ?_⟩⟩
    have s10 := same_new hp10 (.tup ov)
    refine ⟨(by show 2 ≤ sizeLine; decide), fun p11 hp11 => ?_⟩
    have s11 := same_new hp11 (.tup [.ref p9, .ref p10])
    have T11 := T9.trans (s10.trans s11)
    have fresh : ∀ {H' : Hp} {p : Addr}, Same H12 H' → H' p = none → ¬ dom H p := fun e hp z => not_dom (e.free hp) (dom_ext W.ex W.de z)
    have ok : DoorOk n zss ords := {
      tl := by omega
      tr := fun zs h => ⟨(hz zs h).1, fun z hz2 => wordsD_ok z ((hz zs h).2 z hz2)⟩
      ol := by omega
      oo := W.os
      n5 := n5 }
    have r9 : Rp (dom H) (upd H13 p9 (.tup tv)) (.ref p9) (.tuple (zss.map rowD)) := .tup (fresh e13 hp9) upd_same ((rp.weak2 fun b h => .inl h).mono (Ext.of_same s9))
    have r10 : Rp (dom H) (upd (upd H13 p9 (.tup tv)) p10 (.tup ov)) (.ref p10) (.tuple (ords.map ordD)) := .tup (fresh T9 hp10) upd_same ((W.od.weak2 fun b h => .inl h).mono (Ext.of_same (T9.trans s10)))
    exact q _ zss ords _ (W.ex.trans (Ext.of_same T11)) (W.de.same T11) (.tup (fresh (T9.trans s10) hp11) upd_same (.cons (r9.mono (Ext.of_same (s10.trans s11))) (.cons (r10.mono (Ext.of_same s11)) .nil))) ok
end
end Rw
section
namespace Rw
open PySem L2
abbrev sSided : Stmt := top 26
abbrev sValue : Stmt := top 27
def spSided : Sp := fun vs H Q _ => ∃ (dk gl : Addr) (v : V) (n : Nat) (tab : List (List Str)) (ords : List (List Int)), vs = [.ref dk, v] ∧ DeckAt dk gl H ∧ Rp (avD dk gl) H v (doorD tab ords) ∧ DoorOk n tab ords ∧ 1 ≤ n ∧
  ∀ (v2 : V) (tab2 : List (List Str)) (H' : Hp), Ext (avD dk gl) H H' → DeckAt dk gl H' → Rp (avD dk gl) H' v2 (doorD tab2 ords) → DoorOk n tab2 ords → Q v2 H'
theorem RpAll.backS {av : Addr → Prop} {H : Hp} : ∀ {zs : List Str} {xs : List V}, RpAll av H xs (zs.map PyData.str) → xs = zs.map V.str
  | [], _, h => by
    cases h
    rfl
  | z :: r, _, h => by
    cases h with
    | cons a b =>
      rw [RpAll.backS b, a.get_str]
      rfl
set_option hygiene false
local macro_rules | `(tactic| walk_at "sided end") => `(tactic| (
  refine ⟨_, rfl, _, rfl, L, _, _, j, rfl, rfl, h7, by rw [List.length_map]; exact ixN_nat jz2, ?_⟩
  have D8 := D7.put nL (.lst ((tab[i].map V.str).set j (V.str wd)))
  have e08 := ext_upd e07 hL0 (.lst ((tab[i].map V.str).set j (V.str wd)))
  have hL8 : upd H7 L (.lst ((tab[i].map V.str).set j (V.str wd))) L = some (.lst ((tab[i].set j wd).map V.str)) := by
    rw [upd_same, List.map_set]
  generalize upd H7 L (.lst ((tab[i].map V.str).set j (V.str wd))) = H8 at D8 e08 hL8
  have hta8 := e08 _ _ nta hta
  have was : ∀ {H' : Hp} {p : Addr}, DeckAt dk gl H' → (p = ta ∨ H' p = none) → ¬ avD dk gl p := fun {H' p} D o => by
    rcases o with e | e
    · rw [e]
      exact nta
    · exact D.new e
  refine ⟨_, rfl, _, rfl, (i : Int), rfl, ta, ys, rfl, hta8, fun c1 H9 t1 hc1 oc1 => ?_⟩
  rw [cut_to] at hc1
  refine ⟨_, rfl, L, _, rfl, .inl ⟨SqL.of (t1 _ _ hL8), fun p2 hp2 => ⟨(by show 1 ≤ sizeLine; decide), fun p3 hp3 => ?_⟩⟩⟩
  have t2 := same_new hp2 (.tup ((tab[i].set j wd).map V.str))
  have t3 := same_new hp3 (.tup [.ref p2])
  have D9 := D8.same t1
  have np2 := D9.new hp2
  have np3 := (D9.same t2).new hp3
  refine ⟨c1, p3, _, _, rfl, rfl, t3 _ _ (t2 _ _ hc1), upd_same, sz (by rw [List.length_take, List.length_singleton]; omega), fun c2 H10 t4 hc2 oc2 => ?_⟩
  have T10 := t1.trans (t2.trans (t3.trans t4))
  refine ⟨_, rfl, _, rfl, _, _, rfl, rfl, _, rfl, ta, ys, rfl, T10 _ _ hta8, fun c3 H11 t5 hc3 oc3 => ?_⟩
  rw [next_, cut_from] at hc3
  refine ⟨c2, c3, _, _, rfl, rfl, t5 _ _ hc2, hc3, sz (by rw [List.length_append, List.length_take, List.length_drop, List.length_singleton]; omega), fun r H12 t6 hr6 or6 => ?_⟩
  have T12 := T10.trans (t5.trans t6)
  have n1 := was D8 oc1
  have n2 : ¬ avD dk gl c2 := by
    rcases oc2 with e | e | e
    · rw [e]
      exact n1
    · rw [e]
      exact np3
    · exact ((D9.same t2).same t3).new e
  have n3 := was (D8.same T10) oc3
  have nr : ¬ avD dk gl r := by
    rcases or6 with e | e | e
    · rw [e]
      exact n2
    · rw [e]
      exact n3
    · exact (D8.same (T10.trans t5)).new e
  have e12 := e08.trans (Ext.of_same T12)
  have D12 := D8.same T12
  refine ⟨_, rfl, t, _, _, _, rfl, rfl, SqT.of (e12 _ _ nt ht), rfl, (by show 2 ≤ sizeLine; decide), fun p4 hp4 => ?_⟩
  have t7 := fun o => same_new hp4 o
  have hys12 := hys.mono e12
  have rowNew : Rp (avD dk gl) H12 (.ref p2) (rowD (tab[i].set j wd)) := .tup np2 ((t3.trans (t4.trans (t5.trans t6))) _ _ upd_same) (RpAll.strs _)
  have eD : ((tab.take i ++ [tab[i].set j wd] ++ tab.drop (i + 1)).map rowD) = (tab.map rowD).take i ++ [rowD (tab[i].set j wd)] ++ (tab.map rowD).drop (i + 1) := by
    rw [List.map_append, List.map_append, List.map_take, List.map_drop]
    rfl
  have tabNew : Rp (avD dk gl) H12 (.ref r) (.tuple ((tab.take i ++ [tab[i].set j wd] ++ tab.drop (i + 1)).map rowD)) := by
    rw [eD]
    exact .tup nr hr6 (((hys12.take i).app (.cons rowNew .nil)).app (hys12.drop (i + 1)))
  exact q _ _ _ (e12.trans (Ext.of_same (t7 _))) (D12.same (t7 _)) (.tup (D12.new hp4) upd_same (.cons (tabNew.mono (Ext.of_same (t7 _))) (.cons ((r2.mono e12).mono (Ext.of_same (t7 _))) .nil))) (rest wd hok)))
section
variable {P : Program} {w : World} {K : PySem.W.Frag} {mg : Str → Option Value} {base : Heap} {f : Addr} {fd : FuncData}
theorem scSided : FnScope ["deck", "door", "table", "i", "j", "others", "row"] ["deck", "door"] (defScope sSided) := ⟨rfl, rfl, rfl, by decide +kernel, rfl, by decide +kernel, by decide +kernel⟩
theorem ok_sided (F : Fun K "_law_one_sided" "_law_one_sided" sSided f fd) (B : Blt mg) (DD : Dfn P w K mg base "_law_draw" ["deck", "many"] 1 spDraw) (DP : Dfn P w K mg base "_law_pick" ["deck", "items"] 2 spPick) : FnOk P w K mg base CX0 3 f fd ["deck", "door"] spSided := by
  refine F.ok scSided (fun vs H Q E h => ?_) (fun cdv A outer s H vs Q E hr h => ?_)
  · obtain ⟨_, _, _, _, _, _, rfl, _⟩ := h
    rfl
  obtain ⟨dk, gl, v, n, tab, ords, rfl, hD, rp, ok, n1, q⟩ := h
  have nd := scSided.nd
  have hr1 : Room 1 (A.deeper (PyProof.Rows.envOfC "_law_one_sided" (defScope sSided) s.heap.objs.size f cdv)) := hr.mono (by omega)
  have hu64 : (A.deeper (PyProof.Rows.envOfC "_law_one_sided" (defScope sSided) s.heap.objs.size f cdv)).units + 64 < cLine := by
    have := hr.un
    omega
  refine ⟨_, pss_cons (ps_asg (pe_tup (pa_cons (pe_ix ix_tup (pv 1) pe_int (fun _ _ => rfl)) (pa_cons (pe_own DD hr1 (pa_cons (pv 0) (pa_cons (pe_callB call_len_seq (by rfl) B.len PySem.boot_len (pa_cons (pe_ix ix_tup (pv 1) pe_int (fun _ _ => rfl)) pa_nil)) pa_nil))) pa_nil)))
      (pg_tup rfl (pgs_cons (pg_name (i := 2) nd rfl (Or.inl rfl)) (pgs_cons (pg_name (i := 3) nd rfl (Or.inr rfl)) pgs_nil))))
    (pss_cons (ps_setLc (i := 5) (own := [("j", 4)]) (g := gName 4) (tt := _) (by rfl) nd rfl rfl (sw_true rfl rfl rfl (by decide +kernel)) (pi_range1 (by rfl) B.rng (pa_cons (pe_callB call_len_seq (by rfl) B.len PySem.boot_len (pa_cons (pv 2) pa_nil)) pa_nil))
      (blkOk_by (N := ["deck", "door", "table", "i", "j", "others", "row"]) (sc := defScope sSided) (by decide +kernel)) (fun _ _ _ _ _ => pg_name (i := 4) nd rfl (Or.inl rfl)) (fun _ _ _ _ _ => pts_one (pt_cmpR op_ne (pv 4) (pv 3) (nomark _))) (fun _ _ _ _ _ => pv 4))
    (pss_cons (ps_if (pt_cmpR (op_eqD hu64) (pv 5) (pe_lst pa_nil) (nomark _)) (pss_one (ps_ret (pv 1))) pss_nil)
    (pss_cons (ps_par (i := 4) (j := 6) (by rfl) nd rfl rfl (by decide) rfl rfl (pa_cons (pe_own DP hr (pa_cons (pv 0) (pa_cons (pv 5) pa_nil))) (pa_cons (pe_callTy call_list_of (by rfl) B.list (by decide +kernel) (pa_cons (pe_ix ix_tup (pv 2) (pv 3) (fun _ _ => rfl)) pa_nil)) pa_nil)) (by rfl))
    (pss_cons (ps_asg (pe_ifExp (pt_cmpR op_eq (pe_ix ix_list (pv 6) (pv 4) (fun _ _ => rfl)) pe_str (nomark _)) (pe_own DP hr (pa_cons (pv 0) (pa_cons (pe_lst (pa_cons pe_str (pa_cons pe_str pa_nil))) pa_nil))) pe_str) (pg_sub (pv 6) (pv 4) set_list))
    (pss_one (ps_ret (pe_tup (pa_cons (pe_op op_catB (pe_op op_catB (pe_slice sl_tupB (pv 2) po_none (po_some (pv 3))) (pe_tup (pa_cons (pe_callTy call_tuple_of (by rfl) B.tup (by decide +kernel) (pa_cons (pv 6) pa_nil)) pa_nil))) (pe_slice sl_tupB (pv 2) (po_some (pe_op op_add (pv 3) pe_int)) po_none))
      (pa_cons (pe_ix ix_tup (pv 1) pe_int (fun _ _ => rfl)) pa_nil))))))))), ?_⟩
  obtain ⟨t, xs, rfl, nt, ht, hx⟩ := id rp.get_tup
  cases hx with
  | cons r1 r2 =>
  cases r2 with
  | cons r2 r3 =>
  cases r3
  obtain ⟨ta, ys, rfl, nta, hta, hys⟩ := r1.get_tup
  have ly := hys.len
  rw [List.length_map, ok.tl] at ly
  have n5 := ok.n5
  refine ⟨_, rfl, t, _, _, _, rfl, rfl, SqT.of ht, rfl, _, rfl, _, rfl, t, _, _, _, rfl, rfl, SqT.of ht, rfl, ta, ys, rfl, .inr (SqT.of hta), dk, gl, _, rfl, hD, by omega, fun r H1 e1 D1 r0 r1' => ?_⟩
  have rn : r < (n : Nat) := by omega
  obtain ⟨i, rfl⟩ : ∃ i : Nat, r = (i : Nat) := ⟨r.toNat, by omega⟩
  have hin : i < n := by omega
  refine ⟨(by show 2 ≤ sizeLine; decide), fun p0 hp0 => ?_⟩
  have s0 := same_new hp0 (.tup [.ref ta, .int (i : Nat)])
  refine ⟨p0, _, rfl, SqT.of upd_same, rfl, _, _, rfl, _, _, rfl, rfl, ?_⟩
  have e2 := e1.trans (Ext.of_same s0)
  have D2 := D1.same s0
  generalize upd H1 p0 (.tup [.ref ta, .int (i : Nat)]) = H2 at e2 D2
  have hta2 := e2 _ _ nta hta
  refine ⟨_, rfl, ta, ys, rfl, .inr (SqT.of hta2), _, rfl, by omega, by omega, fun D3 hD3 => ?_⟩
  have nD3 : ¬ avD dk gl D3 := D2.new hD3
  refine lc_range (lo := 0) (n := ys.length) (fun j H' => Same H2 H' ∧ H' D3 = some (.lst ((others j i).map V.int))) ?_ ?_ ?_
  · exact ⟨same_new hD3 _, upd_same⟩
  · rintro j H' hj ⟨e, hl2⟩
    refine ⟨rfl, ?_⟩
    refine ⟨_, rfl, _, rfl, rfl, _, rfl, ?_⟩
    have lo2 : (others j i).length ≤ j := by
      rw [others_len2]
      split <;> omega
    by_cases c3 : j = i
    · refine iteZ ?_ ?_
      · subst c3
        simp
      · refine ⟨e, ?_⟩
        rw [others_step, if_neg fun z => z c3, List.append_nil]
        exact hl2
    · refine iteY ?_ ?_
      · have z : ¬ V.int (0 + (j : Nat)) = V.int (i : Nat) := fun z => c3 (by have := V.int.inj z; omega)
        rw [decide_eq_false z]
        rfl
      · refine ⟨_, rfl, _, hl2, szlt (by rw [List.length_map]; omega), same_upd e hD3 _, ?_⟩
        rw [upd_same, others_step, if_pos c3, List.map_append]
        show some (HO.lst (_ ++ [V.int (0 + (j : Nat))])) = some (HO.lst (_ ++ [V.int (j : Nat)]))
        rw [Int.zero_add]
  rintro H3 ⟨e3, h3⟩
  rw [ly] at h3
  refine ⟨_, rfl, Nat.zero_le _, fun p1 hp1 => ?_⟩
  have s1 := same_new hp1 (.lst [])
  refine ⟨.list ((others n i).map PyData.int), .list (([] : List Int).map PyData.int), .lst (SqL.of (s1 _ _ h3)) (dp_ints _), .lst (SqL.of upd_same) .nil, shaped_ints _, shaped_ints [], _, rfl, ?_⟩
  rw [eqv_ints]
  have T := e3.trans s1
  have h4 := s1 _ _ h3
  generalize upd H3 p1 (.lst []) = H4 at T h4
  have e4 := e2.trans (Ext.of_same T)
  have D4 := D2.same T
  by_cases c : others n i = []
  · refine iteY (decide_eq_true c) ?_
    exact ⟨_, rfl, q _ tab _ e4 D4 (rp.mono e4) ok⟩
  refine iteZ (by simp [c]) ?_
  have lo3 := others_len hin
  have lpos : 0 < (others n i).length := List.length_pos_iff.mpr c
  refine ⟨_, rfl, _, rfl, dk, gl, D3, _, rfl, D4, h4, nD3, by rw [List.length_map]; exact lpos, by rw [List.length_map]; omega, fun v5 H5 hv e5 D5 => ?_⟩
  obtain ⟨jz, hj, rfl⟩ := mem_intsV hv
  have hjm := others_mem hj
  obtain ⟨j, rfl⟩ : ∃ j : Nat, jz = (j : Nat) := ⟨jz.toNat, by omega⟩
  have hjn : j < n := by omega
  have e05 := e4.trans e5
  have hta5 := e05 _ _ nta hta
  have hys5 := hys.mono e05
  have iy : i < ys.length := by omega
  have gy : ys[i]? = some ys[i] := List.getElem?_eq_getElem iy
  obtain ⟨dz, hdz, rz⟩ := hys5.at gy
  have it : i < tab.length := by have := ok.tl; omega
  have ez : dz = rowD tab[i] := by
    rw [List.getElem?_map, List.getElem?_eq_getElem it] at hdz
    exact (Option.some.inj hdz).symm
  subst ez
  obtain ⟨ra, zv, ea, nra, hra, hzv⟩ := rz.get_tup
  have ezv := hzv.backS
  subst ezv
  have tri := ok.tr _ (List.getElem_mem it)
  refine ⟨_, rfl, _, rfl, ta, ys, _, _, rfl, rfl, SqT.of hta5, atI_nat (gy.trans (by rw [ea])), ra, _, rfl, .inr (SqT.of hra), fun L hL => ⟨_, _, rfl, ?_⟩⟩
  have s6 := same_new hL (.lst (tab[i].map V.str))
  have hl6 : upd H5 L (.lst (tab[i].map V.str)) L = some (.lst (tab[i].map V.str)) := upd_same
  have nL : ¬ avD dk gl L := D5.new hL
  have e06 := e05.trans (Ext.of_same s6)
  have hL0 : H L = none := free_of e05 nL hL
  have D6 := D5.same s6
  generalize upd H5 L (.lst (tab[i].map V.str)) = H6 at s6 hl6 e06 D6
  have jz2 : j < tab[i].length := by have := tri.1; omega
  have gj : (tab[i].map V.str)[j]? = some (.str tab[i][j]) := by
    rw [List.getElem?_map, List.getElem?_eq_getElem jz2]
    rfl
  refine ⟨_, rfl, _, rfl, L, _, _, _, rfl, rfl, SqL.of hl6, atI_nat gj, rfl, _, rfl, ?_⟩
  have rest : ∀ wd : Str, zOk wd = true → DoorOk n (tab.take i ++ [tab[i].set j wd] ++ tab.drop (i + 1)) ords := fun wd hwd => {
      tl := by
        have := ok.tl
        rw [List.length_append, List.length_append, List.length_take, List.length_drop, List.length_singleton]
        omega
      tr := fun zs hzs => by
        rcases List.mem_append.mp hzs with y | y
        · rcases List.mem_append.mp y with y | y
          · exact ok.tr zs (List.mem_of_mem_take y)
          · rw [List.mem_singleton.mp y]
            refine ⟨by rw [List.length_set]; exact tri.1, fun z hz => ?_⟩
            rcases List.mem_or_eq_of_mem_set hz with p | p
            · exact tri.2 z p
            · rw [p]
              exact hwd
        · exact ok.tr zs (List.mem_of_mem_drop y)
      ol := ok.ol
      oo := ok.oo
      n5 := ok.n5 }
  have next_ : ((i : Int) + 1) = ((i + 1 : Nat) : Int) := by omega
  refine ite2 (fun _ => ?_) (fun _ => ?_)
  · refine ⟨_, rfl, (by show 2 ≤ sizeLine; decide), fun l hl => ?_⟩
    have s7 := same_new hl (.lst ((["stand", "bow"] : List Str).map V.str))
    refine ⟨dk, gl, l, (["stand", "bow"] : List Str).map V.str, rfl, D6.same s7, upd_same, D6.new hl, by decide, by decide, fun v7 H7 hv7 e7 D7 => ?_⟩
    obtain ⟨wd, hwd, rfl⟩ := mem_strs hv7
    have hok : zOk wd = true := by
      have z : ∀ z ∈ (["stand", "bow"] : List Str), zOk z = true := by decide +kernel
      exact z wd hwd
    have h7 := e7 _ _ nL (s7 _ _ hl6)
    have e07 := (e06.trans (Ext.of_same s7)).trans e7
    walk_at "sided end"
  · have hok : zOk "even" = true := by decide +kernel
    have h7 := hl6
    have e07 := e06
    have D7 := D6
    generalize H6 = H7 at h7 e07 D7
    generalize ("even" : Str) = wd at hok
    walk_at "sided end"
end
end Rw
end
namespace Rw
open PySem L2
def spValue : Sp := fun vs H Q _ => ∃ (dk gl : Addr) (n : Nat), vs = [.ref dk, .int (n : Nat)] ∧ DeckAt dk gl H ∧ 1 ≤ n ∧ n ≤ 5 ∧ GivesAny dk gl 7 100000 H Q
theorem wAny3 : wAny 3 = 2059 := rfl
section
variable {P : Program} {w : World} {K : PySem.W.Frag} {mg : Str → Option Value} {base : Heap} {f : Addr} {fd : FuncData}
theorem scValue : FnScope ["deck", "hands", "sort", "door", "part", "row", "value"] ["deck", "hands"] (defScope sValue) := ⟨rfl, rfl, rfl, by decide +kernel, rfl, by decide +kernel, by decide +kernel⟩
theorem ok_value (F : Fun K "_law_value" "_law_value" sValue f fd) (B : Blt mg) (DD : Dfn P w K mg base "_law_draw" ["deck", "many"] 1 spDraw) (DA : Dfn P w K mg base "_law_any" ["deck", "deep"] 6 (spAny 4)) (DO : Dfn P w K mg base "_law_door" ["deck", "hands"] 3 spDoor)
    (DS : Dfn P w K mg base "_law_one_sided" ["deck", "door"] 3 spSided) (DB : Dfn P w K mg base "_law_bent" ["deck", "value", "deep"] 10 (spBent 4)) : FnOk P w K mg base CX0 11 f fd ["deck", "hands"] spValue := by
  refine F.ok scValue (fun vs H Q E h => ?_) (fun cdv A outer s H vs Q E hr h => ?_)
  · obtain ⟨_, _, _, rfl, _⟩ := h
    rfl
  obtain ⟨dk, gl, n, rfl, hD, n1, n5, q⟩ := h
  have nd := scValue.nd
  have hr1 : Room 1 (A.deeper (PyProof.Rows.envOfC "_law_value" (defScope sValue) s.heap.objs.size f cdv)) := hr.mono (by omega)
  have hr3 : Room 3 (A.deeper (PyProof.Rows.envOfC "_law_value" (defScope sValue) s.heap.objs.size f cdv)) := hr.mono (by omega)
  have hr6 : Room 6 (A.deeper (PyProof.Rows.envOfC "_law_value" (defScope sValue) s.heap.objs.size f cdv)) := hr.mono (by omega)
  refine ⟨_, pss_cons (ps_set (i := 2) nd rfl (Or.inl rfl) (pe_own DD hr1 (pa_cons (pv 0) (pa_cons pe_int pa_nil))))
    (pss_cons (ps_if (pt_cmpR op_eq (pv 2) pe_int (nomark _)) (pss_one (ps_ret (pe_own DA hr6 (pa_cons (pv 0) (pa_cons pe_int pa_nil))))) pss_nil)
    (pss_cons (ps_set (i := 3) nd rfl (Or.inl rfl) (pe_own DO hr3 (pa_cons (pv 0) (pa_cons (pv 1) pa_nil))))
    (pss_cons (ps_if (pt_cmpR op_lt (pv 2) pe_int (nomark _)) (pss_one (ps_ret (pv 3))) pss_nil)
    (pss_cons (ps_if (pt_cmpR op_lt (pv 2) pe_int (nomark _)) (pss_one (ps_ret (pe_own DS hr3 (pa_cons (pv 0) (pa_cons (pv 3) pa_nil))))) pss_nil)
    (pss_cons (ps_if (pt_cmpR op_eq (pv 2) pe_int (nomark _))
      (pss_cons (ps_set (i := 4) nd rfl (Or.inl rfl) (pe_own DD hr1 (pa_cons (pv 0) (pa_cons pe_int pa_nil))))
      (pss_cons (ps_set (i := 5) nd rfl (Or.inl rfl) (pe_own DB hr (pa_cons (pv 0) (pa_cons (pe_ix ix_tup (pv 3) (pv 4) (fun _ _ => rfl)) (pa_cons pe_int pa_nil)))))
      (pss_one (ps_ret (pe_ifExp (pt_cmpR op_eq (pv 4) pe_int (nomark _)) (pe_tup (pa_cons (pv 5) (pa_cons (pe_ix ix_tup (pv 3) pe_int (fun _ _ => rfl)) pa_nil))) (pe_tup (pa_cons (pe_ix ix_tup (pv 3) pe_int (fun _ _ => rfl)) (pa_cons (pv 5) pa_nil))))))))
      pss_nil)
    (pss_cons (ps_set (i := 6) nd rfl (Or.inl rfl) (pe_own DB hr (pa_cons (pv 0) (pa_cons (pv 3) (pa_cons pe_int pa_nil)))))
    (pss_one (ps_ret (pe_ifExp (pt_cmpR op_eq (pv 2) pe_int (nomark _)) (pe_own DB hr (pa_cons (pv 0) (pa_cons (pv 6) (pa_cons pe_int pa_nil)))) (pv 6)))))))))), ?_⟩
  refine ⟨_, rfl, dk, gl, _, rfl, hD, by decide, fun sort H1 e1 D1 s0 s1 => ?_⟩
  replace q := q.ext e1
  refine ⟨_, rfl, rfl, _, rfl, ?_⟩
  refine ite2 (fun _ => ?_) (fun _ => ?_)
  · refine ⟨_, rfl, dk, gl, 3, rfl, D1, by decide, by decide, fun v d H2 e2 D2 rv nv wv => ?_⟩
    refine q v d H2 e2 D2 (rv.weak fun b h => dom_deck D1 h) (nv.up (by decide)) (Nat.le_trans wv ?_)
    show wAny 3 ≤ 100000
    rw [wAny3]
    decide
  refine ⟨_, rfl, _, rfl, dk, gl, n, rfl, D1, n1, n5, fun dv tab ords H2 e2 D2 rd0 ok => ?_⟩
  replace q := q.ext e2
  have rd : Rp (avD dk gl) H2 dv (doorD tab ords) := rd0.weak fun b h => dom_deck D1 h
  obtain ⟨nc, wd⟩ := door_ok ok
  refine ⟨_, rfl, _, _, rfl, rfl, _, rfl, ?_⟩
  refine ite2 (fun _ => ?_) (fun _ => ?_)
  · exact ⟨_, rfl, q dv _ H2 Ext.refl D2 rd (nc.up (by decide)) (by omega)⟩
  refine ⟨_, rfl, _, _, rfl, rfl, _, rfl, ?_⟩
  refine ite2 (fun _ => ?_) (fun _ => ?_)
  · refine ⟨_, rfl, _, rfl, dk, gl, dv, n, tab, ords, rfl, D2, rd, ok, n1, fun v2 tab2 H3 e3 D3 r3 ok3 => ?_⟩
    obtain ⟨nc3, wd3⟩ := door_ok ok3
    exact q v2 _ H3 e3 D3 r3 (nc3.up (by decide)) (by omega)
  refine ⟨_, rfl, rfl, _, rfl, ?_⟩
  refine ite2 (fun _ => ?_) (fun _ => ?_)
  · refine ⟨_, rfl, dk, gl, 2, rfl, D2, by decide, fun part H3 e3 D3 p0 p1 => ?_⟩
    replace q := q.ext e3
    have rd3 := rd.mono e3
    obtain ⟨t, xs, rfl, nt, ht, hx⟩ := rd3.get_tup
    match xs, hx with
    | [x0, x1], .cons r0 (.cons r1 .nil) =>
    obtain ⟨nt1, wt1⟩ := tab_ok ok
    obtain ⟨no1, wo1⟩ := ords_ok ok
    have pick : ∃ (x : V) (d : PyData), atI [x0, x1] part = some x ∧ Rp (avD dk gl) H3 x d ∧ Nc 2 d ∧ d.weight ≤ 1780 := by
      have : part = 0 ∨ part = 1 := by omega
      rcases this with e | e
      · subst e
        exact ⟨x0, _, rfl, r0, nt1, wt1⟩
      · subst e
        exact ⟨x1, _, rfl, r1, no1, wo1⟩
    obtain ⟨x, d, gx, rx, nx, wx⟩ := pick
    refine ⟨_, rfl, _, rfl, _, rfl, t, _, _, x, rfl, rfl, SqT.of ht, gx, dk, gl, x, d, 1, 6, 1780, rfl, D3, rx, nx.up (by decide), by decide, wx, by decide, by decide, by decide, fun row dr H4 e4 D4 r4 n4 w4 => ?_⟩
    have w4' : dr.weight ≤ 6041 := w4
    have ht4 := e4 _ _ nt ht
    have r04 := r0.mono e4
    have r14 := r1.mono e4
    refine ⟨_, rfl, rfl, _, rfl, ?_⟩
    refine ite2 (fun _ => ?_) (fun _ => ?_)
    · refine ⟨_, rfl, _, rfl, t, _, _, _, rfl, rfl, SqT.of ht4, rfl, (by show 2 ≤ sizeLine; decide), fun p hp => ?_⟩
      have s5 := same_new hp (.tup [row, x1])
      refine q _ _ _ (e4.trans (Ext.of_same s5)) (D4.same s5) (.tup (D4.new hp) upd_same (.cons (r4.mono (Ext.of_same s5)) (.cons (r14.mono (Ext.of_same s5)) .nil))) (Nc.tup (.cons n4 (.cons (no1.up (by decide)) .nil))) ?_
      rw [PyData.weight, PyData.weightAll, PyData.weightAll, PyData.weightAll]
      omega
    · refine ⟨_, rfl, t, _, _, _, rfl, rfl, SqT.of ht4, rfl, _, rfl, (by show 2 ≤ sizeLine; decide), fun p hp => ?_⟩
      have s5 := same_new hp (.tup [x0, row])
      refine q _ _ _ (e4.trans (Ext.of_same s5)) (D4.same s5) (.tup (D4.new hp) upd_same (.cons (r04.mono (Ext.of_same s5)) (.cons (r4.mono (Ext.of_same s5)) .nil))) (Nc.tup (.cons (nt1.up (by decide)) (.cons n4 .nil))) ?_
      rw [PyData.weight, PyData.weightAll, PyData.weightAll, PyData.weightAll]
      omega
  refine ⟨_, rfl, _, rfl, dk, gl, dv, _, 3, 7, 3700, rfl, D2, rd, nc.up (by decide), by decide, by omega, by decide, by decide, by decide, fun v2 d2 H4 e4 D4 r4 n4 w4 => ?_⟩
  replace q := q.ext e4
  have w4' : d2.weight ≤ 19203 := w4
  refine ⟨_, rfl, rfl, _, rfl, ?_⟩
  refine ite2 (fun _ => ?_) (fun _ => ?_)
  · refine ⟨_, rfl, _, rfl, dk, gl, v2, d2, 3, 7, 19203, rfl, D4, r4, n4, by decide, w4', by decide, by decide, by decide, fun v3 d3 H5 e5 D5 r5 n5 w5 => ?_⟩
    have w5' : d3.weight ≤ 96718 := w5
    exact q v3 d3 H5 e5 D5 r5 n5 (by omega)
  · exact ⟨_, rfl, q v2 d2 H4 Ext.refl D4 r4 n4 (by omega)⟩
end
end Rw
namespace Rw
open PySem L2 PySem.Spec PyProof.Rows
section
variable {P : Program} {w : World} {K : PySem.W.Frag} {mg : Str → Option Value} {base : Heap}
/-- a def called from one place A only (what guards A bears is known there) -/
theorem at_caller {x : Str} {st : Stmt} {f : Addr} {fd : FuncData} {N ps : List Str} {Ao : Around} {fr : List Env} {s0 : Shared} {Hq : Hp} {gs : Args} {us : List Value} {vs : List V} {Q : VK}
    (F : Fun K x x st f fd) (S : FnScope N ps (defScope st)) (room : Room 1 Ao) (en : Env0 P w K mg base Ao fr s0 Hq) (bt : BindsTo s0 fd gs (ps.zip us)) (rv : Vals vs us) (hl : vs.length = ps.length)
    (go : ∀ cd : Value, ∃ t, PSs (cxOf CX0 P w K mg base N x (defScope st) f cd Ao fr s0 Hq E0).nox (defBody st) t ∧ t { nx := fun _ H2 => Q V.non H2, rt := Q } (L2.start N vs) Hq) :
    codeAny (model P w) Ao (.call (.ref f) gs) (CR CX0 fr P w Hq s0 Q E0) s0 := by
  obtain ⟨c1, c2, c3, c4, c5, c6, c7, c8, c9, rfl, look, code⟩ := F.ex
  have kin : K.In s0.heap := en.mod.kin.keeps fun z o e => (en.bs z o e).1
  refine codeAny_call_function room.depth (kin _ _ look) rfl S.co S.gen rfl (PySem.W.codeRec_of kin code) (bt _ _ _ _ ?_)
  refine wpAny_newFunctionEnv_cells S.kind (fun y m => ?_) fun en1 same s1 there => ?_
  · have m1 := (List.of_mem_zip (show (y.1, y.2) ∈ ps.zip us from m)).1
    exact (S.par y.1 m1).elim .inl fun z => .inr ⟨z, PySem.W.cellsFrom_some _ _ _ (.inl z)⟩
  subst same
  refine ⟨(en.mod.nolimit.keeps fun z o e => (en.bs z o e).1).keeps there.toInCall.keep, codeAny_func ?_⟩
  obtain ⟨t, run, q⟩ := go c7
  have inv := inv_start (CX := CX0) (E := E0) S room.hd en hl rv there
  refine wpAny_mono (run.nox.run [] s1 (L2.start N vs) Hq _ inv q) (fun fl s2 h => ?_) fun _ _ h => h
  cases fl with
  | ret u =>
    obtain ⟨v, σ2, H2, J, r2, q2⟩ := h
    exact ⟨v, H2, J.os, J.bare, J.base, J.hok, r2, q2⟩
  | next =>
    obtain ⟨σ2, H2, J, q2⟩ := h
    exact ⟨V.non, H2, J.os, J.bare, J.base, J.hok, rfl, q2⟩
  | brk => exact absurd h fun ⟨_, _, _, z⟩ => z
  | cont => exact absurd h fun ⟨_, _, _, z⟩ => z
end
end Rw
namespace Rw
open PySem L2 PySem.Spec PyProof.Rows
/-- what the law's own call must do, in whatever heap it starts -/
def Runs (P : Program) (w : World) (K : PySem.W.Frag) (mg : Str → Option Value) (fa a : Addr) (ns : List Int) : Prop :=
  ∀ (base : Heap) (H : Hp) (s0 : Shared), Env0 P w K mg base callerA [] s0 H → SqL K H a (ns.map V.int) → codeAny (model P w) callerA (.call (.ref fa) ⟨[.ref a], []⟩) (CR CX0 [] P w H s0 (fun v _ => v = V.bl true) E0) s0
section
variable {P : Program} {w : World} {K : PySem.W.Frag} {mg mb : Str → Option Value} {fa a : Addr} {s1 : Shared} {us : List Value} {ns : List Int}
/-- from a heap H that tracks at most the script -/
theorem from_heap (KX : K.In s1.heap) (gN : s1.heap.Ns mainGlobals mg) (bN : s1.heap.Ns builtinsNs mb) (bB : ∀ y : Str, y ≠ "__name__" → mb y = bootBuiltins y) (nl : s1.heap.NoLimit) (ng : s1.gens = #[])
    (scr : s1.heap.get? a = some { cls := .type "list", data := .seq us.toArray }) (F : Runs P w K mg fa a ns) {H : Hp} (only : ∀ b, H b = none ∨ (b = a ∧ K.lookup a = none ∧ ∃ o xs, H b = some (.frz o (.lst xs)))) (hS : SqL K H a (ns.map V.int)) (ok : HOk P w H s1.heap) :
    codeAny (model P w) callerA (.call (.ref fa) ⟨[.ref a], []⟩) (fun r s2 => r = .ok (.ret (.bool true)) ∧ OldK s1.heap s2.heap ∧ s2.os = s1.os ∧ AllBare s2.gens) s1 := by
  have notDict : ∀ {b : Addr} {o : Obj} {es : Array DictEntry} {n : Nat}, s1.heap.get? b = some o → o.data = .dict es n → H b = none := fun {b o es n} e d => (only b).elim id fun z => by
    rw [z.1, scr] at e
    rw [← Option.some.inj e] at d
    cases (show Data.seq us.toArray _ = Data.dict es n from d)
  have ns_hid : ∀ {b : Addr} {m : Str → Option Value}, s1.heap.Ns b m → (hidT s1.heap H).Ns b m := fun {b m} h => by
    obtain ⟨o, es, n, e, d, r⟩ := h
    exact ⟨o, es, n, hidT_get e (notDict e d), d, r⟩
  have k_hid : K.In (hidT s1.heap H) := fun b o e => hidT_get (KX b o e) ((only b).elim id fun z => by
    rw [z.1, z.2.1] at e
    cases e)
  obtain ⟨mc, n1, n2⟩ := nl
  have M : Mod K mg (hidT s1.heap H) := ⟨k_hid, ns_hid gN, ⟨mb, ns_hid bN, bB⟩, ⟨mc, ns_hid n1, n2⟩⟩
  have en : Env0 P w K mg (hidT s1.heap H) callerA [] s1 H := { frames := rfl, mod := M, bs := fun b o e => of_hidT e, bsz := Nat.le_of_eq (hidT_size _ _), funs := trivial, frf := fun b hb => absurd (show b ∈ ([] : List Addr) from hb) List.not_mem_nil, hok := ok, bare := .of_eq ng }
  refine codeAny_mono (F _ H s1 en hS) fun r s2 h => ?_
  cases r with
  | error e => exact (show False from h).elim
  | ok fl =>
    cases fl with
    | next => exact (show False from h).elim
    | brk => exact (show False from h).elim
    | cont => exact (show False from h).elim
    | ret u =>
      obtain ⟨v, H2, os, bare, un, ok2, rv, q⟩ := h
      rw [show v = V.bl true from q] at rv
      have eu : u = Value.bool true := rv
      refine ⟨by rw [eu], OldK.of_keep fun b o e => ?_, os, bare⟩
      rcases only b with z | ⟨_, _, ob, xs, z⟩
      · exact un.keep b o e z (fun y => absurd (show b ∈ ([] : List Addr) from y) List.not_mem_nil) List.not_mem_nil
      · have z2 := un.frzs b ob _ z
        have y1 := (ok b _ z).1
        have y2 := (ok2 b _ z2).1
        rw [e] at y1
        rw [← Option.some.inj y1] at y2
        exact y2
theorem law_runs (KX : K.In s1.heap) (gN : s1.heap.Ns mainGlobals mg) (bN : s1.heap.Ns builtinsNs mb) (bB : ∀ y : Str, y ≠ "__name__" → mb y = bootBuiltins y) (nl : s1.heap.NoLimit) (ng : s1.gens = #[])
    (scr : s1.heap.get? a = some { cls := .type "list", data := .seq us.toArray }) (isInts : IntsAre us ns) (hl : ns.length ≤ sizeLine) (F : Runs P w K mg fa a ns) :
    codeAny (model P w) callerA (.call (.ref fa) ⟨[.ref a], []⟩) (fun r s2 => r = .ok (.ret (.bool true)) ∧ OldK s1.heap s2.heap ∧ s2.os = s1.os ∧ AllBare s2.gens) s1 := by
  have rel := vals_ints isInts
  have len := isInts.length
  cases e : K.lookup a with
  | some o =>
    have e2 := KX a o e
    rw [scr] at e2
    have e3 := Option.some.inj e2
    refine from_heap KX gN bN bB nl ng scr F (H := fun _ => none) (fun _ => .inl rfl) (.inr ⟨o, us.toArray, 0, e, ?_, ?_, ?_, ?_, by simpa using rel⟩) fun b u z => nomatch (show (none : Option HO) = some u from z)
    · rw [← e3]
    · rw [← e3]
    · rw [← e3]
    · rw [List.size_toArray, len]
      exact hl
  | none =>
    have here : ∀ {b : Addr} {u : HO}, (if b = a then some (HO.frz { cls := .type "list", data := .seq us.toArray } (.lst (ns.map V.int))) else none) = some u → b = a ∧ u = HO.frz { cls := .type "list", data := .seq us.toArray } (.lst (ns.map V.int)) := fun {b u} z => by
      by_cases c : b = a
      · rw [if_pos c] at z
        exact ⟨c, (Option.some.inj z).symm⟩
      · rw [if_neg c] at z
        cases z
    refine from_heap KX gN bN bB nl ng scr F (H := fun b => if b = a then some (.frz { cls := .type "list", data := .seq us.toArray } (.lst (ns.map V.int))) else none) (fun b => ?_) (.inl (.inr ⟨_, if_pos rfl⟩)) fun b u z => ?_
    · by_cases c : b = a
      · exact .inr ⟨c, e, _, _, if_pos c⟩
      · exact .inl (if_neg c)
    · obtain ⟨rfl, rfl⟩ := here z
      exact ⟨scr, by rw [List.length_map]; exact hl, us, _, rel, scr⟩
end
/-- what k_head leaves -/
theorem walks {l : PySem.W.OpenLaw} {n : Nat} {q : Program} {loose : List Str} {XP : (Str → Option Value) → Heap → Prop} {YP : World → Heap → Prop} {d : DefRec} {K : Params → PySem.W.Frag}
    (hn : l.most = some n) (small : n ≤ sizeLine) (hdf : d.params.defaults = []) (hY : ∀ (w : World) (h : Heap), YP w h → (K w.params).In h)
    (F : ∀ (w : World) (mg : Str → Option Value) (fa : Addr) (h : Heap), (K w.params).In h → h.Ns mainGlobals mg → mg d.name = some (.ref fa) → ∀ (a : Addr) (ns : List Int), ns.length ≤ n → Runs l.prog w (K w.params) mg fa a ns) :
    PySem.W.WalkO q loose XP YP l.row.toRowW d [] (fun g vs => PySem.call g vs) := by
  refine Att.attach_call hn hdf fun w s₀ s1 mg mb fa o pm cd doc a us ns G Y look dat code glob scr isInts len gens => ?_
  have kin := hY w _ Y
  exact law_runs kin G.T.g G.T.b G.T.builtins G.T.nolimit gens scr isInts (Nat.le_trans len small) (F w mg fa _ kin G.T.g glob a ns len)
end Rw
section
namespace Rw
open PySem L2 PyProof.Rows
abbrev sLaw : Stmt := top 28
theorem small_pair (z : Str) (i : Int) : plainT (.tuple [.str z, .int i]) = true ∧ (PyData.tuple [.str z, .int i]).depth < 2 := ⟨rfl, by
  simp only [PyData.depth, PyData.depthAll]
  decide⟩
theorem small_three (z : Str) (i j : Int) : plainT (.tuple [.str z, .int i, .int j]) = true ∧ (PyData.tuple [.str z, .int i, .int j]).depth < 2 := ⟨rfl, by
  simp only [PyData.depth, PyData.depthAll]
  decide⟩
theorem small_str (z : Str) : plainT (.str z) = true ∧ (PyData.str z).depth < 2 := ⟨rfl, by simp only [PyData.depth]; decide⟩
theorem small_non : plainT .none = true ∧ (PyData.none).depth < 2 := ⟨rfl, by simp only [PyData.depth]; decide⟩
theorem even_small (ts : List PyData) : plainT (evenE ts) = true ∧ (evenE ts).depth < 2 := by
  unfold evenE
  cases evOut ts ts.length ts.length 0 with
  | none => exact small_non
  | some p => exact small_three _ _ _
theorem table_small (n : Nat) (ts : List PyData) : plainT (tableE n ts) = true ∧ (tableE n ts).depth < 2 := by
  unfold tableE
  split
  · split
    · exact small_pair _ _
    · exact even_small _
  · exact small_str _
theorem orders_small (n : Nat) (os : List PyData) : plainT (ordersE n os) = true ∧ (ordersE n os).depth < 2 := by
  unfold ordersE
  split
  · split
    · exact small_pair _ _
    · exact small_non
  · exact small_str _
theorem door_small (n : Nat) (d : PyData) : plainT (doorE n d) = true ∧ (doorE n d).depth < 2 := by
  unfold doorE
  split
  · split
    · exact orders_small _ _
    · exact table_small _ _
  · exact small_str _
def gK {α : Type} : List α → List α → List α
  | [], [a, b] => [b, a]
  | _, _ => []
structure KDfn (P : Program) (w : World) (K : PySem.W.Frag) (mg : Str → Option Value) (base : Heap) : Prop where
  ex : ∃ (f : Addr) (fd : FuncData), FnOk P w K mg base CX0 4 f fd ["hands", "value"] spDoorE ∧ mg "door_error" = some (.ref f) ∧ PySem.W.keepIn K (.ref f) = true ∧ KBinds K fd ["hands", "value"] ["value", "hands"] gK gK
set_option hygiene false
local macro_rules | `(tactic| walk_at "law rest") => `(tactic| (
  refine ⟨_, rfl, _, rfl, _, v, d, mm, congrArg (fun z => [V.int z, v]) eM, rx, h1000, wv, fun due H7 s7 rdue => ?_⟩
  have r7 := rx.mono (Ext.of_same s7)
  have D7 := Dx.same s7
  refine ⟨_, rfl, _, v, d, rfl, r7, nv.sw, nv.fits (by omega), Nat.le_trans nv.dp (by decide), _, _, rfl, ?_⟩
  refine ⟨_, rfl, _, _, rfl, rfl, (by show (0 : Int) < 4; decide), rfl, _, rfl, ?_⟩
  refine ite2 (fun _ => ?_) (fun _ => ?_)
  all_goals refine ⟨_, rfl, _, rfl, _, v, d, mm, congrArg (fun z => [V.int z, v]) eM, r7, h1000, wv, fun told H8 s8 rtold => ?_⟩
  all_goals (
    have r8 := r7.mono (Ext.of_same s8)
    have due8 := rdue.mono (Ext.of_same s8)
    have D8 := D7.same s8
    refine ⟨_, rfl, _, rfl, _, _, told, due, _, rfl, rtold, due8, (door_small _ d).1, (door_small _ d).2, fun H9 s9 => ⟨_, rfl, ?_⟩⟩
    have r9 := r8.mono (Ext.of_same s9)
    have due9 := due8.mono (Ext.of_same s9)
    have D9 := D8.same s9
    refine iteF (A := True) ?_
    refine ⟨_, rfl, _, rfl, _, v, d, mm, congrArg (fun z => [V.int z, v]) eM, r9, h1000, wv, fun told2 H10 s10 rtold2 => ?_⟩
    have r10 := r9.mono (Ext.of_same s10)
    have due10 := due9.mono (Ext.of_same s10)
    have D10 := D9.same s10
    refine ⟨_, rfl, _, _, told2, due, _, rfl, rtold2, due10, (door_small _ d).1, (door_small _ d).2, fun H11 s11 => ⟨_, rfl, ?_⟩⟩
    have r11 := r10.mono (Ext.of_same s11)
    have D11 := D10.same s11
    refine iteF (A := True) ?_
    refine ⟨_, rfl, _, v, d, rfl, r11, nv.sw, nv.fits (by omega), Nat.le_trans nv.dp (by decide), _, rfl, rfl, _, rfl, ?_⟩
    refine iteZ (by simp) ?_
    exact ⟨⟨_, _, _, _, _, _, rfl⟩, D11⟩)))
section
variable {P : Program} {w : World} {K : PySem.W.Frag} {mg : Str → Option Value} {base : Heap} {f : Addr} {fd : FuncData}
theorem kb_door (F : Fun K "door_error" "door_error" sDoorE f fd) : KBinds K fd ["hands", "value"] ["value", "hands"] gK gK := by
  obtain ⟨c1, c2, c3, c4, c5, c6, c7, c8, c9, rfl, look, code⟩ := F.ex
  refine ⟨fun s us ws _ hl => ?_, fun {vs us zs ws} r1 r2 => ?_⟩
  · match us, ws, hl with
    | [], [a, b], _ => exact .of_eq rfl
  · cases r1 with
    | cons _ _ => exact .nil
    | nil =>
      cases r2 with
      | nil => exact .nil
      | cons a r =>
        cases r with
        | nil => exact .nil
        | cons b r =>
          cases r with
          | nil => exact .cons b (.cons a .nil)
          | cons _ _ => exact .nil
theorem scLaw : FnScope ["script", "deck", "turn", "hands", "value", "due", "kept", "told"] ["script"] (defScope sLaw) := ⟨rfl, rfl, rfl, by decide +kernel, rfl, by decide +kernel, by decide +kernel⟩
theorem law_ok {a : Addr} {ns : List Int} {H : Hp} {s0 : Shared} (F : Fun K "law" "law" sLaw f fd) (B : Blt mg) (mods : ∃ o, K.lookup sysModules = some o) (DC : Dfn P w K mg base "_law_deck" ["script"] 1 (spDeck K)) (DD : Dfn P w K mg base "_law_draw" ["deck", "many"] 1 spDraw)
    (DV : Dfn P w K mg base "_law_value" ["deck", "hands"] 11 spValue) (DF : Dfn P w K mg base "_law_door_fault" ["hands", "value"] 3 spDoorE) (DW : Dfn P w K mg base "door_error" ["hands", "value"] 4 spDoorE) (DK : KDfn P w K mg base) (DS : Dfn P w K mg base "_law_same" ["found", "due"] 2 (spSame 2))
    (len : ns.length ≤ 63) (en : Env0 P w K mg base callerA [] s0 H) (hS : SqL K H a (ns.map V.int)) : codeAny (model P w) callerA (.call (.ref f) ⟨[.ref a], []⟩) (CR CX0 [] P w H s0 (fun v _ => v = V.bl true) E0) s0 := by
  have room : Room 12 callerA := ⟨rfl, by decide, by decide⟩
  refine at_caller (ps := ["script"]) (us := [.ref a]) (vs := [.ref a]) F scLaw (room.mono (by decide)) en ?_ (.cons rfl .nil) rfl fun cd => ?_
  · obtain ⟨c1, c2, c3, c4, c5, c6, c7, c8, c9, rfl, look, code⟩ := F.ex
    exact .of_eq rfl
  have nd := scLaw.nd
  have hr : Room 11 (callerA.deeper (PyProof.Rows.envOfC "law" (defScope sLaw) s0.heap.objs.size f cd)) := room.deeper _
  have hr1 : Room 1 (callerA.deeper (PyProof.Rows.envOfC "law" (defScope sLaw) s0.heap.objs.size f cd)) := hr.mono (by decide)
  have hr3 : Room 3 (callerA.deeper (PyProof.Rows.envOfC "law" (defScope sLaw) s0.heap.objs.size f cd)) := hr.mono (by decide)
  have hr2 : Room 2 (callerA.deeper (PyProof.Rows.envOfC "law" (defScope sLaw) s0.heap.objs.size f cd)) := hr.mono (by decide)
  have hr4 : Room 4 (callerA.deeper (PyProof.Rows.envOfC "law" (defScope sLaw) s0.heap.objs.size f cd)) := hr.mono (by decide)
  have gd : (callerA.deeper (PyProof.Rows.envOfC "law" (defScope sLaw) s0.heap.objs.size f cd)).guards = some [] := rfl
  have un : (callerA.deeper (PyProof.Rows.envOfC "law" (defScope sLaw) s0.heap.objs.size f cd)).units + 102 < cLine := by
    have := hr.un
    omega
  obtain ⟨fk, fdk, Fk, mk, kk, bk⟩ := DK.ex
  refine ⟨_, pss_cons (ps_set (i := 1) nd rfl (Or.inl rfl) (pe_own DC hr1 (pa_cons (pv 0) pa_nil)))
    (pss_cons (ps_for PassesOwn.never rfl (pi_range1 (by rfl) B.rng (pa_cons pe_int pa_nil)) (pg_name (i := 2) nd rfl (Or.inl rfl))
      (pss_cons (ps_set (i := 3) nd rfl (Or.inl rfl) (pe_op op_add pe_int (pe_own DD hr1 (pa_cons (pv 1) (pa_cons pe_int pa_nil)))))
      (pss_cons (ps_set (i := 4) nd rfl (Or.inl rfl) (pe_own DV hr (pa_cons (pv 1) (pa_cons (pv 3) pa_nil))))
      (pss_cons (ps_set (i := 3) nd rfl (Or.inl rfl) (pe_ifExp (pt_cmpR op_eq (pe_own DD hr1 (pa_cons (pv 1) (pa_cons pe_int pa_nil))) pe_int (nomark _)) (pe_op op_add pe_int (pe_own DD hr1 (pa_cons (pv 1) (pa_cons pe_int pa_nil)))) (pv 3)))
      (pss_cons (ps_par (i := 5) (j := 6) (by rfl) nd rfl rfl (by decide) rfl rfl (pa_cons (pe_own DF hr3 (pa_cons (pv 3) (pa_cons (pv 4) pa_nil)))
        (pa_cons (pe_callB (call_repr gd un mods) (by rfl) B.repr (by decide +kernel) (pa_cons (pv 4) pa_nil)) pa_nil)) (by rfl))
      (pss_cons (ps_set (i := 7) nd rfl (Or.inl rfl) (pe_ifExp (pt_cmpR op_eq (pe_op op_mod (pv 2) pe_int) pe_int (nomark _)) (pe_callK0 (ks := ["value", "hands"]) Fk hr4 (by rfl) mk kk bk pass0 (pk_cons (pv 4) (pk_cons (pv 3) pk_nil))) (pe_own DW hr4 (pa_cons (pv 3) (pa_cons (pv 4) pa_nil)))))
      (pss_one (ps_if (PW.pt (pw_or (pt_not (pt_val (pe_own DS hr2 (pa_cons (pv 7) (pa_cons (pv 5) pa_nil))))) (pw_or (pt_not (pt_val (pe_own DS hr2 (pa_cons (pe_own DW hr4 (pa_cons (pv 3) (pa_cons (pv 4) pa_nil))) (pa_cons (pv 5) pa_nil)))))
          (pw_or1 (pt_cmpR op_ne (pe_callB (call_repr gd un mods) (by rfl) B.repr (by decide +kernel) (pa_cons (pv 4) pa_nil)) (pv 6) (nomark _)))))) (pss_one (ps_ret pe_bl)) pss_nil))))))))
    (pss_one (ps_ret pe_bl))), ?_⟩
  refine ⟨_, rfl, a, ns, rfl, hS, len, fun dk gl H1 _ D1 => ?_⟩
  refine ⟨_, rfl, by decide, by decide, for_it (walk_range (lo := 0) (n := 30)) (fun i σ H2 => (∃ (v2 v3 v4 v5 v6 v7 : Option V), σ = [some (.ref a), some (.ref dk), v2, v3, v4, v5, v6, v7]) ∧ DeckAt dk gl H2) ⟨⟨_, _, _, _, _, _, rfl⟩, D1⟩ (fun _ _ _ _ _ => trivial) ?_ ?_⟩
  rotate_left
  · rintro σ H2 ⟨⟨_, _, _, _, _, _, rfl⟩, D2⟩
    exact rfl
  rintro i y σ H2 H3 hi ⟨⟨_, _, _, _, _, _, rfl⟩, D2⟩ ⟨rfl, rfl⟩
  refine ⟨_, rfl, dk, gl, 5, rfl, D2, by decide, fun m0 H3 e3 D3 m1 m2 => ?_⟩
  obtain ⟨m0, rfl⟩ : ∃ k : Nat, m0 = (k : Nat) := ⟨m0.toNat, by omega⟩
  have eM : (1 : Int) + (m0 : Nat) = ((1 + m0 : Nat) : Int) := by omega
  refine ⟨_, _, rfl, rfl, ?_⟩
  refine ⟨_, rfl, _, rfl, dk, gl, 1 + m0, congrArg (fun z => [V.ref dk, V.int z]) eM, D3, by omega, by omega, fun v d H4 e4 D4 rv nv wv => ?_⟩
  refine ⟨_, rfl, dk, gl, 6, rfl, D4, by decide, fun z H5 e5 D5 _ _ => ⟨rfl, _, rfl, ?_⟩⟩
  have rv5 := rv.mono e5
  have h1000 : 1 + m0 ≤ 1000 := by omega
  clear m2 e3 D3 e4 D4 e5 rv D2 m1
  refine ite2 (fun _ => ?_) (fun _ => ?_)
  · refine ⟨_, rfl, dk, gl, 5, rfl, D5, by decide, fun m3 H6 e6 D6 k0 k1 => ⟨_, _, rfl, rfl, ?_⟩⟩
    obtain ⟨m3, rfl⟩ : ∃ k : Nat, m3 = (k : Nat) := ⟨m3.toNat, by omega⟩
    have eM : (1 : Int) + (m3 : Nat) = ((1 + m3 : Nat) : Int) := by omega
    have h1000 : 1 + m3 ≤ 1000 := by omega
    have rx := rv5.mono e6
    have Dx := D6
    generalize H6 = Hx at rx Dx
    generalize hmm : 1 + m3 = mm at eM h1000
    walk_at "law rest"
  · refine ⟨_, rfl, ?_⟩
    have rx := rv5
    have Dx := D5
    generalize H5 = Hx at rx Dx
    generalize hmm : 1 + m0 = mm at eM h1000
    walk_at "law rest"
end
end Rw
end
namespace Rw
open PySem L2 PyProof.Rows
theorem def_of {K : PySem.W.Frag} {h : Heap} {mg : Str → Option Value} {x : Str} {st : Stmt} {f : Addr} {c1 : Value} {o1 o2 : Option Addr} {sl : Array (Option Value)} {c2 c3 c4 c5 c6 : Value} {ps : List Str} (X : K.In h) (G : h.Ns mainGlobals mg)
    (a : PySem.W.nsIn K mainGlobals x = some (some (.ref f))) (look : K.lookup f = some ⟨c1, o1, .func (PySem.W.fnOf x x (defArgs st) (defBody st) (defScope st) .none c2 c3 c4 o2 c5 c6), sl⟩) (code : PySem.W.codeIn K c5 x = true) (keep : PySem.W.keepIn K (.ref f) = true)
    (bind : ∀ (kV doc pm : Value) (an : Option Addr) (cdv ct : Value) (us : List Value), us.length = ps.length → bindArgs (PySem.W.fnOf x x (defArgs st) (defBody st) (defScope st) .none kV doc pm an cdv ct) ⟨us, []⟩ = pure (ps.zip us)) : Def K mg x st ps :=
  ⟨_, _, fun_mk look code keep, PySem.W.mg_of X G a, (fun_mk look code keep).binds bind⟩

theorem all_mk {l : PySem.W.OpenLaw} {w : World} {K : PySem.W.Frag} {h : Heap} {mg : Str → Option Value} {fa : Addr} (X : K.In h) (G : h.Ns mainGlobals mg) (hfa : mg "law" = some (.ref fa))
    {f1 f2 f3 f4 f5 f6 f7 f8 f9 f10 f11 f12 f13 f14 f15 f16 f17 f18 f19 f20 f21 f22 f23 f24 f25 : Addr} {od1 an1 od2 an2 od3 an3 od4 an4 od5 an5 od6 an6 od7 an7 od8 an8 od9 an9 od10 an10 od11 an11 od12 an12 od13 an13 od14 an14 od15 an15 od16 an16 od17 an17 od18 an18 od19 an19 od20 an20 od21 an21 od22 an22 od23 an23 od24 an24 od25 an25 : Option Addr} {sl1 sl2 sl3 sl4 sl5 sl6 sl7 sl8 sl9 sl10 sl11 sl12 sl13 sl14 sl15 sl16 sl17 sl18 sl19 sl20 sl21 sl22 sl23 sl24 sl25 : Array (Option Value)} {oc1 kV1 dc1 pm1 cd1 ct1 oc2 kV2 dc2 pm2 cd2 ct2 oc3 kV3 dc3 pm3 cd3 ct3 oc4 kV4 dc4 pm4 cd4 ct4 oc5 kV5 dc5 pm5 cd5 ct5 oc6 kV6 dc6 pm6 cd6 ct6 oc7 kV7 dc7 pm7 cd7 ct7 oc8 kV8 dc8 pm8 cd8 ct8 oc9 kV9 dc9 pm9 cd9 ct9 oc10 kV10 dc10 pm10 cd10 ct10 oc11 kV11 dc11 pm11 cd11 ct11 oc12 kV12 dc12 pm12 cd12 ct12 oc13 kV13 dc13 pm13 cd13 ct13 oc14 kV14 dc14 pm14 cd14 ct14 oc15 kV15 dc15 pm15 cd15 ct15 oc16 kV16 dc16 pm16 cd16 ct16 oc17 kV17 dc17 pm17 cd17 ct17 oc18 kV18 dc18 pm18 cd18 ct18 oc19 kV19 dc19 pm19 cd19 ct19 oc20 kV20 dc20 pm20 cd20 ct20 oc21 kV21 dc21 pm21 cd21 ct21 oc22 kV22 dc22 pm22 cd22 ct22 oc23 kV23 dc23 pm23 cd23 ct23 oc24 kV24 dc24 pm24 cd24 ct24 oc25 kV25 dc25 pm25 cd25 ct25 : Value} {om : Obj} {wa : Addr} {dW : Option Addr} {nW t1 t2 t3 : Nat} {slW : Array (Option Value)}
    (a1 : PySem.W.nsIn K mainGlobals "is_integer" = some (some (.ref f1))) (l1 : K.lookup f1 = some ⟨oc1, od1, .func (PySem.W.fnOf "is_integer" "is_integer" (defArgs sInteger) (defBody sInteger) (defScope sInteger) .none kV1 dc1 pm1 an1 cd1 ct1), sl1⟩) (c1 : PySem.W.codeIn K cd1 "is_integer" = true) (k1 : PySem.W.keepIn K (.ref f1) = true)
    (a2 : PySem.W.nsIn K mainGlobals "is_tuple_of" = some (some (.ref f2))) (l2 : K.lookup f2 = some ⟨oc2, od2, .func (PySem.W.fnOf "is_tuple_of" "is_tuple_of" (defArgs sTupleOf) (defBody sTupleOf) (defScope sTupleOf) .none kV2 dc2 pm2 an2 cd2 ct2), sl2⟩) (c2 : PySem.W.codeIn K cd2 "is_tuple_of" = true) (k2 : PySem.W.keepIn K (.ref f2) = true)
    (a3 : PySem.W.nsIn K mainGlobals "is_pair_of_tuples" = some (some (.ref f3))) (l3 : K.lookup f3 = some ⟨oc3, od3, .func (PySem.W.fnOf "is_pair_of_tuples" "is_pair_of_tuples" (defArgs sPairT) (defBody sPairT) (defScope sPairT) .none kV3 dc3 pm3 an3 cd3 ct3), sl3⟩) (c3 : PySem.W.codeIn K cd3 "is_pair_of_tuples" = true) (k3 : PySem.W.keepIn K (.ref f3) = true)
    (a4 : PySem.W.nsIn K mainGlobals "is_row" = some (some (.ref f4))) (l4 : K.lookup f4 = some ⟨oc4, od4, .func (PySem.W.fnOf "is_row" "is_row" (defArgs sRow) (defBody sRow) (defScope sRow) .none kV4 dc4 pm4 an4 cd4 ct4), sl4⟩) (c4 : PySem.W.codeIn K cd4 "is_row" = true) (k4 : PySem.W.keepIn K (.ref f4) = true)
    (a5 : PySem.W.nsIn K mainGlobals "evenness_error" = some (some (.ref f5))) (l5 : K.lookup f5 = some ⟨oc5, od5, .func (PySem.W.fnOf "evenness_error" "evenness_error" (defArgs sEven) (defBody sEven) (defScope sEven) .none kV5 dc5 pm5 an5 cd5 ct5), sl5⟩) (c5 : PySem.W.codeIn K cd5 "evenness_error" = true) (k5 : PySem.W.keepIn K (.ref f5) = true)
    (a6 : PySem.W.nsIn K mainGlobals "table_error" = some (some (.ref f6))) (l6 : K.lookup f6 = some ⟨oc6, od6, .func (PySem.W.fnOf "table_error" "table_error" (defArgs sTable) (defBody sTable) (defScope sTable) .none kV6 dc6 pm6 an6 cd6 ct6), sl6⟩) (c6 : PySem.W.codeIn K cd6 "table_error" = true) (k6 : PySem.W.keepIn K (.ref f6) = true)
    (a7 : PySem.W.nsIn K mainGlobals "is_order" = some (some (.ref f7))) (l7 : K.lookup f7 = some ⟨oc7, od7, .func (PySem.W.fnOf "is_order" "is_order" (defArgs sOrder) (defBody sOrder) (defScope sOrder) .none kV7 dc7 pm7 an7 cd7 ct7), sl7⟩) (c7 : PySem.W.codeIn K cd7 "is_order" = true) (k7 : PySem.W.keepIn K (.ref f7) = true)
    (a8 : PySem.W.nsIn K mainGlobals "orders_error" = some (some (.ref f8))) (l8 : K.lookup f8 = some ⟨oc8, od8, .func (PySem.W.fnOf "orders_error" "orders_error" (defArgs sOrders) (defBody sOrders) (defScope sOrders) .none kV8 dc8 pm8 an8 cd8 ct8), sl8⟩) (c8 : PySem.W.codeIn K cd8 "orders_error" = true) (k8 : PySem.W.keepIn K (.ref f8) = true)
    (a9 : PySem.W.nsIn K mainGlobals "door_error" = some (some (.ref f9))) (l9 : K.lookup f9 = some ⟨oc9, od9, .func (PySem.W.fnOf "door_error" "door_error" (defArgs sDoorE) (defBody sDoorE) (defScope sDoorE) .none kV9 dc9 pm9 an9 cd9 ct9), sl9⟩) (c9 : PySem.W.codeIn K cd9 "door_error" = true) (k9 : PySem.W.keepIn K (.ref f9) = true)
    (a10 : PySem.W.nsIn K mainGlobals "_law_deck" = some (some (.ref f10))) (l10 : K.lookup f10 = some ⟨oc10, od10, .func (PySem.W.fnOf "_law_deck" "_law_deck" (defArgs sDeck) (defBody sDeck) (defScope sDeck) .none kV10 dc10 pm10 an10 cd10 ct10), sl10⟩) (c10 : PySem.W.codeIn K cd10 "_law_deck" = true) (k10 : PySem.W.keepIn K (.ref f10) = true)
    (a11 : PySem.W.nsIn K mainGlobals "_law_draw" = some (some (.ref f11))) (l11 : K.lookup f11 = some ⟨oc11, od11, .func (PySem.W.fnOf "_law_draw" "_law_draw" (defArgs sDraw) (defBody sDraw) (defScope sDraw) .none kV11 dc11 pm11 an11 cd11 ct11), sl11⟩) (c11 : PySem.W.codeIn K cd11 "_law_draw" = true) (k11 : PySem.W.keepIn K (.ref f11) = true)
    (a12 : PySem.W.nsIn K mainGlobals "_law_pick" = some (some (.ref f12))) (l12 : K.lookup f12 = some ⟨oc12, od12, .func (PySem.W.fnOf "_law_pick" "_law_pick" (defArgs sPick) (defBody sPick) (defScope sPick) .none kV12 dc12 pm12 an12 cd12 ct12), sl12⟩) (c12 : PySem.W.codeIn K cd12 "_law_pick" = true) (k12 : PySem.W.keepIn K (.ref f12) = true)
    (a13 : PySem.W.nsIn K mainGlobals "_law_mixed" = some (some (.ref f13))) (l13 : K.lookup f13 = some ⟨oc13, od13, .func (PySem.W.fnOf "_law_mixed" "_law_mixed" (defArgs sMixed) (defBody sMixed) (defScope sMixed) .none kV13 dc13 pm13 an13 cd13 ct13), sl13⟩) (c13 : PySem.W.codeIn K cd13 "_law_mixed" = true) (k13 : PySem.W.keepIn K (.ref f13) = true)
    (a14 : PySem.W.nsIn K mainGlobals "_law_whole" = some (some (.ref f14))) (l14 : K.lookup f14 = some ⟨oc14, od14, .func (PySem.W.fnOf "_law_whole" "_law_whole" (defArgs sWhole) (defBody sWhole) (defScope sWhole) .none kV14 dc14 pm14 an14 cd14 ct14), sl14⟩) (c14 : PySem.W.codeIn K cd14 "_law_whole" = true) (k14 : PySem.W.keepIn K (.ref f14) = true)
    (a15 : PySem.W.nsIn K mainGlobals "_law_same" = some (some (.ref f15))) (l15 : K.lookup f15 = some ⟨oc15, od15, .func (PySem.W.fnOf "_law_same" "_law_same" (defArgs sSame) (defBody sSame) (defScope sSame) .none kV15 dc15 pm15 an15 cd15 ct15), sl15⟩) (c15 : PySem.W.codeIn K cd15 "_law_same" = true) (k15 : PySem.W.keepIn K (.ref f15) = true)
    (a16 : PySem.W.nsIn K mainGlobals "_law_any" = some (some (.ref f16))) (l16 : K.lookup f16 = some ⟨oc16, od16, .func (PySem.W.fnOf "_law_any" "_law_any" (defArgs sAny) (defBody sAny) (defScope sAny) .none kV16 dc16 pm16 an16 cd16 ct16), sl16⟩) (c16 : PySem.W.codeIn K cd16 "_law_any" = true) (k16 : PySem.W.keepIn K (.ref f16) = true)
    (a17 : PySem.W.nsIn K mainGlobals "_law_other" = some (some (.ref f17))) (l17 : K.lookup f17 = some ⟨oc17, od17, .func (PySem.W.fnOf "_law_other" "_law_other" (defArgs sOther) (defBody sOther) (defScope sOther) .none kV17 dc17 pm17 an17 cd17 ct17), sl17⟩) (c17 : PySem.W.codeIn K cd17 "_law_other" = true) (k17 : PySem.W.keepIn K (.ref f17) = true)
    (a18 : PySem.W.nsIn K mainGlobals "_law_bent" = some (some (.ref f18))) (l18 : K.lookup f18 = some ⟨oc18, od18, .func (PySem.W.fnOf "_law_bent" "_law_bent" (defArgs sBent) (defBody sBent) (defScope sBent) .none kV18 dc18 pm18 an18 cd18 ct18), sl18⟩) (c18 : PySem.W.codeIn K cd18 "_law_bent" = true) (k18 : PySem.W.keepIn K (.ref f18) = true)
    (a19 : PySem.W.nsIn K mainGlobals "_law_door" = some (some (.ref f19))) (l19 : K.lookup f19 = some ⟨oc19, od19, .func (PySem.W.fnOf "_law_door" "_law_door" (defArgs sDoor) (defBody sDoor) (defScope sDoor) .none kV19 dc19 pm19 an19 cd19 ct19), sl19⟩) (c19 : PySem.W.codeIn K cd19 "_law_door" = true) (k19 : PySem.W.keepIn K (.ref f19) = true)
    (a20 : PySem.W.nsIn K mainGlobals "_law_is_row" = some (some (.ref f20))) (l20 : K.lookup f20 = some ⟨oc20, od20, .func (PySem.W.fnOf "_law_is_row" "_law_is_row" (defArgs sLawRow) (defBody sLawRow) (defScope sLawRow) .none kV20 dc20 pm20 an20 cd20 ct20), sl20⟩) (c20 : PySem.W.codeIn K cd20 "_law_is_row" = true) (k20 : PySem.W.keepIn K (.ref f20) = true)
    (a21 : PySem.W.nsIn K mainGlobals "_law_is_order" = some (some (.ref f21))) (l21 : K.lookup f21 = some ⟨oc21, od21, .func (PySem.W.fnOf "_law_is_order" "_law_is_order" (defArgs sLawOrder) (defBody sLawOrder) (defScope sLawOrder) .none kV21 dc21 pm21 an21 cd21 ct21), sl21⟩) (c21 : PySem.W.codeIn K cd21 "_law_is_order" = true) (k21 : PySem.W.keepIn K (.ref f21) = true)
    (a22 : PySem.W.nsIn K mainGlobals "_law_door_fault" = some (some (.ref f22))) (l22 : K.lookup f22 = some ⟨oc22, od22, .func (PySem.W.fnOf "_law_door_fault" "_law_door_fault" (defArgs sFault) (defBody sFault) (defScope sFault) .none kV22 dc22 pm22 an22 cd22 ct22), sl22⟩) (c22 : PySem.W.codeIn K cd22 "_law_door_fault" = true) (k22 : PySem.W.keepIn K (.ref f22) = true)
    (a23 : PySem.W.nsIn K mainGlobals "_law_one_sided" = some (some (.ref f23))) (l23 : K.lookup f23 = some ⟨oc23, od23, .func (PySem.W.fnOf "_law_one_sided" "_law_one_sided" (defArgs sSided) (defBody sSided) (defScope sSided) .none kV23 dc23 pm23 an23 cd23 ct23), sl23⟩) (c23 : PySem.W.codeIn K cd23 "_law_one_sided" = true) (k23 : PySem.W.keepIn K (.ref f23) = true)
    (a24 : PySem.W.nsIn K mainGlobals "_law_value" = some (some (.ref f24))) (l24 : K.lookup f24 = some ⟨oc24, od24, .func (PySem.W.fnOf "_law_value" "_law_value" (defArgs sValue) (defBody sValue) (defScope sValue) .none kV24 dc24 pm24 an24 cd24 ct24), sl24⟩) (c24 : PySem.W.codeIn K cd24 "_law_value" = true) (k24 : PySem.W.keepIn K (.ref f24) = true)
    (a25 : PySem.W.nsIn K mainGlobals "law" = some (some (.ref f25))) (l25 : K.lookup f25 = some ⟨oc25, od25, .func (PySem.W.fnOf "law" "law" (defArgs sLaw) (defBody sLaw) (defScope sLaw) .none kV25 dc25 pm25 an25 cd25 ct25), sl25⟩) (c25 : PySem.W.codeIn K cd25 "law" = true) (k25 : PySem.W.keepIn K (.ref f25) = true)
    (mods : K.lookup sysModules = some om) (cW : PySem.W.nsIn K mainGlobals "WORDS" = some (some (.ref wa))) (lW : K.lookup wa = some ⟨.type "tuple", dW, .seq #[.str "stand" t1, .str "bow" t2, .str "even" t3] nW, slW⟩)
    (y_all : PySem.W.nsIn K mainGlobals "all" = some none) (y_sorted : PySem.W.nsIn K mainGlobals "sorted" = some none) (z_abs : PySem.W.nsIn K mainGlobals "abs" = some none) (z_int : PySem.W.nsIn K mainGlobals "int" = some none) (z_bool : PySem.W.nsIn K mainGlobals "bool" = some none) (z_str : PySem.W.nsIn K mainGlobals "str" = some none) (z_len : PySem.W.nsIn K mainGlobals "len" = some none) (z_isi : PySem.W.nsIn K mainGlobals "isinstance" = some none) (z_enu : PySem.W.nsIn K mainGlobals "enumerate" = some none) (z_rng : PySem.W.nsIn K mainGlobals "range" = some none) (z_list : PySem.W.nsIn K mainGlobals "list" = some none) (z_tup : PySem.W.nsIn K mainGlobals "tuple" = some none) (z_repr : PySem.W.nsIn K mainGlobals "repr" = some none) :
    ∀ (a : Addr) (ns : List Int), ns.length ≤ 63 → Runs l.prog w K mg fa a ns := by
  have e := hfa.symm.trans (PySem.W.mg_of X G a25)
  cases e
  have B : Blt mg := ⟨PySem.W.mg_none_of X G z_abs, PySem.W.mg_none_of X G z_int, PySem.W.mg_none_of X G z_bool, PySem.W.mg_none_of X G z_str, PySem.W.mg_none_of X G z_len, PySem.W.mg_none_of X G z_isi, PySem.W.mg_none_of X G z_enu, PySem.W.mg_none_of X G z_rng, PySem.W.mg_none_of X G z_list, PySem.W.mg_none_of X G z_tup, PySem.W.mg_none_of X G z_repr⟩
  have D1 : Def K mg "is_integer" sInteger ["value"] := def_of X G a1 l1 c1 k1 fun _ _ _ _ _ _ us hl => match us, hl with | [_], _ => rfl
  have D2 : Def K mg "is_tuple_of" sTupleOf ["value", "many"] := def_of X G a2 l2 c2 k2 fun _ _ _ _ _ _ us hl => match us, hl with | [_, _], _ => rfl
  have D3 : Def K mg "is_pair_of_tuples" sPairT ["value"] := def_of X G a3 l3 c3 k3 fun _ _ _ _ _ _ us hl => match us, hl with | [_], _ => rfl
  have D4 : Def K mg "is_row" sRow ["hands", "hand", "value"] := def_of X G a4 l4 c4 k4 fun _ _ _ _ _ _ us hl => match us, hl with | [_, _, _], _ => rfl
  have D5 : Def K mg "evenness_error" sEven ["table"] := def_of X G a5 l5 c5 k5 fun _ _ _ _ _ _ us hl => match us, hl with | [_], _ => rfl
  have D6 : Def K mg "table_error" sTable ["hands", "table"] := def_of X G a6 l6 c6 k6 fun _ _ _ _ _ _ us hl => match us, hl with | [_, _], _ => rfl
  have D7 : Def K mg "is_order" sOrder ["hands", "hand", "value"] := def_of X G a7 l7 c7 k7 fun _ _ _ _ _ _ us hl => match us, hl with | [_, _, _], _ => rfl
  have D8 : Def K mg "orders_error" sOrders ["hands", "orders"] := def_of X G a8 l8 c8 k8 fun _ _ _ _ _ _ us hl => match us, hl with | [_, _], _ => rfl
  have D9 : Def K mg "door_error" sDoorE ["hands", "value"] := def_of X G a9 l9 c9 k9 fun _ _ _ _ _ _ us hl => match us, hl with | [_, _], _ => rfl
  have D10 : Def K mg "_law_deck" sDeck ["script"] := def_of X G a10 l10 c10 k10 fun _ _ _ _ _ _ us hl => match us, hl with | [_], _ => rfl
  have D11 : Def K mg "_law_draw" sDraw ["deck", "many"] := def_of X G a11 l11 c11 k11 fun _ _ _ _ _ _ us hl => match us, hl with | [_, _], _ => rfl
  have D12 : Def K mg "_law_pick" sPick ["deck", "items"] := def_of X G a12 l12 c12 k12 fun _ _ _ _ _ _ us hl => match us, hl with | [_, _], _ => rfl
  have D13 : Def K mg "_law_mixed" sMixed ["deck", "items"] := def_of X G a13 l13 c13 k13 fun _ _ _ _ _ _ us hl => match us, hl with | [_, _], _ => rfl
  have D14 : Def K mg "_law_whole" sWhole ["value", "least", "most"] := def_of X G a14 l14 c14 k14 fun _ _ _ _ _ _ us hl => match us, hl with | [_, _, _], _ => rfl
  have D15 : Def K mg "_law_same" sSame ["found", "due"] := def_of X G a15 l15 c15 k15 fun _ _ _ _ _ _ us hl => match us, hl with | [_, _], _ => rfl
  have D16 : Def K mg "_law_any" sAny ["deck", "deep"] := def_of X G a16 l16 c16 k16 fun _ _ _ _ _ _ us hl => match us, hl with | [_, _], _ => rfl
  have D17 : Def K mg "_law_other" sOther ["deck", "item"] := def_of X G a17 l17 c17 k17 fun _ _ _ _ _ _ us hl => match us, hl with | [_, _], _ => rfl
  have D18 : Def K mg "_law_bent" sBent ["deck", "value", "deep"] := def_of X G a18 l18 c18 k18 fun _ _ _ _ _ _ us hl => match us, hl with | [_, _, _], _ => rfl
  have D19 : Def K mg "_law_door" sDoor ["deck", "hands"] := def_of X G a19 l19 c19 k19 fun _ _ _ _ _ _ us hl => match us, hl with | [_, _], _ => rfl
  have D20 : Def K mg "_law_is_row" sLawRow ["hands", "i", "row"] := def_of X G a20 l20 c20 k20 fun _ _ _ _ _ _ us hl => match us, hl with | [_, _, _], _ => rfl
  have D21 : Def K mg "_law_is_order" sLawOrder ["hands", "i", "row"] := def_of X G a21 l21 c21 k21 fun _ _ _ _ _ _ us hl => match us, hl with | [_, _, _], _ => rfl
  have D22 : Def K mg "_law_door_fault" sFault ["hands", "value"] := def_of X G a22 l22 c22 k22 fun _ _ _ _ _ _ us hl => match us, hl with | [_, _], _ => rfl
  have D23 : Def K mg "_law_one_sided" sSided ["deck", "door"] := def_of X G a23 l23 c23 k23 fun _ _ _ _ _ _ us hl => match us, hl with | [_, _], _ => rfl
  have D24 : Def K mg "_law_value" sValue ["deck", "hands"] := def_of X G a24 l24 c24 k24 fun _ _ _ _ _ _ us hl => match us, hl with | [_, _], _ => rfl
  intro a ns len base H s0 en hS
  have C : Blt2 mg := ⟨PySem.W.mg_none_of X G y_all, PySem.W.mg_none_of X G y_sorted, _, PySem.W.mg_of X G cW⟩
  have hW : ∀ (b : Addr) (H : Hp), mg "WORDS" = some (.ref b) → SqT K H b (zsW.map V.str) := fun b H e => by
    have z := (PySem.W.mg_of X G cW).symm.trans e
    cases z
    exact .inr ⟨_, _, _, lW, rfl, rfl, by show 3 ≤ sizeLine; decide, .cons ⟨t1, rfl⟩ (.cons ⟨t2, rfl⟩ (.cons ⟨t3, rfl⟩ .nil))⟩
  have E1 : Dfn l.prog w K mg base "is_integer" ["value"] 1 spInteger := D1.ok fun f fd F => ok_integer F B
  have E2 : Dfn l.prog w K mg base "is_tuple_of" ["value", "many"] 1 spTupleOf := D2.ok fun f fd F => ok_tupleOf F B
  have E3 : Dfn l.prog w K mg base "is_pair_of_tuples" ["value"] 2 spPairT := D3.ok fun f fd F => ok_pairT F B E2
  have E4 : Dfn l.prog w K mg base "is_row" ["hands", "hand", "value"] 2 spRow := D4.ok fun f fd F => ok_row F C hW E2
  have E5 : Dfn l.prog w K mg base "evenness_error" ["table"] 1 spEven := D5.ok fun f fd F => ok_even F B
  have E5b : Dfn l.prog w K mg base "table_error" ["hands", "table"] 3 spTable := D6.ok fun f fd F => ok_table F B E4 E5
  have E5c : Dfn l.prog w K mg base "is_order" ["hands", "hand", "value"] 2 spOrder := D7.ok fun f fd F => ok_order F B C E2 E1
  have E5d : Dfn l.prog w K mg base "orders_error" ["hands", "orders"] 3 spOrders := D8.ok fun f fd F => ok_orders F B E5c
  have E6 : Dfn l.prog w K mg base "door_error" ["hands", "value"] 4 spDoorE := D9.ok fun f fd F => ok_doorE F E3 E5b E5d
  have E7 : Dfn l.prog w K mg base "_law_deck" ["script"] 1 (spDeck K) := D10.ok fun f fd F => ok_deck F B
  have E8 : Dfn l.prog w K mg base "_law_draw" ["deck", "many"] 1 spDraw := D11.ok fun f fd F => ok_draw F B
  have E9 : Dfn l.prog w K mg base "_law_pick" ["deck", "items"] 2 spPick := D12.ok fun f fd F => ok_pick F B E8
  have E9b : Dfn l.prog w K mg base "_law_mixed" ["deck", "items"] 2 spMixed := D13.ok fun f fd F => ok_mixed F B E8
  have E10 : Dfn l.prog w K mg base "_law_whole" ["value", "least", "most"] 1 spWhole := D14.ok fun f fd F => ok_whole F B
  have E11 : Dfn l.prog w K mg base "_law_same" ["found", "due"] 2 (spSame 2) := same_all D15 B 2
  have E12 : Dfn l.prog w K mg base "_law_any" ["deck", "deep"] 5 (spAny 3) := any_all D16 B E8 E9 3
  have E12b : Dfn l.prog w K mg base "_law_any" ["deck", "deep"] 6 (spAny 4) := any_all D16 B E8 E9 4
  have E13 : Dfn l.prog w K mg base "_law_other" ["deck", "item"] 6 spOther := D17.ok fun f fd F => ok_other F B E8 E9 E10 E12
  have E14 : Dfn l.prog w K mg base "_law_bent" ["deck", "value", "deep"] 10 (spBent 4) := bent_all D18 B E8 E13 4
  have E15 : Dfn l.prog w K mg base "_law_door" ["deck", "hands"] 3 spDoor := D19.ok fun f fd F => ok_door F B E9 E9b
  have E16 : Dfn l.prog w K mg base "_law_is_row" ["hands", "i", "row"] 1 spRow := D20.ok fun f fd F => ok_lawRow F B
  have E16b : Dfn l.prog w K mg base "_law_is_order" ["hands", "i", "row"] 2 spOrder := D21.ok fun f fd F => ok_lawOrder F B C E10
  have E17 : Dfn l.prog w K mg base "_law_door_fault" ["hands", "value"] 3 spDoorE := D22.ok fun f fd F => ok_fault F B E16 E16b
  have E17b : Dfn l.prog w K mg base "_law_one_sided" ["deck", "door"] 3 spSided := D23.ok fun f fd F => ok_sided F B E8 E9
  have E18 : Dfn l.prog w K mg base "_law_value" ["deck", "hands"] 11 spValue := D24.ok fun f fd F => ok_value F B E8 E12b E15 E17b E14
  have E6k : KDfn l.prog w K mg base := by
    obtain ⟨fw, fdw, Fw, mw, bw⟩ := D9.ex
    exact ⟨fw, fdw, ok_doorE Fw E3 E5b E5d, mw, Fw.kp, kb_door Fw⟩
  exact law_ok (fun_mk (st := sLaw) l25 c25 k25) B ⟨_, mods⟩ E7 E8 E18 E17 E6 E6k E11 len en hS
end Rw


open PySem PySem.W PyProof.Rows in
set_option maxRecDepth 100000 in
set_option maxHeartbeats 0 in
theorem PySem.Challenge.cw_roomways_k03_what_doors_are_holds : PySem.Challenge.rw_roomways_k03_what_doors_are.Holds := by
  w_on; o_law; x_head; (case hw => w_witness2)
  k_fill
  refine Rw.walks (n := 63) (l := PySem.Challenge.rw_roomways_k03_what_doors_are) rfl (by decide) rfl (fun w h Y => PySem.W.kIn_of Y) ?F
  case F =>
    intro w mg fa h X G hmg
    refine' Rw.all_mk X G hmg ?a1 ?l1 ?c1 ?k1 ?a2 ?l2 ?c2 ?k2 ?a3 ?l3 ?c3 ?k3 ?a4 ?l4 ?c4 ?k4 ?a5 ?l5 ?c5 ?k5 ?a6 ?l6 ?c6 ?k6 ?a7 ?l7 ?c7 ?k7 ?a8 ?l8 ?c8 ?k8 ?a9 ?l9 ?c9 ?k9 ?a10 ?l10 ?c10 ?k10 ?a11 ?l11 ?c11 ?k11 ?a12 ?l12 ?c12 ?k12 ?a13 ?l13 ?c13 ?k13 ?a14 ?l14 ?c14 ?k14 ?a15 ?l15 ?c15 ?k15 ?a16 ?l16 ?c16 ?k16 ?a17 ?l17 ?c17 ?k17 ?a18 ?l18 ?c18 ?k18 ?a19 ?l19 ?c19 ?k19 ?a20 ?l20 ?c20 ?k20 ?a21 ?l21 ?c21 ?k21 ?a22 ?l22 ?c22 ?k22 ?a23 ?l23 ?c23 ?k23 ?a24 ?l24 ?c24 ?k24 ?a25 ?l25 ?c25 ?k25 ?mods ?cW ?lW ?y_all ?y_sorted ?z_abs ?z_int ?z_bool ?z_str ?z_len ?z_isi ?z_enu ?z_rng ?z_list ?z_tup ?z_repr
    (case a1 => k_is)
    (case l1 => k_is)
    (case c1 => k_is)
    (case k1 => k_is)
    (case a2 => k_is)
    (case l2 => k_is)
    (case c2 => k_is)
    (case k2 => k_is)
    (case a3 => k_is)
    (case l3 => k_is)
    (case c3 => k_is)
    (case k3 => k_is)
    (case a4 => k_is)
    (case l4 => k_is)
    (case c4 => k_is)
    (case k4 => k_is)
    (case a5 => k_is)
    (case l5 => k_is)
    (case c5 => k_is)
    (case k5 => k_is)
    (case a6 => k_is)
    (case l6 => k_is)
    (case c6 => k_is)
    (case k6 => k_is)
    (case a7 => k_is)
    (case l7 => k_is)
    (case c7 => k_is)
    (case k7 => k_is)
    (case a8 => k_is)
    (case l8 => k_is)
    (case c8 => k_is)
    (case k8 => k_is)
    (case a9 => k_is)
    (case l9 => k_is)
    (case c9 => k_is)
    (case k9 => k_is)
    (case a10 => k_is)
    (case l10 => k_is)
    (case c10 => k_is)
    (case k10 => k_is)
    (case a11 => k_is)
    (case l11 => k_is)
    (case c11 => k_is)
    (case k11 => k_is)
    (case a12 => k_is)
    (case l12 => k_is)
    (case c12 => k_is)
    (case k12 => k_is)
    (case a13 => k_is)
    (case l13 => k_is)
    (case c13 => k_is)
    (case k13 => k_is)
    (case a14 => k_is)
    (case l14 => k_is)
    (case c14 => k_is)
    (case k14 => k_is)
    (case a15 => k_is)
    (case l15 => k_is)
    (case c15 => k_is)
    (case k15 => k_is)
    (case a16 => k_is)
    (case l16 => k_is)
    (case c16 => k_is)
    (case k16 => k_is)
    (case a17 => k_is)
    (case l17 => k_is)
    (case c17 => k_is)
    (case k17 => k_is)
    (case a18 => k_is)
    (case l18 => k_is)
    (case c18 => k_is)
    (case k18 => k_is)
    (case a19 => k_is)
    (case l19 => k_is)
    (case c19 => k_is)
    (case k19 => k_is)
    (case a20 => k_is)
    (case l20 => k_is)
    (case c20 => k_is)
    (case k20 => k_is)
    (case a21 => k_is)
    (case l21 => k_is)
    (case c21 => k_is)
    (case k21 => k_is)
    (case a22 => k_is)
    (case l22 => k_is)
    (case c22 => k_is)
    (case k22 => k_is)
    (case a23 => k_is)
    (case l23 => k_is)
    (case c23 => k_is)
    (case k23 => k_is)
    (case a24 => k_is)
    (case l24 => k_is)
    (case c24 => k_is)
    (case k24 => k_is)
    (case a25 => k_is)
    (case l25 => k_is)
    (case c25 => k_is)
    (case k25 => k_is)
    (case mods => k_is)
    (case cW => k_is)
    (case lW => k_is)
    (case y_all => k_is)
    (case y_sorted => k_is)
    (case z_abs => k_is)
    (case z_int => k_is)
    (case z_bool => k_is)
    (case z_str => k_is)
    (case z_len => k_is)
    (case z_isi => k_is)
    (case z_enu => k_is)
    (case z_rng => k_is)
    (case z_list => k_is)
    (case z_tup => k_is)
    (case z_repr => k_is)
