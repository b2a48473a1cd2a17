import PyProof.Rows.All
import Wide.All
import OpenK.AllK
import Wide.FinOn
import KE.SortData
import HandS.ForMost
import KE.KeyNested
import HandS.Conv
import HandS.Deep
import HandS.DictComp
import HandS.Ends
import HandS.Words
import HandS.More
import HandS.RaiseMore
import HandS.Evl
import HandS.IsInst
import HandS.Wide
import HandS.Gcd
import HandS.Flow
import HandS.TupAny
import KE.DatumOrd
import HandS.Defaults
import PyProof.Rows.StrMeet
import HandS.Text
import PyProof.Rows.RegStrFacts
import PyProof.ReprLen
import HandS.Style
import KE.KStateDown
import Lean
import HandS.Base
import HandS.Call
import HandS.Head0
import HandS.Head1
import HandS.Head2
import HandS.Head3
import HandS.HeadHook1
import HandS.HeadHook2
import HandS.HeadHook3
import HandS.HeadHook4
import PySem.Challenge.RW_ratesay_k00_forms_of_polynomials
section
set_option Elab.async false
set_option linter.all false
set_option maxRecDepth 100000
set_option maxHeartbeats 4000000
/-! sorting of data among which the empty tuple may stand; by an AI agent -/
namespace RX
open PySem PySem.W PySem.Calls PyProof.Rows SeqAt
section
variable {prog : Program} {w : World} {A : Around} {E : Value → Shared → Prop} {s : Shared}

theorem call_tuple_lt {Q : Value → Shared → Prop} {l b : Addr} {items items2 : Array Value} {e r : Nat → Bool} (hl : s.heap.IsTuple l items) (hb : s.heap.IsTuple b items2)
    (he : ∀ j (h1 : j < items.size) (h2 : j < items2.size), EqAt A.in1 s items[j] items2[j] (e j)) (hr : ∀ j (h1 : j < items.size) (h2 : j < items2.size), e j = false → RcLt A.in1 s items[j] items2[j] (r j))
    (h : Q (.bool (firstLt e r (decide (items.size < items2.size)) (List.range (min items.size items2.size)))) s) : wpAny (model prog w) A (call (.builtin "tuple.__lt__") [.ref l, .ref b]) Q E s := by
  obtain ⟨⟨cls, dd, data, sl⟩, ho, hc, n, hd⟩ := id hl
  obtain ⟨⟨cls2, dd2, data2, sl2⟩, ho2, hc2, n2, hd2⟩ := id hb
  simp only at hc hd hc2 hd2
  subst hc hd hc2 hd2
  exact call_meets F.slot_tuple_lt ⟨_, ho, rfl⟩ F.entry_tuple_lt (F.args_tuple_lt_2 _ _) (tuple_ltAt l b items items2 n n2 dd dd2 sl sl2 e r) ⟨ho, ho2, he, hr, h⟩

/-- one tuple against another, both of one type -/
theorem oneLt_tuple {xs ys : List PyData} {a b : Value} {as bs : List Addr} {Q : Bool → Shared → Prop} (ra : Reads s.heap a (.tuple xs) as) (rb : Reads s.heap b (.tuple ys) bs) (hal : alikeAll xs ys = true)
    (hu : A.units + min (PyData.tuple xs).depth (PyData.tuple ys).depth < cLine) (hq : Q (dataLt (.tuple xs) (.tuple ys)) s) : wpAny (model prog w) A (oneLt' true a b) Q E s := by
  cases ra with
  | @tuple l o vs n _ as₁ h1 h2 h3 h4 =>
    cases rb with
    | @tuple l' o' vs' n' _ bs₁ k1 k2 k3 k4 =>
      have n1 : vs.size = xs.length := by simpa using ReadsAll.length _ _ _ h4
      have n2 : vs'.size = ys.length := by simpa using ReadsAll.length _ _ _ k4
      rw [dataLt_tuple, ← firstLt_toks xs ys hal, ← n1, ← n2] at hq
      rw [oneLt'_eq]
      simp only [if_true]
      refine wpAny_bind (wpAny_cRoomFor (room_here hu) ?_)
      refine wpAny_bind (wpAny_callSpecialIfBound?_slot (T := "tuple") ⟨_, h1, h2⟩ F.slot_tuple_lt (call_tuple_lt (e := pairEq xs ys) (r := fun j => dataLt (xs.getD j .none) (ys.getD j .none)) ⟨_, h1, h2, _, h3⟩ ⟨_, k1, k2, _, k3⟩ (fun j j1 j2 => ?_) (fun j j1 j2 hj => ?_) ?_))
      · have := eqAt_alikeAll xs ys A.in1 s vs.toList vs'.toList _ _ h4 k4 hal (room_in hu) j (by simpa using j1) (by simpa using j2)
        simpa using this
      · have := rcLt_alikeAll xs ys A.in1 s vs.toList vs'.toList _ _ h4 k4 hal (room_in hu) j (by simpa using j1) (by simpa using j2) hj
        simpa using this
      · exact wpAny_truthy_bool hq

theorem keyLt'_general (x y : Value) : keyLt' general' x y = oneLt' false x y := rfl

/-- the first items of tuples, none of an empty one -/
def TupsAt (h : Heap) : List Value → List (Option Value) → Prop
  | [], [] => True
  | v :: vs, f :: fs => (∃ a o xs n, v = .ref a ∧ h.get? a = some o ∧ o.cls = .type "tuple" ∧ o.data = .seq xs n ∧ xs[0]? = f) ∧ TupsAt h vs fs
  | _, _ => False
theorem tups_firsts {M : Model} : ∀ (vs : List Value) (fs : List (Option Value)) {Q : List (Option Value) → Shared → Prop}, TupsAt s.heap vs fs → Q fs s → wpAny M A (vs.mapM firstOfTuple') Q E s
  | [], [], _, _, h => by rw [List.mapM_nil]; exact wpAny_pure h
  | [], _ :: _, _, t, _ => t.elim
  | _ :: _, [], _, t, _ => t.elim
  | v :: vs, f :: fs, Q, t, h => by
    obtain ⟨⟨a, o, xs, n, rfl, ho, hc, hd, hf⟩, t⟩ := t
    rw [List.mapM_cons]
    refine wpAny_bind ?_
    rw [kas_first_eq]
    refine wpAny_bind (Looks.here (show Looks M s.heap (typeOf (.ref a)) o.cls from (Looks.ld ho).andThen .now) ?_)
    rw [hc, if_neg (by first | decide | simp)]
    refine wpAny_bind (listItems_at ho hd (wpAny_pure ?_))
    rw [hf]
    exact wpAny_bind (tups_firsts vs fs (Q := fun bs s' => wpAny M A (pure (f :: bs)) Q E s') t (wpAny_pure h))

theorem each_tups {h : Heap} : ∀ {vs : List Value} {ds : List PyData}, EachIs (fun v d => ∃ as, Reads h v d as) vs ds → (∀ d, d ∈ ds → ∃ r, d = .tuple r) → ∃ fs, TupsAt h vs fs ∧ fs.length = vs.length ∧ (∀ x, fs.head? = some x → x.isSome = true → ∃ y r, ds.head? = some (.tuple (y :: r))) ∧
    ((fs.all fun x => x.isSome) = true → ∀ d, d ∈ ds → ∃ x r, d = .tuple (x :: r))
  | _, _, .nil, _ => ⟨[], trivial, rfl, (fun x h => by cases h), (fun _ d hd => by cases hd)⟩
  | _, _, .cons (b := d) ⟨as, r⟩ t, ht => by
    obtain ⟨fs, h1, h2, h3, h4⟩ := each_tups t fun d hd => ht d (List.mem_cons_of_mem _ hd)
    obtain ⟨rest, rfl⟩ := ht d (List.mem_cons_self ..)
    cases r with
    | @tuple a o xs n _ _ ho hc hd hr =>
      refine ⟨xs[0]? :: fs, ⟨⟨a, o, xs, n, rfl, ho, hc, hd, rfl⟩, h1⟩, by rw [List.length_cons, List.length_cons, h2], fun x hx hs => ?_, fun ha d hd' => ?_⟩
      · cases hx
        cases q : rest with
        | nil =>
          rw [q] at hr
          cases hq : xs.toList with
          | nil =>
            have : xs[0]? = none := by rw [← Array.getElem?_toList, hq]; rfl
            rw [this] at hs; cases hs
          | cons f fr => rw [hq] at hr; cases hr
        | cons y r => exact ⟨y, r, rfl⟩
      · rw [List.all_cons, Bool.and_eq_true] at ha
        rcases List.mem_cons.mp hd' with rfl | hd'
        · cases q : rest with
          | nil =>
            rw [q] at hr
            cases hq : xs.toList with
            | nil =>
              have : xs[0]? = none := by rw [← Array.getElem?_toList, hq]; rfl
              rw [this] at ha; exact absurd ha.1 (by simp)
            | cons f fr => rw [hq] at hr; cases hr
          | cons y r => exact ⟨y, r, rfl⟩
        · exact h4 ha.2 d hd'

/-- values that read as tuples of alike data can be sorted, the empty tuple among them too -/
theorem sortsAt_tuples {vs : List Value} {ds : List PyData} (e : EachIs (fun v d => ∃ as, Reads s.heap v d as) vs ds) (hal : AllAlike ds) (ht : ∀ d, d ∈ ds → ∃ r, d = .tuple r) (hu : ∀ d, d ∈ ds → A.units + d.depth < cLine) : SortsAt prog w A s (dataKind s.heap ds) vs := by
  obtain ⟨fs, t1, t2, t3, t4⟩ := each_tups e ht
  by_cases hall : (fs.all fun x => x.isSome) = true
  · exact SortsAt.data e hal (.inl (t4 hall)) hu
  have room : ∀ {d d' : PyData}, d ∈ ds → A.units + min d.depth d'.depth < cLine := fun {d d'} hd => Nat.lt_of_le_of_lt (Nat.add_le_add_left (Nat.min_le_left _ _) _) (hu d hd)
  refine ⟨fun v hv => ?_, ?_⟩
  · obtain ⟨d, hd, as, r⟩ := e.left v hv
    exact ⟨_, dataKind_some hal hd r⟩
  have gen : H.LtAt prog w A s (dataKind s.heap ds) general' := by
    intro E x y a b Q ha hb hq
    obtain ⟨d, as, hd, ra, rfl⟩ := dataKind_inv ha
    obtain ⟨d', as', hd', rb, rfl⟩ := dataKind_inv hb
    rw [keyLt'_general]
    refine oneLt_alike (fun z => by cases z) ra rb (hal d hd d' hd') (fun z => ?_) (room hd) hq
    obtain ⟨r, q⟩ := ht d hd
    rw [z] at q; cases q
  have one : H.LtAt prog w A s (dataKind s.heap ds) oneType' := by
    intro E x y a b Q ha hb hq
    obtain ⟨d, as, hd, ra, rfl⟩ := dataKind_inv ha
    obtain ⟨d', as', hd', rb, rfl⟩ := dataKind_inv hb
    obtain ⟨r, rfl⟩ := ht d hd
    obtain ⟨r', rfl⟩ := ht d' hd'
    rw [keyLt'_oneType]
    exact oneLt_tuple ra rb (by simpa [alike] using hal _ hd _ hd') (room hd) hq
  have kind : ∀ {Q : SortKind → Shared → Prop} (E : Value → Shared → Prop), 2 ≤ vs.length → ((fs.head?.bind id).isSome = true → Q general' s) → ((fs.head?.bind id).isSome = false → Q oneType' s) → wpAny (model prog w) A (keyKind' vs.toArray) Q E s := by
    intro Q E h2 q1 q2
    rw [keyKind'_eq, List.mapM_toArray, map_eq_pure_bind]
    refine wpAny_bind (wpAny_bind (tups_firsts vs fs t1 (wpAny_pure ?_)))
    have h0 : (fs.toArray[0]?) = fs.head? := by
      cases fs <;> rfl
    rw [if_neg (by rw [List.all_toArray]; exact hall), h0]
    by_cases hh : (fs.head?.bind id).isSome = true
    · rw [if_pos hh]
      exact wpAny_pure (q1 hh)
    · rw [if_neg hh]
      rw [oneTypeOnly'_eq, List.mapM_toArray, map_eq_pure_bind]
      refine wpAny_bind (wpAny_bind (wpAny_bind (kas_mapM (r := Value.type "tuple") _ (fun v hv Q' hq => ?_) (wpAny_pure ?_))))
      · obtain ⟨d, hd, as, r⟩ := e.left v hv
        obtain ⟨r', rfl⟩ := ht d hd
        exact (looks_reads r).here hq
      · have hall2 : ((List.map (fun _ => Value.type "tuple") vs).toArray.all fun x => x == Value.type "tuple") = true := by
          simp only [List.all_toArray, List.all_map, List.all_eq_true]
          intro _ _
          exact beq_self_eq_true _
        have h1 : (List.map (fun _ => Value.type "tuple") vs).toArray[0]? = some (Value.type "tuple") := by
          cases vs with
          | nil => simp at h2
          | cons v r => simp
        rw [h1]
        simp only [hall2, if_true]
        exact wpAny_pure (wpAny_pure (q2 (by simpa using hh)))
  by_cases hh : (fs.head?.bind id).isSome = true
  · exact ⟨general', gen, fun h2 E Q hq => kind E h2 (fun _ => hq) fun z => by rw [hh] at z; cases z⟩
  · exact ⟨oneType', one, fun h2 E Q hq => kind E h2 (fun z => absurd z hh) fun _ => hq⟩

/-- what may be sorted: tuples, or neither tuples nor None -/
def Sorts (ds : List PyData) : Prop := (∀ d, d ∈ ds → ∃ r, d = .tuple r) ∨ ∀ d, d ∈ ds → d ≠ .none ∧ ∀ xs, d ≠ .tuple xs
theorem sortsAt {vs : List Value} {ds : List PyData} (e : EachIs (fun v d => ∃ as, Reads s.heap v d as) vs ds) (hal : AllAlike ds) (hk : Sorts ds) (hu : ∀ d, d ∈ ds → A.units + d.depth < cLine) : SortsAt prog w A s (dataKind s.heap ds) vs := by
  rcases hk with h | h
  · exact sortsAt_tuples e hal h hu
  · exact SortsAt.data e hal (.inr h) hu

variable {β : Type} {vs : List Value} {bs : List β} {enc : β → PyData} {R : Value → β → Prop}
/-- sorted(xs) -/
theorem sorted_any {l : Addr} {Q : Value → Shared → Prop} (hl : s.heap.IsList l vs.toArray) (e : EachIs R vs bs) (er : EachIs (fun v b => ∃ as, Reads s.heap v (enc b) as) vs bs) (hal : AllAlike (bs.map enc)) (hk : Sorts (bs.map enc)) (hL : bs.length ≤ sizeLine)
    (hu : ∀ b, b ∈ bs → A.units + 2 + (enc b).depth < cLine) (h : ∀ out, out.length = bs.length → EachIs R out (bs.mergeSort (dataLe false enc)) → Q (.ref (s.heap.objs.size + 1)) { s with heap := sortedAll s.heap vs (List.toArray out) }) :
    wpAny (model prog w) A (call (.builtin "sorted") [.ref l]) Q E s := by
  have er' : EachIs (fun v b => ∃ as, Reads (sortingHeap (copyHeap s.heap vs) (s.heap.objs.size + 1) vs) v (enc b) as) vs bs := er.mono fun _ _ ⟨as, r⟩ => ⟨as, PyProof.Rows.Reads.keeps (fun _ _ => sorting_copy_old) r⟩
  exact sorted_vals hl (sortsAt (s := { s with heap := sortingHeap (copyHeap s.heap vs) (s.heap.objs.size + 1) vs }) (each_map (R := fun v d => ∃ as, Reads (sortingHeap (copyHeap s.heap vs) (s.heap.objs.size + 1) vs) v d as) enc er') hal hk (bound_map hu)) (by rw [e.length]; exact hL)
    (h _ (by rw [sortVals_length false rfl]; exact e.length) (sortVals_data false e er' hal))
end
end RX
end

section
set_option Elab.async false
set_option linter.all false
set_option maxRecDepth 100000
set_option maxHeartbeats 4000000
/-! dicts whose keys are tuples of any depth, over the layer; by an AI agent -/
namespace RX
open PySem PySem.Spec PyProof.Rows L2

/-! ### keys as data -/
theorem nk_data_tup (ks : List NestedKey) : NestedKey.data (.tup ks) = .tuple (NestedKey.datas ks) := by rw [NestedKey.data]
section
variable {X : Cx} {pins : List (Addr × Obj)} {σ : L2.St} {H : Hp} {s : Shared}
mutual
theorem nested_of (I : Inv X pins σ H s) : ∀ (k : NestedKey) (v : V) (u : Value), Dp X.K H v k.data → RelV v u → NestedIs s.heap k u
  | .none, _, _, h, r => by
    rw [NestedKey.data] at h
    cases h
    cases r
    exact .none
  | .num i, _, _, h, r => by
    rw [NestedKey.data] at h
    cases h
    obtain ⟨t, rfl⟩ := r
    exact .int i t
  | .text x, _, _, h, r => by
    rw [NestedKey.data] at h
    cases h
    obtain ⟨t, rfl⟩ := r
    exact .text x t
  | .tup ks, _, _, h, r => by
    rw [NestedKey.data] at h
    cases h with
    | tup hs ha =>
      cases r
      obtain ⟨its, rv, ⟨o, ho, hc, n, hd⟩, _⟩ := I.tuple hs
      exact .tup ho hc hd (nested_all I ks _ its ha rv)
theorem nested_all (I : Inv X pins σ H s) : ∀ (ks : List NestedKey) (vs : List V) (us : List Value), DpAll X.K H vs (NestedKey.datas ks) → Vals vs us → NestedAll s.heap ks us
  | [], _, _, h, r => by
    rw [NestedKey.datas] at h
    cases h
    cases r
    exact .nil
  | k :: ks, _, _, h, r => by
    rw [NestedKey.datas] at h
    cases h with
    | cons h1 h2 =>
      cases r with
      | cons r1 r2 => exact .cons (nested_of I k _ _ h1 r1) (nested_all I ks _ _ h2 r2)
end
end

/-! ### the dict -/
/-- key, where its tuple stands, value -/
abbrev Ent := NestedKey × Addr × V
def entAt (kvs : List Ent) (k : NestedKey) : Option (Addr × V) := (kvs.find? fun e => decide (e.1 = k)).map (·.2)
def entPut (kvs : List Ent) (k : NestedKey) (b : Addr) (v : V) : List Ent := if (entAt kvs k).isSome = true then kvs.map (fun e => if e.1 = k then (e.1, e.2.1, v) else e) else kvs ++ [(k, b, v)]
def entDrop (kvs : List Ent) (k : NestedKey) : List Ent := kvs.filter fun e => decide (e.1 ≠ k)
theorem entAt_nil {k : NestedKey} : entAt [] k = none := rfl
theorem entAt_pos {e : Ent} {r : List Ent} {k : NestedKey} (h : e.1 = k) : entAt (e :: r) k = some e.2 := by simp [entAt, List.find?_cons, h]
theorem entAt_neg {e : Ent} {r : List Ent} {k : NestedKey} (h : ¬ e.1 = k) : entAt (e :: r) k = entAt r k := by simp [entAt, List.find?_cons, h]
theorem entPut_len (kvs : List Ent) (k : NestedKey) (b : Addr) (v : V) : (entPut kvs k b v).length ≤ kvs.length + 1 := by
  unfold entPut
  split
  · rw [List.length_map]; omega
  · rw [List.length_append, List.length_cons, List.length_nil]; omega
theorem entDrop_len (kvs : List Ent) (k : NestedKey) : (entDrop kvs k).length ≤ kvs.length := List.length_filter_le _ _

abbrev Same3 : List Ent → List (NestedKey × Addr × Value) → Prop := Paired fun p q => p.1 = q.1 ∧ p.2.1 = q.2.1 ∧ RelV p.2.2 q.2.2
theorem Same3.at {kvs : List Ent} {xs : List (NestedKey × Addr × Value)} (r : Same3 kvs xs) (k : NestedKey) :
    (entAt kvs k = none ∧ atKey xs k = none) ∨ ∃ b v u, entAt kvs k = some (b, v) ∧ atKey xs k = some (b, u) ∧ RelV v u := by
  induction r with
  | nil => exact .inl ⟨rfl, rfl⟩
  | @cons p q ps qs h t ih =>
    obtain ⟨h1, h2, h3⟩ := h
    by_cases e : p.1 = k
    · have e' : q.1 = k := h1.symm.trans e
      have b : atKey (q :: qs) k = some q.2 := by simp [atKey, List.find?_cons, e']
      refine .inr ⟨p.2.1, p.2.2, q.2.2, entAt_pos e, ?_, h3⟩
      rw [b, h2]
    · have e' : ¬ q.1 = k := fun z => e (h1.trans z)
      have b : atKey (q :: qs) k = atKey qs k := by simp [atKey, List.find?_cons, e']
      rw [entAt_neg e, b]; exact ih
theorem Same3.put {kvs : List Ent} {xs : List (NestedKey × Addr × Value)} (r : Same3 kvs xs) (k : NestedKey) {b : Addr} {y : V} {u : Value} (ry : RelV y u) : Same3 (entPut kvs k b y) (storedH xs k b u) := by
  have repl : Same3 (kvs.map fun e => if e.1 = k then (e.1, e.2.1, y) else e) (xs.map (putAt k u)) := by
    clear b
    induction r with
    | nil => exact .nil
    | @cons p q ps qs h t ih =>
      rw [List.map_cons, List.map_cons]
      refine .cons ?_ ih
      obtain ⟨h1, h2, h3⟩ := h
      unfold putAt
      by_cases e : p.1 = k
      · rw [if_pos e, if_pos (h1.symm.trans e)]; exact ⟨h1, h2, ry⟩
      · rw [if_neg e, if_neg (fun z => e (h1.trans z))]; exact ⟨h1, h2, h3⟩
  unfold entPut storedH
  rcases r.at k with ⟨e1, e2⟩ | ⟨c, v, w', e1, e2, _⟩
  · rw [e1, e2]; exact Paired.snoc r ⟨rfl, rfl, ry⟩
  · rw [e1, e2]; exact repl
theorem Same3.drop {kvs : List Ent} {xs : List (NestedKey × Addr × Value)} (r : Same3 kvs xs) (k : NestedKey) : Same3 (entDrop kvs k) (withoutH xs k) := by
  unfold entDrop withoutH
  induction r with
  | nil => exact .nil
  | @cons p q ps qs h t ih =>
    rw [List.filter_cons, List.filter_cons]
    by_cases e : p.1 = k
    · rw [if_neg (by simp [e]), if_neg (by simp [← h.1, e])]; exact ih
    · rw [if_pos (by simp [e]), if_pos (by simp [← h.1, e])]; exact .cons h ih

section
variable (P : Program) (w : World)
/-- what is true of the heap where the dict at a has these entries -/
def DD (a : Addr) (kvs : List Ent) : Heap → Prop := fun h => kvs.length ≤ sizeLine ∧ (a == sysModules) = false ∧ ∃ xs : List (NestedKey × Addr × Value), Same3 kvs xs ∧
  ∃ o es ep, h.get? a = some o ∧ o.ExactDict ∧ o.data = .dict es ep ∧ es.toList = xs.map (entryOfKey (nestedKind P w)) ∧ (xs.map (·.1)).Nodup
end
abbrev HD (P : Program) (w : World) (a : Addr) (kvs : List Ent) : HO := .ext (DD P w a kvs)
/-- the keys of the entries stand where they are said to stand -/
def KeysOk (K : PySem.W.Frag) (H : Hp) (kvs : List Ent) : Prop := ∀ e ∈ kvs, Dp K H (.ref e.2.1) e.1.data ∧ e.1.depth ≤ 8
theorem DD.stable {P : Program} {w : World} {a : Addr} {kvs : List Ent} : ∀ h1 h2 : Heap, DD P w a kvs h1 → (∀ o, h1.get? a = some o → h2.get? a = some o) → DD P w a kvs h2 := by
  rintro h1 h2 ⟨z, y, xs, r, o, es, ep, e, c⟩ k
  exact ⟨z, y, xs, r, o, es, ep, k _ e, c⟩
theorem dd_new {P : Program} {w : World} {H' : Hp} {h' : Heap} {a : Addr} {kvs : List Ent} {xs : List (NestedKey × Addr × Value)} (z : kvs.length ≤ sizeLine) (hd : (a == sysModules) = false) (rel : Same3 kvs xs) (dd : h'.DictOfH (nestedKind P w) a xs) :
    ObjOk P w H' h' a (HD P w a kvs) := by
  obtain ⟨o, es, ep, h1, h2, h3, h4, _, h5⟩ := dd
  exact ⟨⟨z, hd, xs, rel, o, es, ep, h1, h2, h3, h4, h5⟩, ⟨o, h1⟩, DD.stable⟩

section
variable {X : Cx} {pins : List (Addr × Obj)} {σ : L2.St} {H : Hp} {s : Shared} {a b : Addr} {kvs : List Ent} {k : NestedKey}
theorem keys_is (I : Inv X pins σ H s) (ko : KeysOk X.K H kvs) {xs : List (NestedKey × Addr × Value)} (r : Same3 kvs xs) : ∀ x ∈ xs, (nestedKind X.prog X.w).is s.heap x.1 x.2.1 := by
  induction r with
  | nil => intro x hx; exact nomatch hx
  | @cons p q ps qs hq t ih =>
    intro x hx
    rcases List.mem_cons.mp hx with e | hx
    · subst e
      obtain ⟨h1, h2⟩ := ko p List.mem_cons_self
      rw [← hq.1, ← hq.2.1]
      exact ⟨nested_of I _ _ _ h1 rfl, h2⟩
    · exact ih (fun e he => ko e (List.mem_cons_of_mem _ he)) x hx
/-- the dict at a, in the model's own words -/
theorem dd_rd (I : Inv X pins σ H s) (e : Rd H a (HD X.prog X.w a kvs)) (ko : KeysOk X.K H kvs) : kvs.length ≤ sizeLine ∧ (a == sysModules) = false ∧ ∃ xs, Same3 kvs xs ∧ s.heap.DictOfH (nestedKind X.prog X.w) a xs := by
  obtain ⟨⟨z, y, xs, r, o, es, ep, h1, h2, h3, h4, h5⟩, _, _⟩ := (show ObjOk X.prog X.w H s.heap a (HD X.prog X.w a kvs) from rd_of I.hok e)
  exact ⟨z, y, xs, r, o, es, ep, h1, h2, h3, h4, keys_is I ko r, h5⟩
theorem key_at (I : Inv X pins σ H s) (hk : Dp X.K H (.ref b) k.data) (hd : k.depth ≤ 8) : (nestedKind X.prog X.w).is s.heap k b := ⟨nested_of I _ _ _ hk rfl, hd⟩
theorem room9 {A : Around} (hu : A.units + 9 < cLine) {P : Program} {w : World} : (nestedKind P w).room A.in1 := by
  show A.units + 1 + 8 < cLine
  omega

variable {A : Around} {E : Value → Shared → Prop} {v : V} {u r : Value}
theorem n_getItem {Q : Value → Shared → Prop} (hu : A.units + 9 < cLine) (I : Inv X pins σ H s) (e : Rd H a (HD X.prog X.w a kvs)) (ko : KeysOk X.K H kvs) (hk : Dp X.K H (.ref b) k.data) (hd : k.depth ≤ 8) {c : Addr} (l : entAt kvs k = some (c, v))
    (h : ∀ w' s', Inv X pins σ H s' → RelV v w' → Q w' s') : wpAny (model X.prog X.w) A (getItem (.ref a) (.ref b)) Q E s := by
  obtain ⟨z, hs, xs, rel, dd⟩ := dd_rd I e ko
  rcases rel.at k with ⟨e1, e2⟩ | ⟨c', v', u', e1, e2, r'⟩
  · rw [l] at e1; cases e1
  · rw [l] at e1
    obtain ⟨rfl, rfl⟩ := Prod.mk.inj (Option.some.inj e1)
    exact wpAny_getItem_heap (room9 hu) (key_at I hk hd) dd e2 (h u' _ (I.tok _) r')
theorem n_in {Q : Value → Shared → Prop} (hu : A.units + 9 < cLine) (I : Inv X pins σ H s) (e : Rd H a (HD X.prog X.w a kvs)) (ko : KeysOk X.K H kvs) (hk : Dp X.K H (.ref b) k.data) (hd : k.depth ≤ 8)
    (h : ∀ s', Inv X pins σ H s' → Q (.bool (entAt kvs k).isSome) s') : wpAny (model X.prog X.w) A (compareOp .In (.ref b) (.ref a)) Q E s := by
  obtain ⟨z, hs, xs, rel, dd⟩ := dd_rd I e ko
  refine wpAny_in_heap (room9 hu) (key_at I hk hd) hs dd ?_
  have q : (atKey xs k).isSome = (entAt kvs k).isSome := by
    rcases rel.at k with ⟨e1, e2⟩ | ⟨c', v', u', e1, e2, r'⟩
    · rw [e1, e2]; rfl
    · rw [e1, e2]; rfl
  rw [q]
  exact h _ (I.tok _)
theorem n_get2 {Q : Value → Shared → Prop} {d : V} (hu : A.units + 9 < cLine) (I : Inv X pins σ H s) (e : Rd H a (HD X.prog X.w a kvs)) (ko : KeysOk X.K H kvs) (hk : Dp X.K H (.ref b) k.data) (hd : k.depth ≤ 8) (rd : RelV d r)
    (h : ∀ w' s', Inv X pins σ H s' → RelV (((entAt kvs k).map (·.2)).getD d) w' → Q w' s') : wpAny (model X.prog X.w) A (call (.builtin "dict.get") [.ref a, .ref b, r]) Q E s := by
  obtain ⟨z, hs, xs, rel, dd⟩ := dd_rd I e ko
  refine call_meetsIn PySem.F.slot_dict_get dd.typeIs PySem.F.entry_dict_get (PySem.F.args_dict_get_3 _ _ _) (meetsH_dict_get_default (nestedKind X.prog X.w) a b hs r) ⟨room9 hu, k, xs, key_at I hk hd, dd, h _ _ (I.tok _) ?_⟩
  rcases rel.at k with ⟨e1, e2⟩ | ⟨c', v', u', e1, e2, r'⟩
  · rw [e1, e2]; exact rd
  · rw [e1, e2]; exact r'
theorem n_setItem {Q : Unit → Shared → Prop} (hu : A.units + 9 < cLine) (I : Inv X pins σ H s) (e : H a = some (HD X.prog X.w a kvs)) (ko : KeysOk X.K H kvs) (hk : Dp X.K H (.ref b) k.data) (hd : k.depth ≤ 8) (hl : kvs.length < sizeLine) (rv : RelV v r)
    (h : ∀ s', Inv X pins σ (upd H a (HD X.prog X.w a (entPut kvs k b v))) s' → Q () s') : wpAny (model X.prog X.w) A (setItem (.ref a) (.ref b) r) Q E s := by
  obtain ⟨z, hs, xs, rel, dd⟩ := dd_rd I (.inl e) ko
  have hz : xs.length ≤ sizeLine := by rw [← Paired.length rel]; exact z
  refine wpAny_setItem_heap (hsz := hz) (room9 hu) (key_at I hk hd) dd fun h' dd' hs' => h _ ?_
  have hl' : (entPut kvs k b v).length ≤ sizeLine := by have := entPut_len kvs k b v; omega
  obtain ⟨q, _, _, hq, _⟩ := id dd'
  exact d_write I (by rw [e]; exact True.intro) hs' ⟨q, hq⟩ (dd_new hl' hs (rel.put k rv) dd')
theorem n_pop {Q : Value → Shared → Prop} (hu : A.units + 9 < cLine) (I : Inv X pins σ H s) (e : H a = some (HD X.prog X.w a kvs)) (ko : KeysOk X.K H kvs) (hk : Dp X.K H (.ref b) k.data) (hd : k.depth ≤ 8) {c : Addr} (l : entAt kvs k = some (c, v))
    (h : ∀ w' s', Inv X pins σ (upd H a (HD X.prog X.w a (entDrop kvs k))) s' → RelV v w' → Q w' s') : wpAny (model X.prog X.w) A (call (.builtin "dict.pop") [.ref a, .ref b]) Q E s := by
  obtain ⟨z, hs, xs, rel, dd⟩ := dd_rd I (.inl e) ko
  have hz : xs.length ≤ sizeLine := by rw [← Paired.length rel]; exact z
  rcases rel.at k with ⟨e1, e2⟩ | ⟨c', v', u', e1, e2, r'⟩
  · rw [l] at e1; cases e1
  · rw [l] at e1
    obtain ⟨rfl, rfl⟩ := Prod.mk.inj (Option.some.inj e1)
    refine call_pop_heap (hsz := hz) (more := []) (.inl rfl) (PySem.F.args_dict_pop_2 _ _) (room9 hu) (key_at I hk hd) hs dd e2 fun h' dd' hs' => h u' _ ?_ r'
    obtain ⟨q, _, _, hq, _⟩ := id dd'
    exact d_write I (by rw [e]; exact True.intro) hs' ⟨q, hq⟩ (dd_new (Nat.le_trans (entDrop_len kvs k) z) hs (rel.drop k) dd')
end

/-! ### the forms -/
def NGet (P : Program) (w : World) (K : PySem.W.Frag) (H : Hp) (a : Addr) (y : V) (kvs : List Ent) (k : NestedKey) : Prop :=
  ∃ b, y = .ref b ∧ Rd H a (HD P w a kvs) ∧ KeysOk K H kvs ∧ Dp K H (.ref b) k.data ∧ k.depth ≤ 8
def tNGet (P : Program) (w : World) (K : PySem.W.Frag) (td ty : TE) : TE := fun σ H Q => td σ H fun x H1 => ty σ H1 fun y H2 => ∃ a kvs k c v, x = .ref a ∧ NGet P w K H2 a y kvs k ∧ entAt kvs k = some (c, v) ∧ Q v H2
def tNIn (P : Program) (w : World) (K : PySem.W.Frag) (ty td : TE) : TE := fun σ H Q => ty σ H fun y H1 => td σ H1 fun x H2 => ∃ a kvs k, x = .ref a ∧ NGet P w K H2 a y kvs k ∧ Q (.bl (entAt kvs k).isSome) H2
def sNPut (P : Program) (w : World) (K : PySem.W.Frag) (td ty tv : TE) : TS := fun D σ H => tv σ H fun v H1 => td σ H1 fun x H2 => ty σ H2 fun y H3 => ∃ a kvs k b, x = .ref a ∧ y = .ref b ∧ H3 a = some (HD P w a kvs) ∧ KeysOk K H3 kvs ∧
  Dp K H3 (.ref b) k.data ∧ k.depth ≤ 8 ∧ kvs.length < sizeLine ∧ D.nx σ (upd H3 a (HD P w a (entPut kvs k b v)))
def IsN (P : Program) (w : World) (H : Hp) (a : Addr) : Prop := ∃ kvs, Rd H a (HD P w a kvs)
def tNGet2 (P : Program) (w : World) (K : PySem.W.Frag) (td ty tx : TE) : TE := fun σ H Q => td σ H fun x H1 => ∃ a, x = .ref a ∧ IsN P w H1 a ∧ ty σ H1 fun y H2 => tx σ H2 fun z H3 => ∃ kvs k, NGet P w K H3 a y kvs k ∧ Q (((entAt kvs k).map (·.2)).getD z) H3
def tNPop (P : Program) (w : World) (K : PySem.W.Frag) (td ty : TE) : TE := fun σ H Q => td σ H fun x H1 => ∃ a, x = .ref a ∧ IsN P w H1 a ∧ ty σ H1 fun y H2 => ∃ kvs k b c v, y = .ref b ∧ H2 a = some (HD P w a kvs) ∧ KeysOk K H2 kvs ∧
  Dp K H2 (.ref b) k.data ∧ k.depth ≤ 8 ∧ entAt kvs k = some (c, v) ∧ Q v (upd H2 a (HD P w a (entDrop kvs k)))
section
variable {X : Cx} {pins : List (Addr × Obj)} {σ : L2.St} {H : Hp} {s : Shared} {a : Addr}
theorem isN_at (I : Inv X pins σ H s) (d : IsN X.prog X.w H a) : s.TypeIs (.ref a) "dict" ∧ (∀ b, Value.ref a = .ref b → ∃ ob, s.heap.get? b = some ob ∧ ob.dict = none) ∧ (a == sysModules) = false := by
  obtain ⟨kvs, e⟩ := d
  obtain ⟨⟨z, y, xs, r, o, es, ep, h1, h2, h3, h4, h5⟩, _, _⟩ := (show ObjOk X.prog X.w H s.heap a (HD X.prog X.w a kvs) from rd_of I.hok e)
  refine ⟨⟨o, h1, h2.1⟩, fun b q => ?_, y⟩
  cases q
  exact ⟨o, h1, h2.2.1⟩
end
section
variable {X : Cx} {o i e f value : Expr} {pos pos' apos cpos : Pos} {td ty tx tv : TE}
theorem pe_nget (hu : X.A.units + 9 < cLine) (ho : PE X o td) (hi : PE X i ty) (hs : NoSl i) : PE X (.Subscript o i pos) (tNGet X.prog X.w X.K td ty) := by
  refine ⟨fun pins s σ H Q I h => ?_⟩
  refine subD_of PySem.F.slot_dict_getitem.lookup hs (thn (ho.run pins s σ H _ I h) fun u s1 ⟨x, H1, I1, rx, q1⟩ => thn (hi.run pins s1 σ H1 _ I1 q1) fun iv s2 ⟨y, H2, I2, ry, a, kvs, k, c, v, ex, ⟨b, ey, g1, g2, g3, g4⟩, l, q2⟩ => ?_)
  subst ex ey
  obtain rfl : u = Value.ref a := rx
  obtain rfl : iv = Value.ref b := ry
  exact ⟨(isN_at I2 ⟨kvs, g1⟩).1, n_getItem hu I2 g1 g2 g3 g4 l fun w' s3 I3 rw' => ⟨v, H2, I3, rw', q2⟩⟩
theorem pc_nin (hu : X.A.units + 9 < cLine) (hi : PE X i ty) (ho : PE X o td) : PC X .In i o (tNIn X.prog X.w X.K ty td) := by
  refine ⟨fun pins s σ H Q I h => ?_⟩
  refine thn (hi.run pins s σ H _ I h) fun iv s1 ⟨y, H1, I1, ry, q1⟩ => thn (ho.run pins s1 σ H1 _ I1 q1) fun u s2 ⟨x, H2, I2, rx, a, kvs, k, ex, ⟨b, ey, g1, g2, g3, g4⟩, q2⟩ => ?_
  subst ex ey
  obtain rfl : u = Value.ref a := rx
  obtain rfl : iv = Value.ref b := ry
  exact n_in hu I2 g1 g2 g3 g4 fun s3 I3 => ⟨.bl (entAt kvs k).isSome, H2, I3, rfl, q2⟩
theorem ps_nput (hu : X.A.units + 9 < cLine) (ho : PE X o td) (hi : PE X i ty) (hv : PE X value tv) (hs : swapsWith value (some (.Subscript o i pos')) pos.line X.env = pure false) :
    PS X (.Assign [.Subscript o i pos'] value pos) (sNPut X.prog X.w X.K td ty tv) := by
  refine ⟨fun pins s σ H D I h => ?_⟩
  refine wpAny_Assign_Subscript (thn (hv.run pins s σ H _ I h) fun r s1 ⟨v, H1, I1, rv, q1⟩ => thn (ho.run pins s1 σ H1 _ I1 q1) fun u s2 ⟨x, H2, I2, rx, q2⟩ => thn (hi.run pins s2 σ H2 _ I2 q2) fun iv s3 ⟨y, H3, I3, ry, a, kvs, k, b, ex, ey, g1, g2, g3, g4, g5, q3⟩ => ?_) hs
  subst ex ey
  obtain rfl : u = Value.ref a := rx
  obtain rfl : iv = Value.ref b := ry
  exact n_setItem hu I3 g1 g2 g3 g4 g5 rv fun s4 I4 => ⟨σ, _, I4, q3⟩
theorem pe_nget2 (hu : X.A.units + 9 < cLine) (ho : PE X o td) (he : PE X e ty) (hf : PE X f tx) (m : M2 X o "get" apos e f cpos) : PE X (.Call (.Attribute o "get" apos) [e, f] [] cpos) (tNGet2 X.prog X.w X.K td ty tx) := by
  refine ⟨fun pins s σ H Q I h => ?_⟩
  refine wpAny_Call_method m.base m.few m.line PySem.F.plainAttrs_dict PySem.F.slot_dict_get PySem.F.type_dict_get (thn (ho.run pins s σ H _ I h) fun u s1 ⟨x, H1, I1, rx, a, ex, d, q1⟩ => ?_)
  subst ex
  obtain rfl : u = Value.ref a := rx
  obtain ⟨t1, t2, _⟩ := isN_at I1 d
  refine ⟨t1, t2, ?_⟩
  rw [m.trees]
  refine Calls.callWith_builtin rfl (Calls.evalArgs_plain (Calls.spliced_cons (thn (he.run pins s1 σ H1 _ I1 q1) fun iv s2 ⟨y, H2, I2, ry, q2⟩ =>
    Calls.spliced_cons (thn (hf.run pins s2 σ H2 _ I2 q2) fun fv s3 ⟨z, H3, I3, rz, kvs, k, ⟨b, ey, g1, g2, g3, g4⟩, q3⟩ => Calls.spliced_nil ?_))))
  subst ey
  obtain rfl : iv = Value.ref b := ry
  exact n_get2 hu I3 g1 g2 g3 g4 rz fun w' s4 I4 rw' => ⟨_, H3, I4, rw', q3⟩
theorem pe_npop (hu : X.A.units + 9 < cLine) (ho : PE X o td) (he : PE X e ty) (m : M1 X o "pop" apos e cpos) : PE X (.Call (.Attribute o "pop" apos) [e] [] cpos) (tNPop X.prog X.w X.K td ty) := by
  refine ⟨fun pins s σ H Q I h => ?_⟩
  refine wpAny_Call_method m.base m.few m.line PySem.F.plainAttrs_dict PySem.F.slot_dict_pop PySem.F.type_dict_pop (thn (ho.run pins s σ H _ I h) fun u s1 ⟨x, H1, I1, rx, a, ex, d, q1⟩ => ?_)
  subst ex
  obtain rfl : u = Value.ref a := rx
  obtain ⟨t1, t2, _⟩ := isN_at I1 d
  refine ⟨t1, t2, ?_⟩
  rw [m.trees]
  refine Calls.callWith_builtin rfl (Calls.evalArgs_plain (Calls.spliced_cons (thn (he.run pins s1 σ H1 _ I1 q1) fun iv s2 ⟨y, H2, I2, ry, kvs, k, b, c, v, ey, g1, g2, g3, g4, l, q2⟩ => Calls.spliced_nil ?_)))
  subst ey
  obtain rfl : iv = Value.ref b := ry
  exact n_pop hu I2 g1 g2 g3 g4 l fun w' s3 I3 rw' => ⟨v, _, I3, rw', q2⟩
end

/-! ### {} -/
theorem dd_empty {P : Program} {w : World} {H : Hp} (h : Heap) (hb : sysModules < h.objs.size) : ObjOk P w H (h.push { cls := .type "dict", data := .dict #[] }) h.objs.size (HD P w h.objs.size []) := by
  obtain ⟨z, y, xs, r, o, es, ep, h1, h2, h3, h4, h5⟩ := (show ObjOk P w H (h.push { cls := .type "dict", data := .dict #[] }) h.objs.size (.dT []) from dt_empty h hb)
  cases r
  refine ⟨⟨z, y, [], .nil, o, es, ep, h1, h2, h3, ?_, List.nodup_nil⟩, ⟨o, h1⟩, DD.stable⟩
  rw [h4]; rfl
def tNNew (P : Program) (w : World) : TE := fun _ H Q => ∀ p, H p = none → Q (.ref p) (upd H p (HD P w p []))
theorem pe_nnew {X : Cx} {pos : Pos} : PE X (.Dict [] [] pos) (tNNew X.prog X.w) := ⟨fun pins s σ H Q I h =>
  wpAny_Dict_empty ⟨.ref s.heap.objs.size, _, I.laid (a := s.heap.objs.size) (o := HD X.prog X.w s.heap.objs.size []) (t' := s.toks) (fun _ _ q => Heap.get?_push_of_some _ q) (Nat.le_refl _) (dd_empty s.heap I.big), rfl, h _ (I.hok.fresh (Nat.le_refl _))⟩⟩
end RX
end

section
set_option Elab.async false
set_option linter.all false
set_option maxRecDepth 100000
set_option maxHeartbeats 4000000
/-! list(d), sorted(..), walks, displays, d == {} for such dicts; by an AI agent -/
namespace RX
open PySem PySem.Spec PyProof.Rows L2

/-! ### lists of data -/
abbrev StandsFor (K : PySem.W.Frag) (H : Hp) (u : Value) (d : PyData) : Prop := ∃ x : V, L2.RelV x u ∧ Dp K H x d
theorem each_of {K : PySem.W.Frag} {H : Hp} : ∀ {xs : List V} {us : List Value} {ds : List PyData}, L2.Vals xs us → DpAll K H xs ds → PySem.W.EachIs (StandsFor K H) us ds
  | _, _, _, .nil, .nil => .nil
  | _, _, _, .cons r t, .cons h q => .cons ⟨_, r, h⟩ (each_of t q)
theorem each_back {K : PySem.W.Frag} {H : Hp} : ∀ {us : List Value} {ds : List PyData}, PySem.W.EachIs (StandsFor K H) us ds → ∃ ys : List V, L2.Vals ys us ∧ DpAll K H ys ds
  | _, _, .nil => ⟨[], .nil, .nil⟩
  | _, _, .cons ⟨x, r, h⟩ t => let ⟨ys, q1, q2⟩ := each_back t; ⟨x :: ys, .cons r q1, .cons h q2⟩
theorem dpAll_len {K : PySem.W.Frag} {H : Hp} : ∀ {xs : List V} {ds : List PyData}, DpAll K H xs ds → xs.length = ds.length
  | _, _, .nil => rfl
  | _, _, .cons _ t => by rw [List.length_cons, List.length_cons, dpAll_len t]

/-- data in its order -/
def sortD (ds : List PyData) : List PyData := ds.mergeSort (PySem.W.dataLe false id)
structure SortsD (ds : List PyData) : Prop where
  alike : PySem.W.AllAlike ds
  kinds : Sorts ds
  depth : ∀ d ∈ ds, d.depth ≤ 40

section
variable {X : Cx} {pins : List (Addr × Obj)} {σ : L2.St} {H : Hp} {s : Shared}
theorem each_reads (I : Inv X pins σ H s) {us : List Value} {ds : List PyData} (e : PySem.W.EachIs (StandsFor X.K H) us ds) : PySem.W.EachIs (fun v d => ∃ as, Reads s.heap v (id d) as) us ds :=
  e.mono fun u d ⟨x, r, h⟩ => Dp.reads I d x u h r

def rSortedN (K : PySem.W.Frag) : List V → Hp → VK → Prop := fun vs H Q => ∃ (a : Addr) (xs : List V) (ds : List PyData), vs = [V.ref a] ∧ SqL K H a xs ∧ DpAll K H xs ds ∧ SortsD ds ∧
  ∀ p ys, H p = none → DpAll K H ys (sortD ds) → Q (.ref p) (upd H p (.lst ys))
theorem call_sortedN (hu : X.A.units + 45 < cLine) : CallR X (.builtin "sorted") (rSortedN X.K) := by
  intro pins s σ H vs us Q I r h
  obtain ⟨a, xs, ds, rfl, hs, hd, hk, q⟩ := h
  obtain ⟨its, rv, hl, hz⟩ := I.list hs
  rw [Vals.ref1 r]
  have e := each_of rv hd
  refine sorted_any (enc := id) (bs := ds) (R := StandsFor X.K H) hl.isList e (each_reads I e) (by rw [List.map_id]; exact hk.alike) (by rw [List.map_id]; exact hk.kinds) (by rw [← dpAll_len hd]; exact hz)
    (fun b hb => by have := hk.depth b hb; show X.A.units + 2 + b.depth < cLine; omega) fun out h1 h2 => ?_
  obtain ⟨ys, y1, y2⟩ := each_back h2
  obtain ⟨ep, he'⟩ := PyProof.Rows.sortedAll_at s.heap its out.toArray
  have hlen : ys.length ≤ sizeLine := by
    rw [Vals.length y1, h1, ← dpAll_len hd]
    exact hz
  exact ⟨.ref _, upd H (s.heap.objs.size + 1) (.lst ys), I.laid (t' := s.toks) (fun _ _ => PyProof.Rows.sortedAll_old) (Nat.le_succ _) ⟨hlen, out, ep, y1, he'⟩, rfl, q _ _ (I.hok.fresh (Nat.le_succ _)) y2⟩
end

/-! ### keys of a dict -/
abbrev keyData (kvs : List Ent) : List PyData := kvs.map fun e => e.1.data
abbrev keyRefs (kvs : List Ent) : List V := kvs.map fun e => V.ref e.2.1
theorem keys_data {K : PySem.W.Frag} {H : Hp} : ∀ {kvs : List Ent}, KeysOk K H kvs → DpAll K H (keyRefs kvs) (keyData kvs)
  | [], _ => .nil
  | e :: r, h => .cons (h e List.mem_cons_self).1 (keys_data fun x hx => h x (List.mem_cons_of_mem _ hx))
theorem keys_vals : ∀ {kvs : List Ent} {xs : List (NestedKey × Addr × Value)}, Same3 kvs xs → L2.Vals (keyRefs kvs) (xs.map fun x => Value.ref x.2.1)
  | _, _, .nil => .nil
  | _, _, .cons h t => .cons (congrArg Value.ref h.2.1.symm) (keys_vals t)
section
variable {X : Cx}
theorem call_listN (hc : X.calm = true) : CallR X (.type "list") (fun xs H Q => ∃ d kvs, xs = [V.ref d] ∧ Rd H d (HD X.prog X.w d kvs) ∧ ∀ p, H p = none → Q (.ref p) (upd H p (.lst (keyRefs kvs)))) := by
  intro pins s σ H xs us Q I r h
  obtain ⟨d, kvs, rfl, hd, q⟩ := h
  obtain ⟨u, rfl, rx⟩ := r.one
  cases rx
  obtain ⟨⟨z, hs, ks, pr, o, es, ep, ho, hx, hdt, he, hn⟩, _, _⟩ := (show ObjOk X.prog X.w H s.heap d (HD X.prog X.w d kvs) from hd.ok I.hok)
  have l1 : es.size = ks.length := size_of_entries he
  have l2 : kvs.length = ks.length := Paired.length pr
  refine PySem.W.kdl_call (kdl_raw hs hx hdt) (I.ok.hd hc) ho (by omega) fun h' tk acc' c' kp e it => ?_
  have ea : acc'.toList = ks.map fun x => Value.ref x.2.1 := by
    have hl : acc'.toList.length = ks.length := by rw [Array.length_toList, it.1]; exact l1
    apply List.ext_getElem?
    intro j
    rw [List.getElem?_map]
    cases hj : acc'.toList[j]? with
    | none =>
      have h1 := List.getElem?_eq_none_iff.mp hj
      rw [List.getElem?_eq_none (by omega)]
      all_goals rfl
    | some v =>
      obtain ⟨en, hen, hv⟩ := it.2 j v (by rw [← Array.getElem?_toList]; exact hj)
      have qe := entry_at he j
      rw [hen] at qe
      cases hb : ks[j]? with
      | none =>
        rw [hb] at qe
        exact nomatch (show some en = none from qe)
      | some b =>
        rw [hb] at qe
        have e2 : en = entryOfKey (nestedKind X.prog X.w) b := Option.some.inj qe
        rw [hv, e2]
        all_goals rfl
  have rv : L2.Vals (keyRefs kvs) acc'.toList := by rw [ea]; exact keys_vals pr
  have hz : (keyRefs kvs).length ≤ sizeLine := by rw [List.length_map]; omega
  refine ⟨.ref s.heap.objs.size, _, I.laid (t' := tk) (o := .lst (keyRefs kvs)) kp (Nat.le_refl _) ?_, rfl, q _ (I.hok.fresh (Nat.le_refl _))⟩
  exact ⟨hz, acc'.toList, c', rv, by rw [Array.toArray_toList]; exact e⟩
end

/-! ### for k in d -/
def Itn (P : Program) (w : World) (d : Addr) (o : Obj) (kvs : List Ent) : It :=
  ⟨fun i H => H d = some (.frz o (HD P w d kvs)) ∧ i < kvs.length, fun i H x H' => H' = H ∧ ∃ e, kvs[i]? = some e ∧ x = .ref e.2.1, fun i H => H d = some (.frz o (HD P w d kvs)) ∧ kvs.length ≤ i⟩
section
variable {X : Cx} {pins : List (Addr × Obj)} {σ : L2.St} {H : Hp} {s : Shared} {d : Addr} {o : Obj} {kvs : List Ent}
theorem frzN (I : Inv X pins σ H s) (h : H d = some (.frz o (HD X.prog X.w d kvs))) :
    (d == sysModules) = false ∧ s.heap.get? d = some o ∧ o.ExactDict ∧ ∃ (es : Array DictEntry) (ep : Nat), o.data = .dict es ep ∧ es.size = kvs.length ∧
      ∀ (i : Nat) (e : Ent), kvs[i]? = some e → ∃ (en : DictEntry), es[i]? = some en ∧ en.key = .ref e.2.1 := by
  obtain ⟨hd, ⟨z, hs, xs, pr, o', es, ep, ho, hx, hdt, he, _⟩, _, _⟩ := I.hok d _ h
  rw [hd] at ho
  cases ho
  refine ⟨hs, hd, hx, es, ep, hdt, ?_, fun i e q1 => ?_⟩
  · have l1 : es.size = xs.length := size_of_entries he
    have l2 : kvs.length = xs.length := Paired.length pr
    omega
  · obtain ⟨b, hb, e1, e2, _⟩ := paired_get pr q1
    have q := entry_at he i
    rw [hb] at q
    exact ⟨_, q, by show Value.ref b.2.1 = _; rw [e2]⟩
end
section
variable {P : Program} {w : World} {K : PySem.W.Frag} {tg : Expr} {d : Addr} {o : Obj} {es : Array DictEntry} {ep : Nat}
theorem turn_keysN {kvs : List Ent} (it : Addr) (hod : o.data = .dict es ep) : Turn P w K tg (Itn P w d o kvs) [it] it (fun i h => h.IsKeyIter it d i kvs.length ep) where
  mem := by simp
  obj := fun i h st b hb => by
    have e : b = it := by simpa using hb
    subst e
    obtain ⟨oi, e, c, dd⟩ := st
    exact ⟨oi, e, fun v z => by rw [dd] at z; cases z⟩
  keep := fun i h h' st k => st.at fun oi e => k it (by simp) oi e
  item := by
    intro X hP hw hK hc i pins s σ H E I hf st hg
    subst hP hw hK
    obtain ⟨hd, hi⟩ := hg
    obtain ⟨f0, f1, f2, f3, f4, f5⟩ := hf it (by simp)
    obtain ⟨hs, hgd, hx, es', ep', hdt, hsz, ent⟩ := frzN I hd
    obtain ⟨rfl, rfl⟩ := dict_ep hod hdt
    obtain ⟨en0, hkv⟩ : ∃ p, kvs[i]? = some p := ⟨kvs[i], List.getElem?_eq_getElem hi⟩
    obtain ⟨en, hen, hkey⟩ := ent i en0 hkv
    refine next_key_item st hgd hdt hsz hen fun h' st' sb => ?_
    have I1 : Inv X pins σ H { s with heap := h' } := I.turned (t' := s.toks) (fun b ob hb e => (sb.2 b hb).trans e) f0 f1 f3 f4 f5
    obtain ⟨oi, e, c, dd⟩ := id st'
    rw [hkey]
    exact ⟨_, rfl, go_of (s := { s with heap := h' }) e c dd (by decide) ⟨.ref en0.2.1, H, I1, rfl, ⟨rfl, en0, hkv, rfl⟩, st', fun b hb => (hf b hb).1⟩⟩
  done := by
    intro X hP hw hK hc i pins s σ H E I hf st hg
    subst hP hw hK
    obtain ⟨hd, hi⟩ := hg
    obtain ⟨f0, f1, f2, f3, f4, f5⟩ := hf it (by simp)
    obtain ⟨hs, hgd, hx, es', ep', hdt, hsz, ent⟩ := frzN I hd
    obtain ⟨rfl, rfl⟩ := dict_ep hod hdt
    exact next_key_end (I.ok.hd hc) st hgd hdt hsz hi fun h' eb => ⟨rfl, I.turned (t' := s.toks) (fun b ob hb e => eb b ob hb e) f0 f1 f3 f4 f5⟩
  self := fun A i s Q E st h => wpAny_pyIter_keyiter st h
def iKeysN (P : Program) (w : World) (td : TE) : TI := fun σ H R => td σ H fun x H1 => ∃ d o kvs, x = .ref d ∧ H1 d = some (.frz o (HD P w d kvs)) ∧ R (Itn P w d o kvs) H1
theorem pi_keysN {X : Cx} {e : Expr} {td : TE} (he : PE X e td) : PI X tg e (iKeysN X.prog X.w td) := by
  refine ⟨fun pins s σ H R I h => ?_⟩
  refine thn (he.run pins s σ H _ I h) fun u s1 ⟨x, H1, I1, rx, d, o, kvs, ex, hd, q⟩ => ?_
  subst ex
  obtain rfl : u = Value.ref d := rx
  obtain ⟨hs, hgd, hx, es, ep, hdt, hsz, ent⟩ := frzN I1 hd
  refine iter_keys hs hgd hx hdt (pi_one (tk := s1.toks) I1 _ (turn_keysN _ hdt) ⟨_, Heap.get?_push_size _ rfl, rfl, ?_⟩ q)
  rw [hsz] <;> rfl
end
end RX
end

section
set_option Elab.async false
set_option linter.all false
set_option maxRecDepth 100000
set_option maxHeartbeats 4000000
/-! {k: v}, d == {} for such dicts; repr and < of data; by an AI agent -/
namespace RX
open PySem PySem.Spec PyProof.Rows L2

section
variable {prog : Program} {w : World} {A : Around} {E : Value → Shared → Prop} {s : Shared} {env : Env}
theorem subDict1 {tk tv : Sem Value} {Q : Addr → Shared → Prop}
    (h : wpAny (model prog w) A tk (fun kv s₁ => wpAny (model prog w) A tv (fun vv s₂ => wpAny (model prog w) A (dictSet s.heap.objs.size kv vv) (fun _ s₃ => Q s.heap.objs.size s₃) E s₂) E s₁) E
      { s with heap := s.heap.push { cls := .type "dict", data := .dict #[] } }) :
    wpAny (model prog w) A (subDict [(tk, tv)]) Q E s := by
  unfold subDict
  refine wpAny_bind (wpAny_alloc ?_)
  refine wpAny_bind (wpAny_holding ?_)
  rw [if_pos (show [(tk, tv)].length ≤ 15 from (by decide : 1 ≤ 15))]
  refine wpAny_bind (evalPairs_cons (wpAny_mono h (fun kv s1 h1 => wpAny_mono h1 (fun vv s2 h2 => evalPairs_nil ?_) fun _ _ e => e) fun _ _ e => e))
  refine wpAny_holding ?_
  refine wpAny_bind ?_
  show wpAny _ _ (forIn [(kv, vv)] PUnit.unit fun (x : Value × Value) (_ : PUnit) => (do dictSet s.heap.objs.size x.1 x.2; pure (ForInStep.yield PUnit.unit) : Sem (ForInStep PUnit))) _ _ _
  rw [List.forIn_cons]
  refine wpAny_bind (wpAny_bind (wpAny_mono h2 (fun _ s3 h3 => wpAny_pure ?_) fun _ _ e => e))
  show wpAny _ _ (forIn [] PUnit.unit _) _ _ _
  rw [List.forIn_nil]
  exact wpAny_pure (wpAny_pure (wpAny_pure h3))
theorem dictDisp1 {k v : Expr} {pos : Pos} {Q : Value → Shared → Prop}
    (h : wpAny (model prog w) A (eval k env) (fun kv s₁ => wpAny (model prog w) A (eval v env) (fun vv s₂ => wpAny (model prog w) A (dictSet s.heap.objs.size kv vv) (fun _ s₃ => Q (.ref s.heap.objs.size) s₃) E s₂) E s₁) E
      { s with heap := s.heap.push { cls := .type "dict", data := .dict #[] } }) :
    wpAny (model prog w) A (eval (.Dict [some k] [v] pos) env) Q E s := by
  rw [arm_eval_Dict, zip_pairTrees [some k] [v] env pos rfl rfl, dictDisplay_pairs _ (by simp [pairTrees]) (by rw [pairTrees_length _ _ _ _ rfl rfl]; exact (by decide : 1 < 17))]
  refine wpAny_bind (wpAny_standAt (wpAny_bind ?_))
  have e : pairTrees [some k] [v] env pos = [(eval k env, do let x ← eval v env; standAt pos; pure x)] := rfl
  rw [e]
  refine subDict1 (wpAny_mono h (fun kv s1 h1 => wpAny_bind (wpAny_mono h1 (fun vv s2 h2 => wpAny_bind (wpAny_standAt (wpAny_pure ?_))) fun _ _ e => e)) fun _ _ e => e)
  exact wpAny_mono h2 (fun _ _ h3 => wpAny_pure h3) fun _ _ e => e
end
section
variable {X : Cx} {k v : Expr} {pos : Pos} {tk tv : TE}
def tNDisp (P : Program) (w : World) (K : PySem.W.Frag) (tk tv : TE) : TE := fun σ H Q => ∀ p, H p = none → tk σ (upd H p (HD P w p [])) fun y H1 => tv σ H1 fun v H2 => ∃ b k, y = .ref b ∧ H2 p = some (HD P w p []) ∧ Dp K H2 (.ref b) k.data ∧ k.depth ≤ 8 ∧
  Q (.ref p) (upd H2 p (HD P w p [(k, b, v)]))
theorem pe_ndisp (hu : X.A.units + 9 < cLine) (hk : PE X k tk) (hv : PE X v tv) : PE X (.Dict [some k] [v] pos) (tNDisp X.prog X.w X.K tk tv) := by
  refine ⟨fun pins s σ H Q I q => ?_⟩
  have hn := I.hok.fresh (Nat.le_refl s.heap.objs.size)
  have I1 := I.laid (a := s.heap.objs.size) (o := HD X.prog X.w s.heap.objs.size []) (h' := s.heap.push { cls := .type "dict", data := .dict #[] }) (t' := s.toks) (fun _ _ q => Heap.get?_push_of_some _ q) (Nat.le_refl _) (dd_empty s.heap I.big)
  refine dictDisp1 (thn (hk.run pins _ σ _ _ I1 (q _ hn)) fun kv s1 ⟨y, H1, I1', ry, q1⟩ => thn (hv.run pins s1 σ H1 _ I1' q1) fun vv s2 ⟨v, H2, I2, rv, b, kk, ey, g1, g2, g3, q2⟩ => ?_)
  subst ey
  obtain rfl : kv = Value.ref b := ry
  have ko : KeysOk X.K H2 [] := fun e he => nomatch he
  obtain ⟨z, hs, xs, rel, dd⟩ := dd_rd I2 (.inl g1) ko
  refine wpAny_dictSet_heap (hsz := by rw [← Paired.length rel]; exact z) (show X.A.units + 8 < cLine by omega) (key_at I2 g2 g3) dd fun h' dd' hs' => ?_
  obtain ⟨q', _, _, hq, _⟩ := id dd'
  exact ⟨.ref s.heap.objs.size, _, d_write I2 (by rw [g1]; exact True.intro) hs' ⟨q', hq⟩ (dd_new (by show 1 ≤ sizeLine; decide) hs (rel.put kk rv) dd'), rfl, q2⟩
end

/-! ### d == {} -/
section
variable {X : Cx}
def rEqEmpty (P : Program) (w : World) : R2 := fun x y H Q => ∃ a b kvs, x = .ref a ∧ y = .ref b ∧ Rd H a (HD P w a kvs) ∧ Rd H b (HD P w b []) ∧ Q (.bl kvs.isEmpty) H
theorem op_eqEmpty (hu : X.A.units < cLine) : OpR X (compareOp .Eq) (rEqEmpty X.prog X.w) := by
  intro pins s σ H x y v u Q I rx ry h
  obtain ⟨a, b, kvs, rfl, rfl, ea, eb, q⟩ := h
  obtain rfl : v = Value.ref a := rx
  obtain rfl : u = Value.ref b := ry
  obtain ⟨⟨_, ya, xa, ra, oa, es, ep, ha, hca, hda, hea, hna⟩, _, _⟩ := (show ObjOk X.prog X.w H s.heap a (HD X.prog X.w a kvs) from rd_of I.hok ea)
  obtain ⟨⟨_, yb, xb, rb, ob, es', ep', hb, hcb, hdb, heb, hnb⟩, _, _⟩ := (show ObjOk X.prog X.w H s.heap b (HD X.prog X.w b []) from rd_of I.hok eb)
  cases rb
  have e0 : es' = #[] := by
    apply Array.toList_inj.mp
    rw [heb]; rfl
  subst e0
  cases kvs with
  | nil =>
    cases ra
    have e1 : es = #[] := by
      apply Array.toList_inj.mp
      rw [hea]; rfl
    subst e1
    have da : s.heap.DictOf (mixKind X.prog X.w) a [] := ⟨oa, #[], ep, ha, hca, hda, (fun e he => by simp at he), .nil, List.nodup_nil⟩
    have db : s.heap.DictOf (mixKind X.prog X.w) b [] := ⟨ob, #[], ep', hb, hcb, hdb, (fun e he => by simp at he), .nil, List.nodup_nil⟩
    exact PySem.W.keq_eq (knd := mixKind X.prog X.w) (r := true) ya yb da db hu (fun _ => .nil) (fin_bl I q (by rfl))
  | cons kv kvs =>
    have hsz : ¬ es.size = (#[] : Array DictEntry).size := by
      have l1 : es.size = xa.length := size_of_entries hea
      have l2 : (kv :: kvs).length = xa.length := Paired.length ra
      rw [List.length_cons] at l2
      simp
      intro z
      rw [z] at l1
      simp at l1
      omega
    have ta : s.TypeIs (.ref a) "dict" := ⟨oa, ha, hca.1⟩
    have tb : s.TypeIs (.ref b) "dict" := ⟨ob, hb, hcb.1⟩
    show wpAny _ _ (richCompare .Eq (.ref a) (.ref b)) _ _ s
    refine wpAny_richCompare_same_room (op := .Eq) ta tb PySem.F.slot_dict_eq (wpAny_call_entry PySem.F.slot_dict_eq ta PySem.F.entry_dict_eq ?_ (PySem.F.args_dict_eq_2 _ _)) hu
    show wpAny _ _ (Builtin.Dict.dictSlotArgs "__eq__" ⟨[.ref a, .ref b], []⟩ >>= _) _ _ s
    refine wpAny_bind ?_
    unfold Builtin.Dict.dictSlotArgs
    refine wpAny_bind (wpAny_notOrdered_dict ta ?_)
    show wpAny _ _ (pure (Value.ref a, Value.ref b)) _ _ s
    refine wpAny_pure ?_
    refine wpAny_bind (wpAny_isInstance (T := "dict") tb PySem.F.sub_dict_dict ?_)
    simp only [Bool.not_true, Bool.false_eq_true, if_false]
    refine wpAny_bind (wpAny_pure (wpAny_bind (wpAny_pure ?_)))
    refine wpAny_bind ?_
    unfold Builtin.Dict.samePairs Builtin.Dict.showsAll
    rw [if_neg (show ¬ (a == sysModules) = true by rw [ya]; exact Bool.false_ne_true), if_neg (show ¬ (b == sysModules) = true by rw [yb]; exact Bool.false_ne_true)]
    refine wpAny_bind (wpAny_pure (wpAny_bind (wpAny_pure ?_)))
    refine wpAny_bind (wpAny_dictEntries ha hda ?_)
    dsimp only
    refine wpAny_bind (wpAny_dictEntries hb hdb ?_)
    rw [if_pos (by simpa using hsz)]
    refine wpAny_bind (wpAny_rule (wpAny_pure ?_))
    exact wpAny_pure ⟨_, rfl, (fun x => nomatch x), ⟨.bl false, H, I, rfl, q⟩⟩
end

/-! ### < and repr of data -/
section
variable {X : Cx}
def rLtD (K : PySem.W.Frag) : R2 := fun x y H Q => ∃ d e, Dp K H x d ∧ Dp K H y e ∧ PySem.W.alike d e = true ∧ d ≠ .none ∧ d.depth ≤ 40 ∧ Q (.bl (PySem.W.dataLt d e)) H
theorem op_ltD (hu : X.A.units + 45 < cLine) : OpR X (compareOp .Lt) (rLtD X.K) := by
  intro pins s σ H x y v u Q I rx ry h
  obtain ⟨d, e, hd, he, al, hn, dep, q⟩ := h
  obtain ⟨as, r1⟩ := Dp.reads I d x v hd rx
  obtain ⟨bs, r2⟩ := Dp.reads I e y u he ry
  exact PySem.W.rcLt_alike d e X.A s v u as bs r1 r2 al hn (by omega) X.prog X.w _ _ ⟨.bl _, H, I, rfl, q⟩
end
end RX
end

section
set_option Elab.async false
set_option linter.all false
set_option maxRecDepth 100000
set_option maxHeartbeats 4000000
/-! promises of defs that are called while no repr is under way; repr of data; by an AI agent -/
namespace RX
open PySem PySem.Spec PyProof.Rows L2

/-- no repr is under way around -/
abbrev Quiet (A : Around) : Prop := A.guards = some []
/-- a promise that is kept where no repr is under way -/
structure FnQ (P : Program) (w : World) (K : PySem.W.Frag) (mg : Str → Option Value) (base : Heap) (k : Nat) (f : Addr) (fd : FuncData) (ps : List Str) (sp : Sp) : Prop where
  len : ∀ vs H Q E, sp vs H Q E → vs.length = ps.length
  run : ∀ (A : Around) (outer : List Env) (s : Shared) (H : Hp) (args : Args) (us : List Value) (vs : List V) (Q : VK) (E : XK), Quiet A → Room k A → Env0 P w K mg base A outer s H → BindsTo s fd args (ps.zip us) → L2.Vals vs us → sp vs H Q E →
    codeAny (model P w) A (.call (.ref f) args) (CR CX0 outer P w H s Q E) s
theorem quiet_of {P : Program} {w : World} {K : PySem.W.Frag} {mg : Str → Option Value} {base : Heap} {k : Nat} {f : Addr} {fd : FuncData} {ps : List Str} {sp : Sp} (F : FnOk P w K mg base CX0 k f fd ps sp) : FnQ P w K mg base k f fd ps sp :=
  ⟨F.len, fun A outer s H args us vs Q E _ => F.run A outer s H args us vs Q E⟩

section
variable {X : Cx} {k : Nat} {f : Addr} {fd : FuncData} {ps : List Str} {sp : Sp} {dvs : List V} {ds : List Value} {E : XK} {x : Str} {p pos : Pos} {e : Expr} {es : List Expr} {t : TA}
/-- f(e, ..), f a def that wants quiet -/
theorem pe_callQ (F : FnQ X.prog X.w X.K X.mg X.base k f fd ps sp) (hq : Quiet X.A) (hr : Room k X.A) (hg : Gl X x) (hm : X.mg x = some (.ref f)) (hk : PySem.W.keepIn X.K (.ref f) = true) (hb : Binds X.K fd ps ds) (hd : L2.Vals dvs ds)
    (ha : PA X (e :: es) t) (hdb : (x == ("__debug__" : Str)) = false := by decide) (he : starEach (e :: es) X.env = (false, eval e X.env) :: starEach es X.env := by rfl) (hpl : (backTo pos (starEach es X.env)).any (·.1) = false := by rfl) :
    PE X (.Call (.Name x p) (e :: es) [] pos) (tCall sp dvs E t) := by
  refine ⟨fun pins s σ H Q I h => ?_⟩
  refine wpAny_Call_Name_kw (ld_glob I hg hm ?_ hdb)
  refine PySem.W.callWith_K (h₀ := X.base) I.ok.mod.kin hk (thn (ha.run pos pins s σ H _ I h) fun us s1 ⟨vs, H1, I1, r, q⟩ => ⟨I1.kIn, ?_⟩) he hpl
  have r2 : L2.Vals (vs ++ dvs) (us ++ ds) := r.append hd
  have hl : (us ++ ds).length = ps.length := by rw [← r2.length]; exact F.len _ _ _ _ q
  refine wpAny_call (codeAny_mono (F.run X.A X.stack s1 H1 ⟨us, []⟩ (us ++ ds) (vs ++ dvs) Q E hq hr I1.env0 (hb s1 us I1.kIn hl) r2 q) fun r s' hq => ?_)
  cases r with
  | error e => exact False.elim hq
  | ok fl =>
    cases fl with
    | ret u => exact I1.after hq
    | next => exact False.elim hq
    | brk => exact False.elim hq
    | cont => exact False.elim hq
end

/-- from a def's body to its promise -/
theorem quiet_fn {P : Program} {w : World} {K : PySem.W.Frag} {mg : Str → Option Value} {base : Heap} {x qual : Str} {st : Stmt} {f : Addr} {fd : FuncData} {N ps : List Str} {k : Nat} {sp : Sp} (F : Fun K x qual st f fd) (S : FnScope N ps (defScope st))
    (len : ∀ vs H Q E, sp vs H Q E → vs.length = ps.length)
    (hbody : ∀ (cdv : Value) (A : Around) (outer : List Env) (s : Shared) (H : Hp) (vs : List V) (Q : VK) (E : XK), Quiet (A.deeper (envOfC qual (defScope st) s.heap.objs.size f cdv)) → Room k (A.deeper (envOfC qual (defScope st) s.heap.objs.size f cdv)) → sp vs H Q E →
      ∃ t, PSs (cxOf CX0 P w K mg base N qual (defScope st) f cdv A outer s H E).nox (defBody st) t ∧ t { nx := fun _ H' => Q .non H', rt := Q } (start N vs) H) : FnQ P w K mg base (k + 1) f fd ps sp := by
  obtain ⟨oc, od, kV, doc, pm, an, cdv, ct, osl, rfl, lk, hcd⟩ := F.ex
  refine ⟨len, fun A outer s H args us vs Q E hqt hr e0 hb r hsp => ?_⟩
  have hl := len _ _ _ _ hsp
  have KX : K.In s.heap := e0.mod.kin.keeps fun b o e => (e0.bs b o e).1
  have lim : s.heap.NoLimit := e0.mod.nolimit.keeps fun b o e => (e0.bs b o e).1
  have hkind : ∀ y ∈ ps.zip us, (defScope st).names.lookup y.1 = some .local ∨ ((defScope st).names.lookup y.1 = some .cell ∧ ((cellsFrom (s.heap.objs.size + 1) (defScope st).names []).lookup y.1).isSome = true) := fun ⟨n, v⟩ hy => by
    rcases S.par n (List.of_mem_zip hy).1 with q | q
    · exact .inl q
    · exact .inr ⟨q, PySem.W.cellsFrom_some _ _ _ (.inl q)⟩
  refine codeAny_call_function hr.depth (KX _ _ lk) rfl S.co S.gen rfl (PySem.W.codeRec_of KX hcd) (hb _ _ _ _ ?_)
  refine wpAny_newFunctionEnv_cells S.kind hkind fun env he s1 x => ?_
  subst he
  refine ⟨lim.keeps x.toInCall.keep, codeAny_func ?_⟩
  obtain ⟨t, ht, hq⟩ := hbody cdv A outer s H vs Q E hqt (hr.deeper _) hsp
  have ht' := ht.nox
  have I : Inv (cxOf CX0 P w K mg base N qual (defScope st) f cdv A outer s H E) [] (start N vs) H s1 := inv_start S hr.hd e0 hl r x
  refine wpAny_mono (ht'.run [] s1 (start N vs) H _ I hq) (fun fl s' hs => ?_) fun e s' hs => hs
  have fin : ∀ {σ' : L2.St} {H' : Hp} {v : V} {u : Value}, Inv (cxOf CX0 P w K mg base N qual (defScope st) f cdv A outer s H E) [] σ' H' s' → L2.RelV v u → Q v H' → CE outer P w H s Q u s' :=
    fun {σ' H' v u} J rv q => ⟨v, H', J.os, J.bare, J.base, J.hok, rv, q⟩
  cases fl with
  | ret u => obtain ⟨v, σ', H', J, rv, q⟩ := hs; exact fin J rv q
  | next => obtain ⟨σ', H', J, q⟩ := hs; exact fin (v := V.non) (u := Value.none) J rfl q
  | brk => obtain ⟨_, _, _, q⟩ := hs; exact False.elim q
  | cont => obtain ⟨_, _, _, q⟩ := hs; exact False.elim q

/-! ### repr of data -/
section
variable {X : Cx}
def rReprD (K : PySem.W.Frag) : List V → Hp → VK → Prop := fun vs H Q => ∃ (a : Addr) (d : PyData), vs = [.ref a] ∧ Dp K H (.ref a) d ∧ d.showable = true ∧ d.depth ≤ 40 ∧ d.shown.length ≤ sizeLine ∧ Q (.str d.shown) H
theorem noDict_of {K : PySem.W.Frag} {H : Hp} : ∀ (d : PyData) (v : V), Dp K H v d → d.hasDict = false
  | .none, _, _ => by rw [PyData.hasDict]
  | .bool _, _, _ => by rw [PyData.hasDict]
  | .int _, _, _ => by rw [PyData.hasDict]
  | .str _, _, _ => by rw [PyData.hasDict]
  | .list ds, _, h => by
    cases h with
    | lst hs ha => rw [PyData.hasDict]; exact noDicts_of ds _ ha
  | .tuple ds, _, h => by
    cases h with
    | tup hs ha => rw [PyData.hasDict]; exact noDicts_of ds _ ha
  | .dict _, _, h => by cases h
where noDicts_of {K : PySem.W.Frag} {H : Hp} : ∀ (ds : List PyData) (vs : List V), DpAll K H vs ds → PyData.hasDictAll ds = false
  | [], _, _ => by rw [PyData.hasDictAll]
  | d :: ds, _, h => by
    cases h with
    | cons h1 h2 => rw [PyData.hasDictAll, noDict_of d _ h1, noDicts_of ds _ h2]; rfl
theorem call_reprD (hq : Quiet X.A) (hu : X.A.units + 45 < cLine) : CallR X (.builtin "repr") (rReprD X.K) := by
  intro pins s σ H vs us Q I r h
  obtain ⟨a, d, rfl, hd, sh, dep, hz, q⟩ := h
  obtain ⟨u, rfl, rx⟩ := r.one
  cases rx
  obtain ⟨as, rr⟩ := Dp.reads I d _ _ hd rfl
  refine repr_of_reads' rr sh (PyData.noDict_hsm (noDict_of d _ hd)) hq (by omega) (fun b o e => e) (fun h' u tk k => ?_) hz
  exact ⟨.str d.shown, H, I.kept (t' := tk) k, ⟨_, rfl⟩, q⟩
def rReprNone : List V → Hp → VK → Prop := fun vs H Q => vs = [.non] ∧ Q (.str ("None" : Str)) H
theorem call_reprNone : CallR X (.builtin "repr") rReprNone := by
  intro pins s σ H vs us Q I r h
  obtain ⟨rfl, q⟩ := h
  obtain ⟨u, rfl, rx⟩ := r.one
  cases rx
  exact PySem.P.repr_of_none ⟨.str _, H, I.tok _, ⟨_, rfl⟩, q⟩
/-- repr of data or of None -/
def rReprV (K : PySem.W.Frag) : List V → Hp → VK → Prop := fun vs H Q => rReprD K vs H Q ∨ rReprNone vs H Q
theorem call_reprV (hq : Quiet X.A) (hu : X.A.units + 45 < cLine) : CallR X (.builtin "repr") (rReprV X.K) := by
  intro pins s σ H vs us Q I r h
  rcases h with h | h
  · exact call_reprD hq hu pins s σ H vs us Q I r h
  · exact call_reprNone pins s σ H vs us Q I r h
end
end RX
end

section
set_option Elab.async false
set_option linter.all false
set_option maxRecDepth 100000
set_option maxHeartbeats 4000000
/-! what readings come to, as data; by an AI agent -/
namespace RX
open PySem L2
open Evl (Ex Ev EvT EvA EvL EvU RV RC)

/-! ### data stays -/
theorem sq_mono {K : PySem.W.Frag} {H H' : Hp} (e : Ex H H') {a : Addr} {xs : List V} (h : SqL K H a xs) : SqL K H' a xs := Evl.ex_l e h
theorem st_mono {K : PySem.W.Frag} {H H' : Hp} (e : Ex H H') {a : Addr} {xs : List V} (h : SqT K H a xs) : SqT K H' a xs := Evl.ex_t e h
section
variable {K : PySem.W.Frag} {H H' : Hp}
mutual
theorem dp_map (hl : ∀ a xs, SqL K H a xs → SqL K H' a xs) (ht : ∀ a xs, SqT K H a xs → SqT K H' a xs) : ∀ {v : V} {d : PyData}, Dp K H v d → Dp K H' v d
  | _, _, .non => .non
  | _, _, .bl b => .bl b
  | _, _, .int i => .int i
  | _, _, .str x => .str x
  | _, _, .lst h a => .lst (hl _ _ h) (dpAll_map hl ht a)
  | _, _, .tup h a => .tup (ht _ _ h) (dpAll_map hl ht a)
theorem dpAll_map (hl : ∀ a xs, SqL K H a xs → SqL K H' a xs) (ht : ∀ a xs, SqT K H a xs → SqT K H' a xs) : ∀ {vs : List V} {ds : List PyData}, DpAll K H vs ds → DpAll K H' vs ds
  | _, _, .nil => .nil
  | _, _, .cons h t => .cons (dp_map hl ht h) (dpAll_map hl ht t)
end
theorem dp_ex (e : Ex H H') {v : V} {d : PyData} (h : Dp K H v d) : Dp K H' v d := dp_map (fun _ _ => sq_mono e) (fun _ _ => st_mono e) h
theorem dpAll_ex (e : Ex H H') {vs : List V} {ds : List PyData} (h : DpAll K H vs ds) : DpAll K H' vs ds := dpAll_map (fun _ _ => sq_mono e) (fun _ _ => st_mono e) h
/-- all but what stands at m is as it was -/
def But (m : Addr) (H H' : Hp) : Prop := ∀ b o, b ≠ m → H b = some o → H' b = some o
theorem But.refl (m : Addr) (H : Hp) : But m H H := fun _ _ _ h => h
theorem But.trans {m : Addr} {H1 H2 : Hp} (a : But m H H1) (b : But m H1 H2) : But m H H2 := fun c o n h => b c o n (a c o n h)
theorem But.of {m : Addr} (e : Ex H H') : But m H H' := fun b o _ h => e b o h
theorem But.upd {m : Addr} (e : But m H H') (o : HO) : But m H (upd H' m o) := fun b u n h => by rw [upd_ne n]; exact e b u n h
/-- what stands at m is no sequence -/
def NoSeq (H : Hp) (m : Addr) : Prop := (∀ xs, ¬ Rd H m (.lst xs)) ∧ ∀ xs, ¬ Rd H m (.tup xs)
theorem NoSeq.of {m : Addr} {o : HO} (h : H m = some o) (h1 : ∀ xs, o ≠ .lst xs) (h2 : ∀ xs, o ≠ .tup xs) (h3 : ∀ ob u, o ≠ .frz ob u) : NoSeq H m := by
  refine ⟨fun xs r => ?_, fun xs r => ?_⟩ <;>
  · rcases r with r | ⟨ob, r⟩
    · rw [h] at r; cases r; first | exact h1 _ rfl | exact h2 _ rfl
    · rw [h] at r; cases r; exact h3 _ _ rfl
theorem sq_but {m : Addr} (n : NoSeq H m) (e : But m H H') {a : Addr} {xs : List V} (h : SqL K H a xs) : SqL K H' a xs := by
  rcases h with h | h
  · have na : a ≠ m := fun z => by subst z; exact n.1 _ h
    rcases h with h | ⟨o, h⟩
    · exact .inl (.inl (e _ _ na h))
    · exact .inl (.inr ⟨o, e _ _ na h⟩)
  · exact .inr h
theorem st_but {m : Addr} (n : NoSeq H m) (e : But m H H') {a : Addr} {xs : List V} (h : SqT K H a xs) : SqT K H' a xs := by
  rcases h with h | h
  · have na : a ≠ m := fun z => by subst z; exact n.2 _ h
    rcases h with h | ⟨o, h⟩
    · exact .inl (.inl (e _ _ na h))
    · exact .inl (.inr ⟨o, e _ _ na h⟩)
  · exact .inr h
theorem dp_but {m : Addr} (n : NoSeq H m) (e : But m H H') {v : V} {d : PyData} (h : Dp K H v d) : Dp K H' v d := dp_map (fun _ _ => sq_but n e) (fun _ _ => st_but n e) h
theorem dpAll_but {m : Addr} (n : NoSeq H m) (e : But m H H') {vs : List V} {ds : List PyData} (h : DpAll K H vs ds) : DpAll K H' vs ds := dpAll_map (fun _ _ => sq_but n e) (fun _ _ => st_but n e) h
end

/-! ### values as data -/
section
variable {K : PySem.W.Frag} {H H' : Hp} {v : V} {vs : List V} {ds : List PyData} {d : PyData}
theorem dp_int {i : Int} (h : Dp K H v (.int i)) : v = .int i := by cases h; rfl
theorem dp_str {x : Str} (h : Dp K H v (.str x)) : v = .str x := by cases h; rfl
theorem dp_bl {b : Bool} (h : Dp K H v (.bool b)) : v = .bl b := by cases h; rfl
theorem dp_non (h : Dp K H v .none) : v = .non := by cases h; rfl
theorem dp_tup (h : Dp K H v (.tuple ds)) : ∃ a xs, v = .ref a ∧ SqT K H a xs ∧ DpAll K H xs ds := by cases h with | tup h a => exact ⟨_, _, rfl, h, a⟩
theorem dp_lst (h : Dp K H v (.list ds)) : ∃ a xs, v = .ref a ∧ SqL K H a xs ∧ DpAll K H xs ds := by cases h with | lst h a => exact ⟨_, _, rfl, h, a⟩
theorem dpAll_get : ∀ {vs : List V} {ds : List PyData}, DpAll K H vs ds → ∀ {i : Nat} {d : PyData}, ds[i]? = some d → ∃ v, vs[i]? = some v ∧ Dp K H v d
  | _, _, .nil, i, d, h => by simp at h
  | _, _, .cons h t, 0, d, e => by
    simp at e; subst e; exact ⟨_, rfl, h⟩
  | _, _, .cons h t, i + 1, d, e => by
    obtain ⟨v, q1, q2⟩ := dpAll_get t (i := i) (d := d) (by simpa using e)
    exact ⟨v, by simpa using q1, q2⟩
theorem dpAll_getV : ∀ {vs : List V} {ds : List PyData}, DpAll K H vs ds → ∀ {i : Nat} {v : V}, vs[i]? = some v → ∃ d, ds[i]? = some d ∧ Dp K H v d
  | _, _, .nil, i, d, h => by simp at h
  | _, _, .cons h t, 0, d, e => by
    simp at e; subst e; exact ⟨_, rfl, h⟩
  | _, _, .cons h t, i + 1, d, e => by
    obtain ⟨v, q1, q2⟩ := dpAll_getV t (i := i) (v := d) (by simpa using e)
    exact ⟨v, by simpa using q1, q2⟩
theorem dpAll_append : ∀ {vs ws : List V} {ds es : List PyData}, DpAll K H vs ds → DpAll K H ws es → DpAll K H (vs ++ ws) (ds ++ es)
  | _, _, _, _, .nil, s => s
  | _, _, _, _, .cons r t, s => .cons r (dpAll_append t s)
theorem dpAll_take : ∀ {vs : List V} {ds : List PyData} (n : Nat), DpAll K H vs ds → DpAll K H (vs.take n) (ds.take n)
  | _, _, 0, _ => .nil
  | _, _, _ + 1, .nil => .nil
  | _, _, n + 1, .cons r t => .cons r (dpAll_take n t)
theorem dpAll_drop : ∀ {vs : List V} {ds : List PyData} (n : Nat), DpAll K H vs ds → DpAll K H (vs.drop n) (ds.drop n)
  | _, _, 0, r => r
  | _, _, _ + 1, .nil => .nil
  | _, _, n + 1, .cons _ t => dpAll_drop n t
end

/-! ### the type's name -/
def tyName : PyData → String
  | .none => "NoneType"
  | .bool _ => "bool"
  | .int _ => "int"
  | .str _ => "str"
  | .list _ => "list"
  | .tuple _ => "tuple"
  | .dict _ => "dict"
theorem tyB_of {K : PySem.W.Frag} {H : Hp} {v : V} {d : PyData} (h : Dp K H v d) : TyB K H v (tyName d) := by
  cases h with
  | non => exact .non
  | bl b => exact .bl b
  | int i => exact .int i
  | str x => exact .str x
  | lst h _ => exact .lst h
  | tup h _ => exact .tup h
theorem tyX_of {K : PySem.W.Frag} {H : Hp} {v : V} {d : PyData} (h : Dp K H v d) : TyX K H v (.type (tyName d)) := by
  cases h with
  | non => exact .base .non
  | bl b => exact .base (.bl b)
  | int i => exact .base (.int i)
  | str x => exact .base (.str x)
  | lst h _ =>
    rcases h with (h | ⟨o, h⟩) | ⟨o, its, n, hk, hc, _⟩
    · exact .base (.lst h)
    · exact .base (.frz h)
    · exact .kList hk hc
  | tup h _ =>
    rcases h with (h | ⟨o, h⟩) | ⟨o, its, n, hk, hc, _⟩
    · exact .base (.tup h)
    · exact .fTuple h
    · exact .kTuple hk hc

/-! ### Ev over data -/
def EvD (K : PySem.W.Frag) (te : TE) (σ : L2.St) (H : Hp) (d : PyData) : Prop := ∀ H1, Ex H H1 → ∀ Q : VK, (∀ v H2, Ex H1 H2 → Dp K H2 v d → Q v H2) → te σ H1 Q
section
variable {K : PySem.W.Frag} {σ : L2.St} {H H' : Hp} {ta tb te : TE} {d e : PyData} {x y z v : V} {ds : List PyData}
theorem EvD.mono (m : Ex H H') (h : EvD K te σ H d) : EvD K te σ H' d := fun H1 a Q q => h H1 (m.trans a) Q q
theorem evd_var {i : Nat} (h : σ[i]? = some (some v)) (hd : Dp K H v d) : EvD K (tVar i) σ H d := fun H1 e _ q => ⟨v, h, q v H1 (Ex.refl H1) (dp_ex e hd)⟩
theorem evd_of (h : Ev te σ H v) (hd : ∀ H', Dp K H' v d) : EvD K te σ H d := fun H1 e Q q => h H1 e Q fun H2 e2 => q v H2 e2 (hd H2)
theorem evd_at (h : Ev te σ H v) (hd : Dp K H v d) : EvD K te σ H d := fun H1 e Q q => h H1 e Q fun H2 e2 => q v H2 e2 (dp_ex (e.trans e2) hd)
theorem ev_int {i : Int} (h : EvD K te σ H (.int i)) : Ev te σ H (.int i) := fun H1 e Q q => h H1 e Q fun v H2 e2 hd => by rw [dp_int hd]; exact q H2 e2
theorem ev_str {s : Str} (h : EvD K te σ H (.str s)) : Ev te σ H (.str s) := fun H1 e Q q => h H1 e Q fun v H2 e2 hd => by rw [dp_str hd]; exact q H2 e2
theorem ev_bl {b : Bool} (h : EvD K te σ H (.bool b)) : Ev te σ H (.bl b) := fun H1 e Q q => h H1 e Q fun v H2 e2 hd => by rw [dp_bl hd]; exact q H2 e2
theorem evd_is (h : EvD K te σ H d) (q : d = e) : EvD K te σ H e := q ▸ h

/-- t[i] -/
theorem evd_ixT {i : Nat} (ha : EvD K ta σ H (.tuple ds)) (hb : Ev tb σ H (.int (i : Int))) (hi : ds[i]? = some d) : EvD K (tOp (rIxT K) ta tb) σ H d := fun H1 m Q q =>
  ha H1 m _ fun x H2 e2 hx => hb H2 (m.trans e2) _ fun H3 e3 => by
    obtain ⟨a, xs, rfl, hs, hall⟩ := dp_tup hx
    obtain ⟨w, hw, hd⟩ := dpAll_get hall hi
    exact ⟨a, xs, (i : Int), w, rfl, rfl, st_mono e3 hs, atI_nat hw, q w H3 (e2.trans e3) (dp_ex e3 hd)⟩
/-- a sign of a text -/
theorem ev_ixS {s : Str} {i : Nat} {c : Nat} (ha : Ev ta σ H (.str s)) (hb : Ev tb σ H (.int (i : Int))) (hz : s.length ≤ 100000) (hi : s.cps.toList[i]? = some c) : Ev (tOp rIxS ta tb) σ H (.str ⟨#[c]⟩) :=
  Evl.ev_op ha hb (Evl.rv_ixS hz (atI_nat hi))
theorem ev_lenT (ha : EvD K ta σ H (.tuple ds)) : Ev (tCB (fun xs H Q => ∃ p ys, xs = [.ref p] ∧ (SqL K H p ys ∨ SqT K H p ys) ∧ Q (.int ys.length) H) (tCons ta tNil)) σ H (.int ds.length) := fun H1 m Q q =>
  ha H1 m _ fun x H2 e2 hx => by
    obtain ⟨a, xs, rfl, hs, hall⟩ := dp_tup hx
    exact ⟨a, xs, rfl, .inr hs, by rw [dpAll_len hall]; exact q H2 e2⟩
theorem ev_lenL (ha : EvD K ta σ H (.list ds)) : Ev (tCB (fun xs H Q => ∃ p ys, xs = [.ref p] ∧ (SqL K H p ys ∨ SqT K H p ys) ∧ Q (.int ys.length) H) (tCons ta tNil)) σ H (.int ds.length) := fun H1 m Q q =>
  ha H1 m _ fun x H2 e2 hx => by
    obtain ⟨a, xs, rfl, hs, hall⟩ := dp_lst hx
    exact ⟨a, xs, rfl, .inl hs, by rw [dpAll_len hall]; exact q H2 e2⟩
theorem ev_lenS {s : Str} (ha : Ev ta σ H (.str s)) (hz : s.length ≤ 100000) : Ev (tCB (fun xs H Q => ∃ z, xs = [.str z] ∧ z.length ≤ sizeLine ∧ Q (.int z.length) H) (tCons ta tNil)) σ H (.int s.length) := fun H1 m Q q =>
  ha H1 m _ fun H2 e2 => ⟨s, rfl, Evl.sz_of hz, q H2 e2⟩
theorem ev_type (ha : EvD K ta σ H d) : Ev (tCB (rTyp K) (tCons ta tNil)) σ H (.ty (tyName d)) := fun H1 m Q q =>
  ha H1 m _ fun x H2 e2 hx => ⟨x, tyName d, rfl, tyB_of hx, q H2 e2⟩
theorem ev_isTy {a b : String} (ha : Ev ta σ H (.ty a)) (hb : Ev tb σ H (.ty b)) : Ev (tOp (fun x y H Q => ∃ a b, x = .ty a ∧ y = .ty b ∧ Q (.bl (decide (a = b))) H) ta tb) σ H (.bl (decide (a = b))) := fun H1 m Q q =>
  ha H1 m _ fun H2 e2 => hb H2 (m.trans e2) _ fun H3 e3 => ⟨a, b, rfl, rfl, q H3 (e2.trans e3)⟩
theorem ev_notTy {a b : String} (ha : Ev ta σ H (.ty a)) (hb : Ev tb σ H (.ty b)) : Ev (tOp rNT ta tb) σ H (.bl (!decide (a = b))) := fun H1 m Q q =>
  ha H1 m _ fun H2 e2 => hb H2 (m.trans e2) _ fun H3 e3 => ⟨a, b, rfl, rfl, q H3 (e2.trans e3)⟩
theorem ev_isi {T : String} {b : Bool} (ha : EvD K ta σ H d) (hb : Ev tb σ H (.ty T)) (h : kitB (tyName d) T = some b) : Ev (tCB (rIsi K) (tCons ta (tCons tb tNil))) σ H (.bl b) := fun H1 m Q q =>
  ha H1 m _ fun x H2 e2 hx => hb H2 (m.trans e2) _ fun H3 e3 => ⟨x, .ty T, .type (tyName d), .type T, b, rfl, .ty T, tyX_of (dp_ex e3 hx), kit_ty h, q H3 (e2.trans e3)⟩
/-- ints compared -/
theorem ev_I {g : Int → Int → V} {i j : Int} (ha : Ev ta σ H (.int i)) (hb : Ev tb σ H (.int j)) : Ev (tOp (rI0 g) ta tb) σ H (g i j) := Evl.ev_op ha hb Evl.rv_I0
theorem ev_IC {C : Int → Int → Prop} {g : Int → Int → V} {i j : Int} (ha : Ev ta σ H (.int i)) (hb : Ev tb σ H (.int j)) (hc : C i j) : Ev (tOp (rI C g) ta tb) σ H (g i j) := Evl.ev_op ha hb (Evl.rv_I hc)
theorem ev_ltD (ha : EvD K ta σ H d) (hb : EvD K tb σ H e) (al : PySem.W.alike d e = true) (hn : d ≠ .none) (hd : d.depth ≤ 40) : Ev (tOp (rLtD K) ta tb) σ H (.bl (PySem.W.dataLt d e)) := fun H1 m Q q =>
  ha H1 m _ fun x H2 e2 hx => hb H2 (m.trans e2) _ fun y H3 e3 hy => ⟨d, e, dp_ex e3 hx, hy, al, hn, hd, q H3 (e2.trans e3)⟩
theorem ev_eqD (ha : EvD K ta σ H d) (hb : EvD K tb σ H e) (h1 : SeqAt.shaped d = true) (h2 : SeqAt.shaped e = true) : Ev (tOp (rEqD K) ta tb) σ H (.bl (PyData.eqv d e)) := fun H1 m Q q =>
  ha H1 m _ fun x H2 e2 hx => hb H2 (m.trans e2) _ fun y H3 e3 hy => ⟨d, e, dp_ex e3 hx, hy, h1, h2, q H3 (e2.trans e3)⟩
theorem ev_neD (ha : EvD K ta σ H d) (hb : EvD K tb σ H e) (h1 : SeqAt.shaped d = true) (h2 : SeqAt.shaped e = true) : Ev (tOp (rNeD K) ta tb) σ H (.bl (!PyData.eqv d e)) := fun H1 m Q q =>
  ha H1 m _ fun x H2 e2 hx => hb H2 (m.trans e2) _ fun y H3 e3 hy => ⟨d, e, dp_ex e3 hx, hy, h1, h2, q H3 (e2.trans e3)⟩
theorem ev_inS {c : Nat} {s : Str} (ha : Ev ta σ H (.str ⟨#[c]⟩)) (hb : Ev tb σ H (.str s)) : Ev (tOp (fun x y H Q => ∃ (c : Nat) (z : Str), x = .str ⟨#[c]⟩ ∧ y = .str z ∧ Q (.bl (decide (c ∈ z.cps.toList))) H) ta tb) σ H (.bl (decide (c ∈ s.cps.toList))) := fun H1 m Q q =>
  ha H1 m _ fun H2 e2 => hb H2 (m.trans e2) _ fun H3 e3 => ⟨c, s, rfl, rfl, q H3 (e2.trans e3)⟩
theorem ev_notInS {c : Nat} {s : Str} (ha : Ev ta σ H (.str ⟨#[c]⟩)) (hb : Ev tb σ H (.str s)) : Ev (tOp (fun x y H Q => ∃ (c : Nat) (z : Str), x = .str ⟨#[c]⟩ ∧ y = .str z ∧ Q (.bl (!decide (c ∈ z.cps.toList))) H) ta tb) σ H (.bl (!decide (c ∈ s.cps.toList))) := fun H1 m Q q =>
  ha H1 m _ fun H2 e2 => hb H2 (m.trans e2) _ fun H3 e3 => ⟨c, s, rfl, rfl, q H3 (e2.trans e3)⟩

/-! ### defs over data alone -/
def EvAD (K : PySem.W.Frag) (ta : TA) (σ : L2.St) (H : Hp) (ds : List PyData) : Prop := ∀ H1, Ex H H1 → ∀ Q : List V → Hp → Prop, (∀ vs H2, Ex H1 H2 → DpAll K H2 vs ds → Q vs H2) → ta σ H1 Q
theorem ead_nil : EvAD K tNil σ H [] := fun H1 _ _ q => q [] H1 (Ex.refl H1) .nil
theorem ead_cons {tr : TA} (h : EvD K te σ H d) (hr : EvAD K tr σ H ds) : EvAD K (tCons te tr) σ H (d :: ds) := fun H1 m Q q =>
  h H1 m _ fun v H2 e2 hv => hr H2 (m.trans e2) _ fun vs H3 e3 hs => q _ H3 (e2.trans e3) (.cons (dp_ex e3 hv) hs)
/-- a def from data to a truth value -/
def spB (K : PySem.W.Frag) (n : Nat) (pre : List PyData → Prop) (f : List PyData → Bool) : Sp := fun vs H Q _ => ∃ ds, DpAll K H vs ds ∧ ds.length = n ∧ pre ds ∧ ∀ H', Ex H H' → Q (.bl (f ds)) H'
/-- a def from data to data -/
def spD (K : PySem.W.Frag) (n : Nat) (pre : List PyData → Prop) (f : List PyData → PyData) : Sp := fun vs H Q _ => ∃ ds, DpAll K H vs ds ∧ ds.length = n ∧ pre ds ∧ ∀ v H', Ex H H' → Dp K H' v (f ds) → Q v H'
theorem spB_len {n : Nat} {pre : List PyData → Prop} {f : List PyData → Bool} {vs : List V} {Q : VK} {E : XK} (h : spB K n pre f vs H Q E) : vs.length = n := by
  obtain ⟨ds, hd, hl, _⟩ := h
  rw [dpAll_len hd, hl]
theorem spD_len {n : Nat} {pre : List PyData → Prop} {f : List PyData → PyData} {vs : List V} {Q : VK} {E : XK} (h : spD K n pre f vs H Q E) : vs.length = n := by
  obtain ⟨ds, hd, hl, _⟩ := h
  rw [dpAll_len hd, hl]
theorem ev_callB {n : Nat} {pre : List PyData → Prop} {f : List PyData → Bool} {E : XK} {ta : TA} (h : EvAD K ta σ H ds) (hl : ds.length = n) (hp : pre ds) : Ev (tCall (spB K n pre f) [] E ta) σ H (.bl (f ds)) := fun H1 m Q q =>
  h H1 m _ fun vs H2 e2 hs => by
    rw [List.append_nil]
    exact ⟨ds, hs, hl, hp, fun H' e => q H' (e2.trans e)⟩
theorem evd_callD {n : Nat} {pre : List PyData → Prop} {f : List PyData → PyData} {E : XK} {ta : TA} (h : EvAD K ta σ H ds) (hl : ds.length = n) (hp : pre ds) : EvD K (tCall (spD K n pre f) [] E ta) σ H (f ds) := fun H1 m Q q =>
  h H1 m _ fun vs H2 e2 hs => by
    rw [List.append_nil]
    exact ⟨ds, hs, hl, hp, fun v H' e hd => q v H' (e2.trans e) hd⟩
theorem s_retD {D : Ends} (h : EvD K te σ H d) (k : ∀ v H1, Ex H H1 → Dp K H1 v d → D.rt v H1) : tRet te D σ H := h H (Ex.refl H) _ k
theorem s_asgD {D : Ends} {i : Nat} (h : EvD K te σ H d) (k : ∀ v H1, Ex H H1 → Dp K H1 v d → D.nx (σ.set i (some v)) H1) : tAsg te (gName i) D σ H := h H (Ex.refl H) _ k
/-- a tuple of data -/
theorem evd_tup {ta : TA} (h : EvAD K ta σ H ds) (hz : ds.length ≤ 100000) : EvD K (tTup ta) σ H (.tuple ds) := fun H1 m Q q =>
  h H1 m _ fun vs H2 e2 hs => ⟨by rw [dpAll_len hs]; exact Evl.sz_of hz, fun p hp => q _ _ (e2.trans (Ex.new hp)) (.tup (.inl (.inl upd_same)) (dpAll_ex (Ex.new hp) hs))⟩
theorem evd_lst {ta : TA} (h : EvAD K ta σ H ds) (hz : ds.length ≤ 100000) : EvD K (tLst ta) σ H (.list ds) := fun H1 m Q q =>
  h H1 m _ fun vs H2 e2 hs => ⟨by rw [dpAll_len hs]; exact Evl.sz_of hz, fun p hp => q _ _ (e2.trans (Ex.new hp)) (.lst (.inl (.inl upd_same)) (dpAll_ex (Ex.new hp) hs))⟩
theorem evd_if {t : TT} {b : Bool} (h : EvT t σ H b) (h1 : b = true → EvD K ta σ H d) (h2 : b = false → EvD K tb σ H d) : EvD K (tIf t ta tb) σ H d := fun H1 m Q q => h H1 m _ fun H2 e2 => by
  cases b with
  | true => exact iteT (h1 rfl H2 (m.trans e2) Q fun v H3 e3 => q v H3 (e2.trans e3))
  | false => exact iteF (h2 rfl H2 (m.trans e2) Q fun v H3 e3 => q v H3 (e2.trans e3))
end

/-! ### a def of the top, with its promise -/
structure Has (P : Program) (w : World) (K : PySem.W.Frag) (mg : Str → Option Value) (base : Heap) (k : Nat) (x : Str) (ps : List Str) (sp : Sp) : Prop where
  at' : ∃ (f : Addr) (fd : FuncData), mg x = some (.ref f) ∧ PySem.W.keepIn K (.ref f) = true ∧ Binds K fd ps [] ∧ FnOk P w K mg base CX0 k f fd ps sp
structure HasQ (P : Program) (w : World) (K : PySem.W.Frag) (mg : Str → Option Value) (base : Heap) (k : Nat) (x : Str) (ps : List Str) (sp : Sp) : Prop where
  at' : ∃ (f : Addr) (fd : FuncData), mg x = some (.ref f) ∧ PySem.W.keepIn K (.ref f) = true ∧ Binds K fd ps [] ∧ FnQ P w K mg base k f fd ps sp
/-- a def stands at the top under its name -/
structure DefAt (K : PySem.W.Frag) (mg : Str → Option Value) (x : Str) (st : Stmt) (ps : List Str) : Prop where
  at' : ∃ (f : Addr) (fd : FuncData), Fun K x x st f fd ∧ mg x = some (.ref f) ∧ Binds K fd ps []
section
variable {P : Program} {w : World} {K : PySem.W.Frag} {mg : Str → Option Value} {base : Heap} {k j : Nat} {x : Str} {ps : List Str} {sp : Sp}
theorem Has.mono (h : Has P w K mg base j x ps sp) (le : j ≤ k) : Has P w K mg base k x ps sp := by
  obtain ⟨f, fd, a, b, c, F⟩ := h.at'
  exact ⟨f, fd, a, b, c, F.mono le⟩
theorem DefAt.has {st : Stmt} {N : List Str} (D : DefAt K mg x st ps) (S : FnScope N ps (defScope st)) (len : ∀ vs H Q E, sp vs H Q E → vs.length = ps.length)
    (hbody : ∀ (X : Cx) (H : Hp) (vs : List V) (Q : VK) (E : XK), X.prog = P → X.w = w → X.K = K → X.mg = mg → X.base = base → X.N = N → X.env.scope = defScope st → X.calm = true → Room k X.A → sp vs H Q E →
      ∃ t, PSs X (defBody st) t ∧ t { nx := fun _ H' => Q .non H', rt := Q } (start N vs) H) : Has P w K mg base (k + 1) x ps sp := by
  obtain ⟨f, fd, F, m, b⟩ := D.at'
  exact ⟨f, fd, m, F.kp, b, F.ok S len fun cdv A outer s H vs Q E hr h => hbody (cxOf CX0 P w K mg base N x (defScope st) f cdv A outer s H E).nox H vs Q E rfl rfl rfl rfl rfl rfl rfl rfl hr h⟩
end
section
variable {X : Cx} {k : Nat} {ps : List Str} {sp : Sp} {x : Str} {p pos : Pos} {e : Expr} {es : List Expr} {t : TA}
theorem pe_has {P : Program} {w : World} {K : PySem.W.Frag} {mg : Str → Option Value} {base : Heap} (h : Has P w K mg base k x ps sp) (h1 : X.prog = P) (h2 : X.w = w) (h3 : X.K = K) (h4 : X.mg = mg) (h5 : X.base = base) (hr : Room k X.A) (hg : Gl X x) (ha : PA X (e :: es) t)
    (hdb : (x == ("__debug__" : Str)) = false := by decide) (he : starEach (e :: es) X.env = (false, eval e X.env) :: starEach es X.env := by rfl) (hpl : (backTo pos (starEach es X.env)).any (·.1) = false := by rfl) :
    PE X (.Call (.Name x p) (e :: es) [] pos) (tCall sp [] E0 t) := by
  subst h1 h2 h3 h4 h5
  obtain ⟨f, fd, a, b, c, F⟩ := h.at'
  exact pe_call F hr hg a b c .nil pass0 ha hdb he hpl
end
end RX
end

section
set_option Elab.async false
set_option linter.all false
set_option maxRecDepth 100000
set_option maxHeartbeats 4000000
/-! tables with keys that are nested tuples, as data; by an AI agent -/
namespace RX
open PySem PySem.Spec L2
open Evl (Ex Ev EvT EvA EvL EvU RV RC)

/-! ### keys and data -/
mutual
def nk : PyData → NestedKey
  | .int i => .num i
  | .str s => .text s
  | .tuple l => .tup (nks l)
  | _ => .none
def nks : List PyData → List NestedKey
  | [] => []
  | d :: r => nk d :: nks r
end
mutual
theorem nk_data : ∀ k : NestedKey, nk k.data = k
  | .none => by simp [NestedKey.data, nk]
  | .num i => by rw [NestedKey.data, nk]
  | .text s => by rw [NestedKey.data, nk]
  | .tup l => by rw [NestedKey.data, nk, nks_datas l]
theorem nks_datas : ∀ l : List NestedKey, nks (NestedKey.datas l) = l
  | [] => by rw [NestedKey.datas, nks]
  | k :: r => by rw [NestedKey.datas, nks, nk_data k, nks_datas r]
end
theorem data_inj {k j : NestedKey} (h : k.data = j.data) : k = j := by rw [← nk_data k, ← nk_data j, h]
mutual
/-- data that may be a key -/
def keyD : PyData → Bool
  | .none => true
  | .int _ => true
  | .str _ => true
  | .tuple l => keyAllD l
  | _ => false
def keyAllD : List PyData → Bool
  | [] => true
  | d :: r => keyD d && keyAllD r
end
mutual
theorem data_nk : ∀ d : PyData, keyD d = true → (nk d).data = d
  | .none, _ => by simp [nk, NestedKey.data]
  | .int i, _ => by simp [nk, NestedKey.data]
  | .str s, _ => by simp [nk, NestedKey.data]
  | .tuple l, h => by rw [nk, NestedKey.data, datas_nks l (by rw [keyD] at h; exact h)]
  | .bool b, h => by simp [keyD] at h
  | .list l, h => by simp [keyD] at h
  | .dict l, h => by simp [keyD] at h
theorem datas_nks : ∀ l : List PyData, keyAllD l = true → NestedKey.datas (nks l) = l
  | [], _ => by rw [nks, NestedKey.datas]
  | d :: r, h => by
    rw [keyAllD, Bool.and_eq_true] at h
    rw [nks, NestedKey.datas, data_nk d h.1, datas_nks r h.2]
end
mutual
theorem nk_depth : ∀ d : PyData, (nk d).depth ≤ d.depth
  | .none => by simp [nk, NestedKey.depth]
  | .int i => by simp [nk, NestedKey.depth]
  | .str s => by simp [nk, NestedKey.depth]
  | .tuple l => by
    have := nks_depth l
    rw [nk, NestedKey.depth, PyData.depth]
    omega
  | .bool b => by simp [nk, NestedKey.depth]
  | .list l => by simp [nk, NestedKey.depth]
  | .dict l => by simp [nk, NestedKey.depth]
theorem nks_depth : ∀ l : List PyData, NestedKey.depthAll (nks l) ≤ PyData.depthAll l
  | [] => by simp [nks, NestedKey.depthAll]
  | d :: r => by
    have a := nk_depth d
    have b := nks_depth r
    rw [nks, NestedKey.depthAll, PyData.depthAll]
    omega
end

/-! ### what stays -/
structure DS (K : PySem.W.Frag) (H H' : Hp) : Prop where
  l : ∀ a xs, SqL K H a xs → SqL K H' a xs
  t : ∀ a xs, SqT K H a xs → SqT K H' a xs
section
variable {K : PySem.W.Frag} {H H' H1 : Hp}
theorem DS.dp (s : DS K H H') {v : V} {d : PyData} (h : Dp K H v d) : Dp K H' v d := dp_map s.l s.t h
theorem DS.all (s : DS K H H') {vs : List V} {ds : List PyData} (h : DpAll K H vs ds) : DpAll K H' vs ds := dpAll_map s.l s.t h
theorem DS.refl : DS K H H := ⟨fun _ _ h => h, fun _ _ h => h⟩
theorem DS.trans (s : DS K H H') (t : DS K H' H1) : DS K H H1 := ⟨fun a xs h => t.l a xs (s.l a xs h), fun a xs h => t.t a xs (s.t a xs h)⟩
theorem DS.of (e : Ex H H') : DS K H H' := ⟨fun _ _ h => sq_mono e h, fun _ _ h => st_mono e h⟩
/-- all stays but what stands at these -/
def Buts (ms : List Addr) (H H' : Hp) : Prop := ∀ b o, b ∉ ms → H b = some o → H' b = some o
theorem Buts.refl (ms : List Addr) (H : Hp) : Buts ms H H := fun _ _ _ h => h
theorem Buts.trans {ms : List Addr} (a : Buts ms H H') (b : Buts ms H' H1) : Buts ms H H1 := fun c o n h => b c o n (a c o n h)
theorem Buts.of {ms : List Addr} (e : Ex H H') : Buts ms H H' := fun b o _ h => e b o h
theorem Buts.ofBut {ms : List Addr} {m : Addr} (e : But m H H') (h : m ∈ ms) : Buts ms H H' := fun b o n q => e b o (fun z => n (z ▸ h)) q
theorem Buts.upd {ms : List Addr} {m : Addr} (e : Buts ms H H') (h : m ∈ ms) (o : HO) : Buts ms H (upd H' m o) := fun b u n q => by
  rw [upd_ne (fun z => n (by rw [z]; exact h))]; exact e b u n q
theorem Buts.sub {ms ns : List Addr} (e : Buts ms H H') (h : ∀ m ∈ ms, m ∈ ns) : Buts ns H H' := fun b u n q => e b u (fun z => n (h b z)) q
theorem Buts.ds {ms : List Addr} (n : ∀ m ∈ ms, NoSeq H m) (h : Buts ms H H') : DS K H H' := by
  refine ⟨fun a xs q => ?_, fun a xs q => ?_⟩
  · rcases q with q | q
    · have na : a ∉ ms := fun z => (n a z).1 _ q
      rcases q with q | ⟨o, q⟩
      · exact .inl (.inl (h _ _ na q))
      · exact .inl (.inr ⟨o, h _ _ na q⟩)
    · exact .inr q
  · rcases q with q | q
    · have na : a ∉ ms := fun z => (n a z).2 _ q
      rcases q with q | ⟨o, q⟩
      · exact .inl (.inl (h _ _ na q))
      · exact .inl (.inr ⟨o, h _ _ na q⟩)
    · exact .inr q
theorem NoSeq.none {m : Addr} (h : H m = none) : NoSeq H m := by
  refine ⟨fun xs r => ?_, fun xs r => ?_⟩ <;>
  · rcases r with r | ⟨ob, r⟩
    · rw [h] at r; cases r
    · rw [h] at r; cases r
theorem NoSeq.ext {m : Addr} {p : Heap → Prop} (h : H m = some (.ext p)) : NoSeq H m := .of h (fun _ z => nomatch z) (fun _ z => nomatch z) (fun _ _ z => nomatch z)
theorem NoSeq.frz {m : Addr} {p : Heap → Prop} {ob : Obj} (h : H m = some (.frz ob (.ext p))) : NoSeq H m := by
  refine ⟨fun xs r => ?_, fun xs r => ?_⟩ <;>
  · rcases r with r | ⟨ob, r⟩
    · rw [h] at r; cases r
    · rw [h] at r; cases r
theorem DS.upd {m : Addr} (n : NoSeq H m) (o : HO) : DS K H (L2.upd H m o) := Buts.ds (ms := [m]) (fun x hx => by rw [List.mem_singleton.mp hx]; exact n) ((Buts.refl _ H).upd (List.mem_singleton.mpr rfl) o)
theorem keysOk_ds (s : DS K H H') {kvs : List Ent} (h : KeysOk K H kvs) : KeysOk K H' kvs := fun e he => ⟨s.dp (h e he).1, (h e he).2⟩
end

/-! ### entries -/
theorem entAt_mem : ∀ {kvs : List Ent} {k : NestedKey} {p : Addr × V}, entAt kvs k = some p → (k, p) ∈ kvs
  | [], _, _, h => nomatch h
  | e :: r, k, p, h => by
    by_cases q : e.1 = k
    · rw [entAt_pos q] at h
      cases h
      subst q
      exact List.mem_cons_self
    · rw [entAt_neg q] at h
      exact List.mem_cons_of_mem _ (entAt_mem h)
theorem entAt_isSome {kvs : List Ent} {k : NestedKey} : (entAt kvs k).isSome = true ↔ k ∈ kvs.map (·.1) := by
  induction kvs with
  | nil => simp [entAt]
  | cons e r ih =>
    by_cases q : e.1 = k
    · rw [entAt_pos q]; simp [q]
    · rw [entAt_neg q, ih]
      simp only [List.map_cons, List.mem_cons]
      constructor
      · exact fun h => .inr h
      · rintro (h | h)
        · exact absurd h.symm q
        · exact h
theorem entAt_get : ∀ {kvs : List Ent} {e : Ent}, (kvs.map (·.1)).Nodup → e ∈ kvs → entAt kvs e.1 = some e.2
  | [], _, _, h => nomatch h
  | x :: r, e, n, h => by
    rw [List.map_cons, List.nodup_cons] at n
    by_cases q : x.1 = e.1
    · rcases List.mem_cons.mp h with h | h
      · rw [entAt_pos q, h]
      · exact absurd (q ▸ List.mem_map_of_mem h) n.1
    · rcases List.mem_cons.mp h with h | h
      · exact absurd (by rw [h]) q
      · rw [entAt_neg q]; exact entAt_get n.2 h
theorem entPut_all {kφ : NestedKey → Addr → Prop} {vφ : V → Prop} {kvs : List Ent} {k : NestedKey} {b : Addr} {v : V} (h : ∀ e ∈ kvs, kφ e.1 e.2.1 ∧ vφ e.2.2) (hk : kφ k b) (hv : vφ v) : ∀ e ∈ entPut kvs k b v, kφ e.1 e.2.1 ∧ vφ e.2.2 := by
  intro e he
  unfold entPut at he
  split at he
  · obtain ⟨x, hx, rfl⟩ := List.mem_map.mp he
    have := h x hx
    by_cases q : x.1 = k
    · rw [if_pos q]; exact ⟨this.1, hv⟩
    · rw [if_neg q]; exact this
  · rcases List.mem_append.mp he with he | he
    · exact h e he
    · rw [List.mem_singleton.mp he]; exact ⟨hk, hv⟩
theorem entPut_keys {kvs : List Ent} {k : NestedKey} {b : Addr} {v : V} (n : (kvs.map (·.1)).Nodup) : ((entPut kvs k b v).map (·.1)).Nodup := by
  unfold entPut
  split
  · rw [List.map_map]
    have : ((fun e : Ent => e.1) ∘ fun e => if e.1 = k then (e.1, e.2.1, v) else e) = fun e => e.1 := by
      funext e
      show (if e.1 = k then (e.1, e.2.1, v) else e).1 = e.1
      split <;> rfl
    rw [this]; exact n
  · rename_i h
    rw [List.map_append, List.nodup_append]
    refine ⟨n, by simp, fun x hx y hy => ?_⟩
    have : y = k := by simpa using hy
    subst this
    intro z
    subst z
    exact h (entAt_isSome.mpr hx)
theorem entDrop_keys {kvs : List Ent} {k : NestedKey} (n : (kvs.map (·.1)).Nodup) : ((entDrop kvs k).map (·.1)).Nodup := by
  unfold entDrop
  exact List.Pairwise.sublist (List.Sublist.map _ List.filter_sublist) n
theorem entDrop_all {φ : Ent → Prop} {kvs : List Ent} {k : NestedKey} (h : ∀ e ∈ kvs, φ e) : ∀ e ∈ entDrop kvs k, φ e := fun e he => h e (List.mem_filter.mp he).1

/-! ### readings over tables -/
section
variable {P : Program} {w : World} {K : PySem.W.Frag} {σ : L2.St} {H H' : Hp} {td ty tx tv te : TE} {a : Addr} {kvs : List Ent} {k : NestedKey} {v : V}
theorem key_ref {ds : List PyData} (h : Dp K H v (.tuple ds)) : ∃ b, v = .ref b ∧ Dp K H (.ref b) (.tuple ds) := by
  obtain ⟨b, xs, rfl, _⟩ := dp_tup h
  exact ⟨b, rfl, h⟩
theorem ev_nget {ds : List PyData} {c : Addr} (ha : Ev td σ H (.ref a)) (hb : EvD K ty σ H (.tuple ds)) (hr : Rd H a (HD P w a kvs)) (ko : KeysOk K H kvs) (hk : k.data = .tuple ds) (hd : k.depth ≤ 8) (he : entAt kvs k = some (c, v)) : Ev (tNGet P w K td ty) σ H v := fun H1 m Q q =>
  ha H1 m _ fun H2 e2 => hb H2 (m.trans e2) _ fun y H3 e3 hy => by
    obtain ⟨b, rfl, hb'⟩ := key_ref hy
    have E := (m.trans e2).trans e3
    exact ⟨a, kvs, k, c, v, rfl, ⟨b, rfl, Evl.ex_rd E hr, keysOk_ds (DS.of E) ko, by rw [hk]; exact hb', hd⟩, he, q H3 (e2.trans e3)⟩
theorem ev_nin {ds : List PyData} (hb : EvD K ty σ H (.tuple ds)) (ha : Ev td σ H (.ref a)) (hr : Rd H a (HD P w a kvs)) (ko : KeysOk K H kvs) (hk : k.data = .tuple ds) (hd : k.depth ≤ 8) : Ev (tNIn P w K ty td) σ H (.bl (entAt kvs k).isSome) := fun H1 m Q q =>
  hb H1 m _ fun y H2 e2 hy => ha H2 (m.trans e2) _ fun H3 e3 => by
    obtain ⟨b, rfl, hb'⟩ := key_ref (dp_ex e3 hy)
    have E := (m.trans e2).trans e3
    exact ⟨a, kvs, k, rfl, ⟨b, rfl, Evl.ex_rd E hr, keysOk_ds (DS.of E) ko, by rw [hk]; exact hb', hd⟩, q H3 (e2.trans e3)⟩
theorem ev_nget2 {ds : List PyData} {z : V} (ha : Ev td σ H (.ref a)) (hb : EvD K ty σ H (.tuple ds)) (hz : Ev tx σ H z) (hr : Rd H a (HD P w a kvs)) (ko : KeysOk K H kvs) (hk : k.data = .tuple ds) (hd : k.depth ≤ 8) : Ev (tNGet2 P w K td ty tx) σ H (((entAt kvs k).map (·.2)).getD z) := fun H1 m Q q =>
  ha H1 m _ fun H2 e2 => ⟨a, rfl, ⟨kvs, Evl.ex_rd (m.trans e2) hr⟩, hb H2 (m.trans e2) _ fun y H3 e3 hy => hz H3 ((m.trans e2).trans e3) _ fun H4 e4 => by
    obtain ⟨b, rfl, hb'⟩ := key_ref (dp_ex e4 hy)
    have E := ((m.trans e2).trans e3).trans e4
    exact ⟨kvs, k, ⟨b, rfl, Evl.ex_rd E hr, keysOk_ds (DS.of E) ko, by rw [hk]; exact hb', hd⟩, q H4 ((e2.trans e3).trans e4)⟩⟩
/-- d[k] = v -/
theorem s_nput {D : Ends} {ds : List PyData} {x : PyData} (hv : EvD K tv σ H x) (ha : Ev td σ H (.ref a)) (hb : EvD K ty σ H (.tuple ds)) (hr : H a = some (HD P w a kvs)) (ko : KeysOk K H kvs) (hk : k.data = .tuple ds) (hd : k.depth ≤ 8) (hz : kvs.length < 100000)
    (q : ∀ v b H1, Ex H H1 → Dp K H1 v x → Dp K H1 (.ref b) k.data → D.nx σ (upd H1 a (HD P w a (entPut kvs k b v)))) : sNPut P w K td ty tv D σ H :=
  hv H (Ex.refl H) _ fun v H1 e1 hv' => ha H1 e1 _ fun H2 e2 => hb H2 (e1.trans e2) _ fun y H3 e3 hy => by
    obtain ⟨b, rfl, hb'⟩ := key_ref hy
    have E := (e1.trans e2).trans e3
    rw [← hk] at hb'
    exact ⟨a, kvs, k, b, rfl, rfl, E _ _ hr, keysOk_ds (DS.of E) ko, hb', hd, Evl.sz_lt hz, q v b H3 E (dp_ex (e2.trans e3) hv') hb'⟩
/-- d.pop(k) -/
theorem m_npop {ds : List PyData} {c : Addr} {Q : VK} (ha : Ev td σ H (.ref a)) (hb : EvD K ty σ H (.tuple ds)) (hr : H a = some (HD P w a kvs)) (ko : KeysOk K H kvs) (hk : k.data = .tuple ds) (hd : k.depth ≤ 8) (he : entAt kvs k = some (c, v))
    (q : ∀ H1, Ex H H1 → Q v (upd H1 a (HD P w a (entDrop kvs k)))) : tNPop P w K td ty σ H Q :=
  ha H (Ex.refl H) _ fun H2 e2 => ⟨a, rfl, ⟨kvs, .inl (e2 _ _ hr)⟩, hb H2 e2 _ fun y H3 e3 hy => by
    obtain ⟨b, rfl, hb'⟩ := key_ref hy
    have E := e2.trans e3
    exact ⟨kvs, k, b, c, v, rfl, E _ _ hr, keysOk_ds (DS.of E) ko, by rw [hk]; exact hb', hd, he, q H3 E⟩⟩
end

theorem pe_ngetK {X : Cx} {o i : Expr} {pos : Pos} {td ty : TE} (P : Program) (w : World) (K : PySem.W.Frag) (h1 : X.prog = P) (h2 : X.w = w) (h3 : X.K = K) (hu : X.A.units + 9 < cLine) (ho : PE X o td) (hi : PE X i ty) (hs : NoSl i) : PE X (.Subscript o i pos) (tNGet P w K td ty) := by
  subst h1 h2 h3
  exact pe_nget hu ho hi hs
/-! ### for k in d -/
section
variable {P : Program} {w : World} {K : PySem.W.Frag} {σ : L2.St} {H : Hp} {td : TE} {d : Addr} {kvs : List Ent} {g : TG} {tb : TS} {D : Ends}
theorem s_forKN (hd : H d = some (HD P w d kvs)) (ht : ∀ H1, Ev td σ H1 (.ref d)) (Pv : Obj → Nat → L2.St → Hp → Prop) (h0 : ∀ o H1, Ex (upd H d (.frz o (HD P w d kvs))) H1 → Pv o 0 σ H1)
    (hf : ∀ o i σ' H', Pv o i σ' H' → H' d = some (.frz o (HD P w d kvs)))
    (hs : ∀ o i e σ' H', kvs[i]? = some e → Pv o i σ' H' → g (.ref e.2.1) σ' H' fun σ2 H2 => tb { nx := Pv o (i + 1), ct := Pv o (i + 1), bk := fun σ' H' => H' d = some (.frz o (HD P w d kvs)) ∧ D.nx σ' (upd H' d (HD P w d kvs)), rt := fun v H' => H' d = some (.frz o (HD P w d kvs)) ∧ D.rt v (upd H' d (HD P w d kvs)) } σ2 H2)
    (he : ∀ o σ' H', Pv o kvs.length σ' H' → D.nx σ' (upd H' d (HD P w d kvs))) : tLock (tFor (iKeysN P w td) g tb) D σ H := by
  refine ⟨d, HD P w d kvs, hd, True.intro, fun od => ht _ _ (Ex.refl _) _ fun H1 e1 => ⟨d, od, kvs, rfl, e1 _ _ upd_same, fun i m σ H => m = kvs.length - i ∧ i ≤ kvs.length ∧ Pv od i σ H, ⟨kvs.length, by simp, Nat.zero_le _, h0 od H1 e1⟩, ?_⟩⟩
  rintro i m σ H ⟨rfl, hi, p⟩
  have q := hf _ _ _ _ p
  by_cases hlt : i < kvs.length
  · refine .inr ⟨⟨q, hlt⟩, Pv od (i + 1), fun σ' H' p' => ⟨kvs.length - (i + 1), by omega, rfl, hlt, p'⟩, fun x H' y => ?_⟩
    obtain ⟨rfl, e, h1, rfl⟩ := y
    exact hs od i e σ H' h1 p
  · have : i = kvs.length := by omega
    subst this
    exact .inl ⟨⟨q, Nat.le_refl _⟩, q, he od σ H p⟩
end
end RX
end

section
set_option Elab.async false
set_option linter.all false
set_option maxRecDepth 100000
set_option maxHeartbeats 4000000
/-! comprehensions, sums, slices over data; by an AI agent -/
namespace RX
open PySem PySem.Spec L2
open Evl (Ex Ev EvT EvA EvL EvU RV RC)
section
variable {K : PySem.W.Frag} {H H' : Hp}
mutual
theorem dp_tups (ht : ∀ a xs, SqT K H a xs → SqT K H' a xs) : ∀ {v : V} {d : PyData}, keyD d = true → Dp K H v d → Dp K H' v d
  | _, _, _, .non => .non
  | _, _, _, .bl b => .bl b
  | _, _, _, .int i => .int i
  | _, _, _, .str x => .str x
  | _, _, k, .lst h a => by simp [keyD] at k
  | _, _, k, .tup h a => .tup (ht _ _ h) (dpAll_tups ht (by rw [keyD] at k; exact k) a)
theorem dpAll_tups (ht : ∀ a xs, SqT K H a xs → SqT K H' a xs) : ∀ {vs : List V} {ds : List PyData}, keyAllD ds = true → DpAll K H vs ds → DpAll K H' vs ds
  | _, _, _, .nil => .nil
  | _, _, k, .cons h t => by
    rw [keyAllD, Bool.and_eq_true] at k
    exact .cons (dp_tups ht k.1 h) (dpAll_tups ht k.2 t)
end
theorem sqt_lst {D : Addr} {acc : List V} (h : H D = some (.lst acc)) (o : HO) : ∀ a xs, SqT K H a xs → SqT K (upd H D o) a xs := by
  intro a xs q
  rcases q with q | q
  · have na : a ≠ D := fun z => by
      subst z
      rcases q with q | ⟨ob, q⟩
      · rw [h] at q; cases q
      · rw [h] at q; cases q
    rcases q with q | ⟨ob, q⟩
    · exact .inl (.inl (by rw [upd_ne na]; exact q))
    · exact .inl (.inr ⟨ob, by rw [upd_ne na]; exact q⟩)
  · exact .inr q
theorem keyAll_append : ∀ {ds es : List PyData}, keyAllD (ds ++ es) = (keyAllD ds && keyAllD es)
  | [], es => by rw [List.nil_append, keyAllD, Bool.true_and]
  | d :: ds, es => by rw [List.cons_append, keyAllD, keyAllD, keyAll_append, Bool.and_assoc]
theorem keyAll_iff : ∀ {ds : List PyData}, keyAllD ds = true ↔ ∀ d ∈ ds, keyD d = true
  | [] => by simp [keyAllD]
  | d :: ds => by rw [keyAllD, Bool.and_eq_true, keyAll_iff]; simp
variable {σ : L2.St} {tl te ta tb : TE} {ds es : List PyData} {vs : List Nat}
/-- what a comprehension over data has made so far -/
def LcD (K : PySem.W.Frag) (H1 : Hp) (rs : List PyData) (D : Addr) (i : Nat) (H' : Hp) : Prop := H1 D = none ∧ Ex H1 H' ∧ ∃ acc, H' D = some (.lst acc) ∧ DpAll K H' acc (rs.take i)
theorem lcd_turn {H1 H3 : Hp} {rs : List PyData} {D : Addr} {i : Nat} {y : V} {d : PyData} (hk : keyAllD rs = true) (hz : rs.length ≤ 40000) (hi : rs[i]? = some d) (p : LcD K H1 rs D i H3) (hy : Dp K H3 y d) : ∃ acc, H3 D = some (.lst acc) ∧ acc.length < sizeLine ∧ LcD K H1 rs D (i + 1) (upd H3 D (.lst (acc ++ [y]))) := by
  obtain ⟨p1, p2, acc, p3, p4⟩ := p
  have hlt := (List.getElem?_eq_some_iff.mp hi).1
  refine ⟨acc, p3, ?_, p1, Ex.mut p2 p1, acc ++ [y], upd_same, ?_⟩
  · rw [dpAll_len p4, List.length_take]
    exact Evl.sz_lt (by omega)
  · have hd : d ∈ rs := List.mem_of_getElem? hi
    have e : rs.take (i + 1) = rs.take i ++ [d] := by
      rw [List.take_succ, hi]; rfl
    rw [e]
    have k1 : keyAllD (rs.take i) = true := keyAll_iff.mpr fun x hx => keyAll_iff.mp hk x (List.mem_of_mem_take hx)
    exact dpAll_append (dpAll_tups (sqt_lst p3 _) k1 p4) (.cons (dp_tups (sqt_lst p3 _) (keyAll_iff.mp hk d hd) hy) .nil)
/-- [f(x) for x in xs] -/
theorem evd_lcL {j : Nat} {f : PyData → PyData} (h : EvD K tl σ H (.list ds)) (hz : ds.length ≤ 40000) (hk : ∀ d ∈ ds, keyD (f d) = true) (hw : ∀ x, wipe ((wipe σ vs).set j (some x)) vs = wipe σ vs)
    (he : ∀ x d H1, Ex H H1 → d ∈ ds → Dp K H1 x d → EvD K te ((wipe σ vs).set j (some x)) H1 (f d)) : EvD K (tLc (iList K tl) (gName j) tYes te vs) σ H (.list (ds.map f)) := fun H0 e Q q => h H0 e _ fun v H1 e1 hv => by
  obtain ⟨a, xs, rfl, hs, hd⟩ := dp_lst hv
  have kk : keyAllD (ds.map f) = true := keyAll_iff.mpr fun x hx => by
    obtain ⟨d, hd', rfl⟩ := List.mem_map.mp hx
    exact hk d hd'
  refine ⟨a, rfl, ⟨xs, hs⟩, fun D hD => lc_list (xs := xs) (LcD K H1 (ds.map f) D) ⟨hD, Ex.new hD, [], upd_same, .nil⟩ (fun i H' _ p => sq_mono p.2.1 hs) (fun i x H' hi p => ?_) (fun H' p => ?_)⟩
  · obtain ⟨d, g1, g2⟩ := dpAll_getV hd hi
    refine ⟨hw x, iteT (B := LcD K H1 (ds.map f) D (i + 1) H') (he x d H' ((e.trans e1).trans p.2.1) (List.mem_of_getElem? g1) (dp_ex p.2.1 g2) H' (Ex.refl H') _ fun y H4 e4 hy => ?_)⟩
    refine lcd_turn kk (by rw [List.length_map]; exact hz) (by rw [List.getElem?_map, g1]; rfl) ?_ hy
    obtain ⟨p1, p2, acc, p3, p4⟩ := p
    exact ⟨p1, p2.trans e4, acc, e4 _ _ p3, dpAll_ex e4 p4⟩
  · obtain ⟨p1, p2, acc, p3, p4⟩ := p
    have : xs.length = (ds.map f).length := by rw [List.length_map, dpAll_len hd]
    rw [this, List.take_length] at p4
    exact q _ H' (e1.trans p2) (.lst (.inl (.inl p3)) p4)
/-- t + u -/
theorem evd_cat (ha : EvD K ta σ H (.tuple ds)) (hb : EvD K tb σ H (.tuple es)) (hz : ds.length + es.length ≤ 100000) : EvD K (tOp (rCatA K) ta tb) σ H (.tuple (ds ++ es)) := fun H1 m Q q =>
  ha H1 m _ fun v H2 e2 hv => hb H2 (m.trans e2) _ fun u H3 e3 hu => by
    obtain ⟨a, xs, rfl, sa, da⟩ := dp_tup (dp_ex e3 hv)
    obtain ⟨b, ys, rfl, sb, db⟩ := dp_tup hu
    refine ⟨a, b, xs, ys, rfl, rfl, sa, sb, by rw [dpAll_len da, dpAll_len db]; exact Evl.sz_of hz, fun z => ?_, fun z1 z2 => ?_, fun z1 z2 p hp => ?_⟩
    · subst z
      cases da
      exact q _ H3 (e2.trans e3) hu
    · subst z2
      cases db
      exact q _ H3 (e2.trans e3) (by rw [List.append_nil]; exact dp_ex e3 hv)
    · exact q _ _ ((e2.trans e3).trans (Ex.new hp)) (.tup (.inl (.inl upd_same)) (dpAll_append (dpAll_ex (Ex.new hp) da) (dpAll_ex (Ex.new hp) db)))
/-- tuple(xs) -/
theorem dpAll_cut {xs : List V} {ds : List PyData} (lo hi : Option Int) (h : DpAll K H xs ds) : DpAll K H (cutV xs lo hi) ((ds.drop (HT.sIx ds.length 0 lo)).take (HT.sIx ds.length ds.length hi - HT.sIx ds.length 0 lo)) := by
  unfold cutV
  rw [dpAll_len h]
  exact dpAll_take _ (dpAll_drop _ h)
def cutD (ds : List PyData) (lo hi : Option Int) : List PyData := (ds.drop (HT.sIx ds.length 0 lo)).take (HT.sIx ds.length ds.length hi - HT.sIx ds.length 0 lo)
theorem cut_whole {ds : List PyData} {lo hi : Option Int} (h : HT.sIx ds.length 0 lo = 0 ∧ HT.sIx ds.length ds.length hi = ds.length) : cutD ds lo hi = ds := by
  unfold cutD
  rw [h.1, h.2, List.drop_zero, Nat.sub_zero, List.take_length]
theorem evd_sl {tl th : TO} {lo hi : Option Int} (ha : EvD K ta σ H (.tuple ds)) (h1 : Evl.EvO tl σ H lo) (h2 : Evl.EvO th σ H hi) : EvD K (L2.tSl (rSlA K) ta tl th) σ H (.tuple (cutD ds lo hi)) := fun H1 m Q q =>
  ha H1 m _ fun v H2 e2 hv => h1 H2 (m.trans e2) _ fun H3 e3 => h2 H3 ((m.trans e2).trans e3) _ fun H4 e4 => by
    obtain ⟨a, xs, rfl, sa, da⟩ := dp_tup (dp_ex (e3.trans e4) hv)
    refine ⟨a, xs, rfl, sa, fun z => ?_, fun z p hp => ?_⟩
    · rw [dpAll_len da] at z
      exact q _ H4 ((e2.trans e3).trans e4) (by rw [cut_whole z]; exact dp_ex (e3.trans e4) hv)
    · exact q _ _ (((e2.trans e3).trans e4).trans (Ex.new hp)) (.tup (.inl (.inl upd_same)) (dpAll_ex (Ex.new hp) (dpAll_cut lo hi da)))
theorem evd_tupOf (ha : EvD K ta σ H (.list ds)) : EvD K (tCB (fun xs H Q => ∃ p ys, xs = [.ref p] ∧ ((SqL K H p ys ∧ ∀ l, H l = none → Q (.ref l) (upd H l (.tup ys))) ∨ (SqT K H p ys ∧ Q (.ref p) H))) (tCons ta tNil)) σ H (.tuple ds) := fun H1 m Q q =>
  ha H1 m _ fun v H2 e2 hv => by
    obtain ⟨a, xs, rfl, sa, da⟩ := dp_lst hv
    exact ⟨a, xs, rfl, .inl ⟨sa, fun l hl => q _ _ (e2.trans (Ex.new hl)) (.tup (.inl (.inl upd_same)) (dpAll_ex (Ex.new hl) da))⟩⟩
theorem evd_listOfT (ha : EvD K ta σ H (.tuple ds)) : EvD K (tCB (fun xs H Q => ∃ p ys, xs = [.ref p] ∧ (SqL K H p ys ∨ SqT K H p ys) ∧ ∀ l, H l = none → Q (.ref l) (upd H l (.lst ys))) (tCons ta tNil)) σ H (.list ds) := fun H1 m Q q =>
  ha H1 m _ fun v H2 e2 hv => by
    obtain ⟨a, xs, rfl, sa, da⟩ := dp_tup hv
    exact ⟨a, xs, rfl, .inr sa, fun l hl => q _ _ (e2.trans (Ex.new hl)) (.lst (.inl (.inl upd_same)) (dpAll_ex (Ex.new hl) da))⟩
theorem evd_sorted (ha : EvD K ta σ H (.list ds)) (hs : SortsD ds) : EvD K (tCB (rSortedN K) (tCons ta tNil)) σ H (.list (sortD ds)) := fun H1 m Q q =>
  ha H1 m _ fun v H2 e2 hv => by
    obtain ⟨a, xs, rfl, sa, da⟩ := dp_lst hv
    exact ⟨a, xs, ds, rfl, sa, da, hs, fun p ys hp hy => q _ _ (e2.trans (Ex.new hp)) (.lst (.inl (.inl upd_same)) (dpAll_ex (Ex.new hp) hy))⟩
theorem evd_keys {P : Program} {w : World} {d : Addr} {kvs : List Ent} (ha : Ev ta σ H (.ref d)) (hr : Rd H d (HD P w d kvs)) (ko : KeysOk K H kvs) : EvD K (tCB (fun xs H Q => ∃ d kvs, xs = [V.ref d] ∧ Rd H d (HD P w d kvs) ∧ ∀ p, H p = none → Q (.ref p) (upd H p (.lst (keyRefs kvs)))) (tCons ta tNil)) σ H (.list (keyData kvs)) := fun H1 m Q q =>
  ha H1 m _ fun H2 e2 => ⟨d, kvs, rfl, Evl.ex_rd (m.trans e2) hr, fun p hp => q _ _ (e2.trans (Ex.new hp)) (.lst (.inl (.inl upd_same)) (keys_data (keysOk_ds (DS.of ((m.trans e2).trans (Ex.new hp))) ko)))⟩
end
end RX
end

section
set_option Elab.async false
set_option linter.all false
set_option maxRecDepth 100000
set_option maxHeartbeats 4000000
/-! rows of data in strict order; by an AI agent -/
namespace RX
open PySem PySem.W PyProof.Rows
mutual
theorem eqv_alike : ∀ {x y : PyData}, alike x y = true → PyData.eqv x y = true → x = y
  | .none, y, h, e => by cases y <;> simp [alike] at h; rfl
  | .bool a, y, h, e => by
    cases y <;> simp [alike] at h
    simp [PyData.eqv] at e; rw [e]
  | .int a, y, h, e => by
    cases y <;> simp [alike] at h
    simp [PyData.eqv] at e; rw [e]
  | .str a, y, h, e => by
    cases y <;> simp [alike] at h
    simp [PyData.eqv] at e; rw [e]
  | .list a, y, h, e => by
    cases y <;> simp only [alike, Bool.false_eq_true] at h
    rw [PyData.eqv] at e
    rw [eqvAll_alike h e]
  | .tuple a, y, h, e => by
    cases y <;> simp only [alike, Bool.false_eq_true] at h
    rw [PyData.eqv] at e
    rw [eqvAll_alike h e]
  | .dict a, y, h, e => by cases y <;> simp [alike] at h
theorem eqvAll_alike : ∀ {xs ys : List PyData}, alikeAll xs ys = true → PyData.eqvAll xs ys = true → xs = ys
  | [], ys, h, e => by cases ys <;> simp [PyData.eqvAll] at e; rfl
  | x :: xs, [], h, e => by simp [PyData.eqvAll] at e
  | x :: xs, y :: ys, h, e => by
    rw [alikeAll, Bool.and_eq_true] at h
    rw [PyData.eqvAll, Bool.and_eq_true] at e
    rw [eqv_alike h.1 e.1, eqvAll_alike h.2 e.2]
end
theorem toks_inj {x y : PyData} (h : alike x y = true) (e : keyToks x = keyToks y) : x = y := by
  cases q : PyData.eqv x y with
  | true => exact eqv_alike h q
  | false =>
    have t := (toks_eqv x y h).2 q [] [Sum.inl 0]
    rw [← e, lex_irrefl, List.append_nil] at t
    have t2 := lex_pre (keyToks x) [] [Sum.inl 0]
    rw [List.append_nil, t] at t2
    exact absurd t2 (by decide)
theorem dataLt_tri {x y : PyData} (h : alike x y = true) (n : x ≠ y) (h' : dataLt y x = false) : dataLt x y = true := by
  cases q : dataLt x y with
  | true => rfl
  | false => exact absurd (toks_inj h (lex_total _ _ q h')) n
theorem dataLt_irr (x : PyData) : dataLt x x = false := lex_irrefl _
theorem dataLt_trans {x y z : PyData} (h : dataLt x y = true) (g : dataLt y z = true) : dataLt x z = true := lex_trans _ _ _ h g
theorem dataLt_asymm {x y : PyData} (h : dataLt x y = true) : dataLt y x = false := by
  cases q : dataLt y x with
  | false => rfl
  | true => have := dataLt_trans h q; rw [dataLt_irr] at this; cases this
/-- a row in strict order -/
def Strict (l : List PyData) : Prop := l.Pairwise fun a b => dataLt a b = true
theorem le_iff (a b : PyData) : dataLe false id a b = !dataLt b a := rfl
theorem sortD_perm (ds : List PyData) : (sortD ds).Perm ds := List.mergeSort_perm _ _
theorem sortD_mem {ds : List PyData} {d : PyData} : d ∈ sortD ds ↔ d ∈ ds := (sortD_perm ds).mem_iff
theorem sortD_len (ds : List PyData) : (sortD ds).length = ds.length := (sortD_perm ds).length_eq
theorem sortD_sorted (ds : List PyData) : (sortD ds).Pairwise fun a b => dataLt b a = false := by
  have h := List.pairwise_mergeSort (le := dataLe false id) (fun a b c h1 h2 => ?_) (fun a b => ?_) ds
  · exact h.imp fun {a b} q => by rw [le_iff] at q; simpa using q
  · rw [le_iff] at *
    cases hca : dataLt c a with
    | false => rfl
    | true =>
      rcases lex_negTrans (O := itemOrd) _ (keyToks b) _ hca with q | q
      · have : dataLt c b = true := q
        rw [this] at h2; simp at h2
      · have : dataLt b a = true := q
        rw [this] at h1; simp at h1
  · rw [le_iff, le_iff]
    cases h1 : dataLt b a with
    | false => rfl
    | true => rw [dataLt_asymm h1]; rfl
theorem sortD_strict {ds : List PyData} (hn : ds.Nodup) (ha : AllAlike ds) : Strict (sortD ds) := by
  have h1 := sortD_sorted ds
  have h2 : (sortD ds).Nodup := (sortD_perm ds).nodup_iff.mpr hn
  unfold Strict
  refine List.Pairwise.imp_of_mem ?_ (h1.and h2)
  intro a b hma hmb q
  have al : alike a b = true := ha a (sortD_mem.mp hma) b (sortD_mem.mp hmb)
  exact dataLt_tri al q.2 q.1
theorem strict_mergeSort {ds : List PyData} (h : Strict ds) : sortD ds = ds := by
  have hs : ds.Pairwise fun a b => dataLe false id a b = true := h.imp fun {a b} q => by rw [le_iff, dataLt_asymm q]; rfl
  exact List.mergeSort_of_pairwise hs
/-- one row for each set -/
theorem strict_unique : ∀ {l m : List PyData}, Strict l → Strict m → (∀ d, d ∈ l ↔ d ∈ m) → l = m
  | [], [], _, _, _ => rfl
  | [], b :: m, _, _, h => by have := (h b).mpr List.mem_cons_self; cases this
  | a :: l, [], _, _, h => by have := (h a).mp List.mem_cons_self; cases this
  | a :: l, b :: m, h1, h2, h => by
    have p1 := List.pairwise_cons.mp h1
    have p2 := List.pairwise_cons.mp h2
    have e : a = b := by
      rcases List.mem_cons.mp ((h a).mp List.mem_cons_self) with q | q
      · exact q
      · rcases List.mem_cons.mp ((h b).mpr List.mem_cons_self) with r | r
        · exact r.symm
        · have x := p2.1 a q
          have y := p1.1 b r
          rw [dataLt_asymm x] at y; cases y
    subst e
    rw [strict_unique p1.2 p2.2 fun d => ?_]
    constructor
    · intro hd
      rcases List.mem_cons.mp ((h d).mp (List.mem_cons_of_mem _ hd)) with q | q
      · subst q; have := p1.1 _ hd; rw [dataLt_irr] at this; cases this
      · exact q
    · intro hd
      rcases List.mem_cons.mp ((h d).mpr (List.mem_cons_of_mem _ hd)) with q | q
      · subst q; have := p2.1 _ hd; rw [dataLt_irr] at this; cases this
      · exact q
end RX
end

section
set_option Elab.async false
set_option linter.all false
set_option maxRecDepth 100000
set_option maxHeartbeats 4000000
/-! sorted(d) of a dict with nested keys; by an AI agent -/
namespace RX
open PySem PySem.Spec PySem.W L2 PyProof.Rows
open Evl (Ex Ev EvT EvA EvL EvU RV RC)
section
variable {X : Cx}
def rSortedDN (P : Program) (w : World) (K : PySem.W.Frag) : List V → Hp → VK → Prop := fun xs H Q => ∃ d kvs, xs = [V.ref d] ∧ Rd H d (HD P w d kvs) ∧ KeysOk K H kvs ∧ SortsD (keyData kvs) ∧ ∀ p ys, H p = none → DpAll K H ys (sortD (keyData kvs)) → Q (.ref p) (upd H p (.lst ys))
theorem call_sortedDN (hc : X.calm = true) (hu : X.A.units + 45 < cLine) : CallR X (.builtin "sorted") (rSortedDN X.prog X.w X.K) := by
  intro pins s σ H xs us Q I r h
  obtain ⟨d, kvs, rfl, hd, ko, so, q⟩ := h
  obtain ⟨u, rfl, rx⟩ := r.one
  cases rx
  obtain ⟨⟨z, hs, ks, pr, o, es, ep, ho, hx, hdt, he, hn⟩, _, _⟩ := (show ObjOk X.prog X.w H s.heap d (HD X.prog X.w d kvs) from hd.ok I.hok)
  have l1 : es.size = ks.length := size_of_entries he
  have l2 : kvs.length = ks.length := Paired.length pr
  refine Calls.call_function_entry PyProof.Rows.kind_sorted PyProof.Rows.plain_sorted PyProof.Rows.entry_sorted (PyProof.Rows.args_sorted1 _) ?_
  unfold Builtin.«sorted»
  refine wpAny_bind (m := checkCount "sorted" 1 1 _) (wpAny_pure ?_)
  refine wpAny_bind (PySem.W.kdu_collect (A := X.A.in1) (kdl_raw hs hx hdt) (I.ok.hd hc) ho (by omega) fun h' tk acc' hk it => ?_)
  have ea : acc'.toList = ks.map fun x => Value.ref x.2.1 := by
    have hl : acc'.toList.length = ks.length := by rw [Array.length_toList, it.1]; exact l1
    apply List.ext_getElem?
    intro j
    rw [List.getElem?_map]
    cases hj : acc'.toList[j]? with
    | none =>
      have h1 := List.getElem?_eq_none_iff.mp hj
      rw [List.getElem?_eq_none (by omega)]
      all_goals rfl
    | some v =>
      obtain ⟨en, hen, hv⟩ := it.2 j v (by rw [← Array.getElem?_toList]; exact hj)
      have qe := entry_at he j
      rw [hen] at qe
      cases hb : ks[j]? with
      | none =>
        rw [hb] at qe
        exact nomatch (show some en = none from qe)
      | some b =>
        rw [hb] at qe
        have e2 : en = entryOfKey (nestedKind X.prog X.w) b := Option.some.inj qe
        rw [hv, e2]
        all_goals rfl
  have rv : L2.Vals (keyRefs kvs) acc'.toList := by rw [ea]; exact keys_vals pr
  have I1 : Inv X pins σ H { s with heap := h', toks := tk } := I.kept hk
  have hal : acc'.toList.length = ks.length := by rw [ea, List.length_map]
  have hdd := each_of rv (keys_data ko)
  have er : EachIs (fun v d => ∃ as, Reads h' v (id d) as) acc'.toList (keyData kvs) := each_reads I1 hdd
  refine wpAny_bind (wpAny_newList ?_ (by rw [hal]; omega))
  have hoL : (h'.push (seqObj "list" acc'.toList.toArray 0)).get? h'.objs.size = some (seqObj "list" acc'.toList.toArray 0) := Heap.get?_push_size _ rfl
  show wpAny _ _ _ _ _ { s with heap := h'.push (seqObj "list" acc'.toList.toArray 0), toks := tk }
  have old : ∀ b u, h'.get? b = some u → (sortingHeap (h'.push (seqObj "list" acc'.toList.toArray 0)) h'.objs.size acc'.toList).get? b = some u := fun b u e => sortingHeap_old (Nat.ne_of_lt (Heap.lt_size e)) (Heap.get?_push_of_some _ e)
  have er' : EachIs (fun v d => ∃ as, Reads (sortingHeap (h'.push (seqObj "list" acc'.toList.toArray 0)) h'.objs.size acc'.toList) v (id d) as) acc'.toList (keyData kvs) := er.mono fun _ _ ⟨as, r⟩ => ⟨as, PyProof.Rows.Reads.keeps old r⟩
  refine wpAny_bind (wpAny_holding (wpAny_call_entry PyProof.Rows.slot_list_sort ⟨_, hoL, rfl⟩ PyProof.Rows.entry_list_sort
    (list_sort_vals (s := { s with heap := h'.push (seqObj "list" acc'.toList.toArray 0), toks := tk }) hoL (sortsAt (s := { s with heap := sortingHeap (h'.push (seqObj "list" acc'.toList.toArray 0)) h'.objs.size acc'.toList, toks := tk }) er' so.alike so.kinds (fun b hb => ?_)) (by rw [hal]; omega) ⟨_, rfl, ?_⟩)
    (PyProof.Rows.args_list_sort _)))
  · have := so.depth b hb
    show X.A.units + 2 + b.depth < cLine
    omega
  have out := sortVals_data (R := StandsFor X.K H) (enc := id) (bs := keyData kvs) false hdd er' (by rw [List.map_id]; exact so.alike)
  rw [List.map_id] at out
  obtain ⟨ys, y1, y2⟩ := each_back out
  obtain ⟨e', he'⟩ := PyProof.Rows.sortedHeap_at (vs := acc'.toList) (out := (sortVals (dataKind (sortingHeap (h'.push (seqObj "list" acc'.toList.toArray 0)) h'.objs.size acc'.toList) (keyData kvs)) false acc'.toList acc'.toList).toArray) hoL
  have hlen : ys.length ≤ sizeLine := by
    rw [Vals.length y1, sortVals_length false rfl, hal]
    omega
  refine wpAny_pure ⟨_, rfl, .ref h'.objs.size, upd H h'.objs.size (.lst ys), I1.laid (t' := tk) (fun b u e => ?_) (Nat.le_refl _)
    (show ObjOk X.prog X.w _ _ _ (.lst ys) from ⟨hlen, _, e', y1, he'⟩), rfl, q _ ys (I1.hok.fresh (Nat.le_refl _)) y2⟩
  have hb : b < h'.objs.size := Heap.lt_size e
  rw [PyProof.Rows.sortedHeap_old (Nat.ne_of_lt hb) (by rw [size_push']; exact Nat.lt_succ_of_lt hb)]
  exact Heap.get?_push_of_some _ e
end
section
variable {P : Program} {w : World} {K : PySem.W.Frag} {σ : L2.St} {H : Hp} {ta : TE} {d : Addr} {kvs : List Ent}
theorem evd_sortedKeys (ha : Ev ta σ H (.ref d)) (hr : Rd H d (HD P w d kvs)) (ko : KeysOk K H kvs) (so : SortsD (keyData kvs)) : EvD K (tCB (rSortedDN P w K) (tCons ta tNil)) σ H (.list (sortD (keyData kvs))) := fun H1 m Q q =>
  ha H1 m _ fun H2 e2 => ⟨d, kvs, rfl, Evl.ex_rd (m.trans e2) hr, keysOk_ds (DS.of (m.trans e2)) ko, so, fun p ys hp hy => q _ _ (e2.trans (Ex.new hp)) (.lst (.inl (.inl upd_same)) (dpAll_ex (Ex.new hp) hy))⟩
end
end RX
end

section
set_option Elab.async false
set_option linter.all false
set_option maxRecDepth 100000
set_option maxHeartbeats 4000000
/-! the end of a law whose def wants quiet around it; by an AI agent -/
namespace RX
open PySem PySem.Spec PyProof.Rows L2
/-- the script alone, where it isn't one of the module's own objects -/
def Scr (K : PySem.W.Frag) (a : Addr) (o : Obj) (xs : List V) : Hp := fun b => if b = a ∧ K.lookup a = none then some (.frz o (.lst xs)) else none
section
variable {K : PySem.W.Frag} {a : Addr} {o : Obj} {xs : List V}
theorem scr_none {b : Addr} (h : ¬(b = a ∧ K.lookup a = none)) : Scr K a o xs b = none := if_neg h
theorem scr_some {b : Addr} (h : b = a ∧ K.lookup a = none) : Scr K a o xs b = some (.frz o (.lst xs)) := if_pos h
theorem scr_cases (b : Addr) : Scr K a o xs b = none ∨ (b = a ∧ K.lookup a = none ∧ Scr K a o xs b = some (.frz o (.lst xs))) := by
  by_cases h : b = a ∧ K.lookup a = none
  · exact .inr ⟨h.1, h.2, scr_some h⟩
  · exact .inl (scr_none h)
theorem scr_only : Only (Scr K a o xs) := fun b => (scr_cases b).elim .inl fun h => .inr ⟨_, _, h.2.2⟩
end
theorem call_quiet {P : Program} {w : World} {K : PySem.W.Frag} {mg mb : Str → Option Value} {k : Nat} {fa a : Addr} {x y0 : Str} {sp : Sp} {s : Shared} {us : List Value} {ns : List Int}
    (kin : K.In s.heap) (gN : s.heap.Ns mainGlobals mg) (bN : s.heap.Ns builtinsNs mb) (bb : ∀ y : Str, y ≠ "__name__" → mb y = bootBuiltins y) (lim : s.heap.NoLimit) (gens : s.gens = #[])
    (here : s.heap.get? a = some { cls := .type "list", data := .seq us.toArray }) (whole : IntsAre us ns) (len : ns.length ≤ sizeLine) (room : Room k callerA)
    (at0 : mg y0 = some (.ref fa)) (F : ∀ base : Heap, K.In base → base.Ns mainGlobals mg → HasQ P w K mg base k y0 [x] sp)
    (told : ∀ H : Hp, Only H → SqL K H a (ns.map V.int) → sp [.ref a] H (fun v _ => v = .bl true) fun _ _ _ => False) :
    codeAny (model P w) callerA (.call (.ref fa) ⟨[.ref a], []⟩) (fun r t => r = .ok (.ret (.bool true)) ∧ OldK s.heap t.heap ∧ t.os = s.os ∧ AllBare t.gens) s := by
  have vals := vals_ints whole
  have lu := whole.length
  let ob : Obj := { cls := .type "list", data := .seq us.toArray }
  let S : Hp := Scr K a ob (ns.map V.int)
  have cases' : ∀ b, S b = none ∨ (b = a ∧ K.lookup a = none ∧ S b = some (.frz ob (.lst (ns.map V.int)))) := fun b => scr_cases b
  have stands : SqL K S a (ns.map V.int) := by
    cases hk : K.lookup a with
    | none => exact .inl (.inr ⟨ob, scr_some ⟨rfl, hk⟩⟩)
    | some o' =>
      have e := kin a o' hk
      rw [here] at e
      cases e
      exact .inr ⟨_, us.toArray, _, hk, rfl, rfl, rfl, by rw [List.size_toArray, lu]; exact len, by simpa using vals⟩
  have hok : HOk P w S s.heap := fun b u hb => by
    rcases cases' b with h | ⟨rfl, _, h⟩
    · rw [h] at hb; cases hb
    · rw [h] at hb; cases hb
      exact ⟨here, by rw [List.length_map]; exact len, us, _, vals, here⟩
  have hid : ∀ {b : Addr} {u : Obj}, s.heap.get? b = some u → S b = none → (hidT s.heap S).get? b = some u := fun e n => hidT_get e n
  have dictFree : ∀ {b : Addr} {u : Obj} {es : Array DictEntry} {ep : Nat}, s.heap.get? b = some u → u.data = .dict es ep → S b = none := fun {b u es ep} e d => by
    rcases cases' b with h | ⟨rfl, _, _⟩
    · exact h
    · rw [here] at e; cases e
      exact nomatch (show Data.seq us.toArray _ = Data.dict es ep from d)
  have names : ∀ {b : Addr} {m : Str → Option Value}, s.heap.Ns b m → (hidT s.heap S).Ns b m := fun {b m} ⟨u, es, ep, e, d, r⟩ => ⟨u, es, ep, hid e (dictFree e d), d, r⟩
  have kinB : K.In (hidT s.heap S) := fun b u e => hid (kin b u e) (by
    rcases cases' b with h | ⟨rfl, hn, _⟩
    · exact h
    · rw [hn] at e; cases e)
  have mod : Mod K mg (hidT s.heap S) := ⟨kinB, names gN, ⟨mb, names bN, bb⟩, by obtain ⟨mc, h1, h2⟩ := lim; exact ⟨mc, names h1, h2⟩⟩
  have env : Env0 P w K mg (hidT s.heap S) callerA [] s S := ⟨rfl, mod, fun b u e => of_hidT e, Nat.le_of_eq (hidT_size _ _), trivial, fun b hb => absurd (show b ∈ ([] : List Addr) from hb) (by simp), hok, .of_eq gens⟩
  obtain ⟨f', fd, m', _, bind, FQ⟩ := (F _ kinB (names gN)).at'
  rw [at0] at m'
  cases m'
  refine codeAny_mono (FQ.run callerA [] s S ⟨[.ref a], []⟩ [.ref a] [.ref a] _ _ rfl room env (bind s [.ref a] kin rfl) (.cons rfl .nil) (told S scr_only stands)) fun r t h => ?_
  match r, h with
  | .error e, h => exact h.elim
  | .ok .next, h => exact h.elim
  | .ok .brk, h => exact h.elim
  | .ok .cont, h => exact h.elim
  | .ok (.ret u), h =>
    obtain ⟨v, H', os, bare, un, hok', rel, q⟩ := h
    obtain rfl : v = .bl true := q
    obtain rfl : u = Value.bool true := rel
    refine ⟨rfl, OldK.of_keep fun b u e => ?_, os, bare⟩
    rcases cases' b with h | ⟨rfl, _, h⟩
    · exact un.keep b u e h (fun z => absurd (show b ∈ ([] : List Addr) from z) (by simp)) (by simp)
    · obtain ⟨e2, _⟩ := hok' b _ (un.frzs b ob _ h)
      rw [here] at e; cases e
      exact e2
end RX
end

section
set_option Elab.async false
set_option linter.all false
set_option maxRecDepth 100000
set_option maxHeartbeats 4000000
/-! letters, monomials, polynomials as data; by an AI agent -/
namespace K00
open PySem L2 RX

def smallS : Str := Str.ofString "abcdefghijklmnopqrstuvwxyz"
def digS : Str := Str.ofString "0123456789"
def isSmall (c : Nat) : Bool := decide (c ∈ smallS.cps.toList)
def isDig (c : Nat) : Bool := decide (c ∈ digS.cps.toList)
def isIntD : PyData → Bool
  | .int _ => true
  | _ => false
def isCountD (least : Int) : PyData → Bool
  | .int i => decide (least ≤ i)
  | _ => false
def isPairD : PyData → Bool
  | .tuple [_, _] => true
  | _ => false
def isNameL : List Nat → Bool
  | [] => false
  | c :: r => decide ((c :: r).length ≤ 8) && isSmall c && (c :: r).all fun x => isSmall x || isDig x
def isNameD : PyData → Bool
  | .str s => isNameL s.cps.toList
  | _ => false
def isFracD : PyData → Bool
  | .tuple [.int n, .int d] => decide (1 ≤ d) && (Nat.gcd n.natAbs d.natAbs == 1)
  | _ => false
def isLetterD : PyData → Bool
  | .tuple [a, b] => isNameD a && isCountD 0 b
  | _ => false
def ascD (l : List PyData) : Bool := (List.range (l.length - 1)).all fun k => PySem.W.dataLt (l.getD k .none) (l.getD (k + 1) .none)
def partOkD : PyData → Bool
  | .tuple [a, b] => isLetterD a && isCountD 1 b
  | _ => false
def firstD : PyData → PyData
  | .tuple (a :: _) => a
  | _ => .none
def isMonoD : PyData → Bool
  | .tuple ds => ds.all partOkD && ascD (ds.map firstD)
  | _ => false
def isZeroD : PyData → Bool
  | .tuple [.int n, .int _] => decide (n = 0)
  | _ => false
def termOkD : PyData → Bool
  | .tuple [a, b] => isMonoD a && isFracD b && !isZeroD b
  | _ => false
def isPolyD : PyData → Bool
  | .tuple ds => ds.all termOkD && ascD (ds.map firstD)
  | _ => false

/-! ### shapes -/
theorem pair_shape {d : PyData} (h : isPairD d = true) : ∃ a b, d = .tuple [a, b] := by
  match d, h with
  | .tuple [a, b], _ => exact ⟨a, b, rfl⟩
theorem count_shape {l : Int} {d : PyData} (h : isCountD l d = true) : ∃ i, d = .int i ∧ l ≤ i := by
  match d, h with
  | .int i, h => exact ⟨i, rfl, of_decide_eq_true h⟩
theorem name_shape {d : PyData} (h : isNameD d = true) : ∃ s, d = .str s ∧ isNameL s.cps.toList = true := by
  match d, h with
  | .str s, h => exact ⟨s, rfl, h⟩
theorem letter_shape {d : PyData} (h : isLetterD d = true) : ∃ s i, d = .tuple [.str s, .int i] ∧ isNameL s.cps.toList = true ∧ 0 ≤ i := by
  match d, h with
  | .tuple [a, b], h =>
    simp only [isLetterD, Bool.and_eq_true] at h
    obtain ⟨s, rfl, hs⟩ := name_shape h.1
    obtain ⟨i, rfl, hi⟩ := count_shape h.2
    exact ⟨s, i, rfl, hs, hi⟩
theorem part_shape {d : PyData} (h : partOkD d = true) : ∃ s i e, d = .tuple [.tuple [.str s, .int i], .int e] ∧ isLetterD (.tuple [.str s, .int i]) = true ∧ 1 ≤ e := by
  match d, h with
  | .tuple [a, b], h =>
    simp only [partOkD, Bool.and_eq_true] at h
    obtain ⟨s, i, rfl, _⟩ := letter_shape h.1
    obtain ⟨e, rfl, he⟩ := count_shape h.2
    exact ⟨s, i, e, rfl, h.1, he⟩
theorem frac_shape {d : PyData} (h : isFracD d = true) : ∃ n m, d = .tuple [.int n, .int m] ∧ 1 ≤ m ∧ Nat.gcd n.natAbs m.natAbs = 1 := by
  match d, h with
  | .tuple [.int n, .int m], h =>
    simp only [isFracD, Bool.and_eq_true, decide_eq_true_eq, beq_iff_eq] at h
    exact ⟨n, m, rfl, h⟩
theorem mono_shape {d : PyData} (h : isMonoD d = true) : ∃ ds, d = .tuple ds ∧ ds.all partOkD = true := by
  match d, h with
  | .tuple ds, h =>
    simp only [isMonoD, Bool.and_eq_true] at h
    exact ⟨ds, rfl, h.1⟩
theorem term_shape {d : PyData} (h : termOkD d = true) : ∃ a b, d = .tuple [a, b] ∧ isMonoD a = true ∧ isFracD b = true ∧ isZeroD b = false := by
  match d, h with
  | .tuple [a, b], h =>
    simp only [termOkD, Bool.and_eq_true, Bool.not_eq_true'] at h
    exact ⟨a, b, rfl, h.1.1, h.1.2, h.2⟩

/-! ### alike, depth -/
theorem alike_letters {d e : PyData} (h : isLetterD d = true) (h' : isLetterD e = true) : PySem.W.alike d e = true := by
  obtain ⟨s, i, rfl, _⟩ := letter_shape h
  obtain ⟨t, j, rfl, _⟩ := letter_shape h'
  simp [PySem.W.alike, PySem.W.alikeAll]
theorem depth_letter {d : PyData} (h : isLetterD d = true) : d.depth = 1 := by
  obtain ⟨s, i, rfl, _⟩ := letter_shape h
  simp [PyData.depth, PyData.depthAll]
theorem alike_parts {d e : PyData} (h : partOkD d = true) (h' : partOkD e = true) : PySem.W.alike d e = true := by
  obtain ⟨s, i, x, rfl, _⟩ := part_shape h
  obtain ⟨t, j, y, rfl, _⟩ := part_shape h'
  simp [PySem.W.alike, PySem.W.alikeAll]
theorem alikeAll_parts : ∀ {ds es : List PyData}, ds.all partOkD = true → es.all partOkD = true → PySem.W.alikeAll ds es = true
  | [], _, _, _ => by rw [PySem.W.alikeAll]
  | _ :: _, [], _, _ => by rw [PySem.W.alikeAll]
  | d :: ds, e :: es, h, h' => by
    rw [List.all_cons, Bool.and_eq_true] at h h'
    rw [PySem.W.alikeAll, alike_parts h.1 h'.1, alikeAll_parts h.2 h'.2]
    rfl
theorem alike_monos {d e : PyData} (h : isMonoD d = true) (h' : isMonoD e = true) : PySem.W.alike d e = true := by
  obtain ⟨ds, rfl, hd⟩ := mono_shape h
  obtain ⟨es, rfl, he⟩ := mono_shape h'
  rw [PySem.W.alike]
  exact alikeAll_parts hd he
theorem depth_parts : ∀ {ds : List PyData}, ds.all partOkD = true → PyData.depthAll ds ≤ 2
  | [], _ => by simp [PyData.depthAll]
  | d :: ds, h => by
    rw [List.all_cons, Bool.and_eq_true] at h
    obtain ⟨s, i, x, rfl, _⟩ := part_shape h.1
    have := depth_parts h.2
    simp [PyData.depthAll, PyData.depth]
    omega
theorem depth_mono {d : PyData} (h : isMonoD d = true) : d.depth ≤ 3 := by
  obtain ⟨ds, rfl, hd⟩ := mono_shape h
  have := depth_parts hd
  rw [PyData.depth]
  omega
theorem not_none_letter {d : PyData} (h : isLetterD d = true) : d ≠ .none := by
  obtain ⟨s, i, rfl, _⟩ := letter_shape h
  exact fun z => nomatch z
theorem not_none_mono {d : PyData} (h : isMonoD d = true) : d ≠ .none := by
  obtain ⟨ds, rfl, _⟩ := mono_shape h
  exact fun z => nomatch z

/-! ### ascending rows, place by place -/
theorem asc_false {l : List PyData} {k : Nat} (hk : k + 1 < l.length) (h : PySem.W.dataLt (l.getD k .none) (l.getD (k + 1) .none) = false) : ascD l = false := by
  unfold ascD
  rw [List.all_eq_false]
  exact ⟨k, List.mem_range.mpr (by omega), by rw [h]; simp⟩
theorem asc_true {l : List PyData} (h : ∀ k, k + 1 < l.length → PySem.W.dataLt (l.getD k .none) (l.getD (k + 1) .none) = true) : ascD l = true := by
  unfold ascD
  rw [List.all_eq_true]
  intro k hk
  exact h k (by have := List.mem_range.mp hk; omega)
theorem all_false {f : PyData → Bool} {l : List PyData} {i : Nat} {d : PyData} (h : l[i]? = some d) (hf : f d = false) : l.all f = false := by
  rw [List.all_eq_false]
  exact ⟨d, List.mem_of_getElem? h, by rw [hf]; simp⟩
theorem getD_map_first {ds : List PyData} {i : Nat} {d : PyData} (h : ds[i]? = some d) : (ds.map firstD).getD i .none = firstD d := by
  rw [List.getD_eq_getElem?_getD, List.getElem?_map, h]
  rfl

/-! ### what may be passed: texts that are short, not too deep -/
mutual
def shortD : PyData → Prop
  | .str s => s.length ≤ 1000
  | .list ds => ds.length ≤ 1000 ∧ shortAll ds
  | .tuple ds => ds.length ≤ 1000 ∧ shortAll ds
  | _ => True
def shortAll : List PyData → Prop
  | [] => True
  | d :: ds => shortD d ∧ shortAll ds
end
theorem short_get : ∀ {ds : List PyData} {i : Nat} {d : PyData}, shortAll ds → ds[i]? = some d → shortD d
  | [], i, d, _, h => by simp at h
  | _ :: _, 0, d, hs, h => by
    simp at h; subst h
    rw [shortAll] at hs
    exact hs.1
  | _ :: ds, i + 1, d, hs, h => by
    rw [shortAll] at hs
    exact short_get hs.2 (by simpa using h)
theorem short_tup {ds : List PyData} : shortD (.tuple ds) = (ds.length ≤ 1000 ∧ shortAll ds) := by rw [shortD]
end K00
end

section
set_option Elab.async false
set_option linter.all false
set_option maxRecDepth 100000
set_option maxHeartbeats 4000000
/-! fractions in lowest terms; by an AI agent -/
namespace K00
open PySem L2 RX
/-- n / d in lowest terms -/
def lowD (n d : Int) : PyData := .tuple [.int (n / ((Nat.gcd n.natAbs d.natAbs : Nat) : Int)), .int (d / ((Nat.gcd n.natAbs d.natAbs : Nat) : Int))]
/-- a fraction in lowest terms, below 2 ^ k -/
def FB (k : Nat) (x : PyData) : Prop := ∃ n m : Int, x = .tuple [.int n, .int m] ∧ 1 ≤ m ∧ Nat.gcd n.natAbs m.natAbs = 1 ∧ n.natAbs < 2 ^ k ∧ m.natAbs < 2 ^ k
theorem FB.frac {k : Nat} {x : PyData} (h : FB k x) : isFracD x = true := by
  obtain ⟨n, m, rfl, h1, h2, _⟩ := h
  show (decide (1 ≤ m) && (Nat.gcd n.natAbs m.natAbs == 1)) = true
  rw [decide_eq_true h1, h2]; rfl
theorem FB.mono {k j : Nat} {x : PyData} (h : FB k x) (le : k ≤ j) : FB j x := by
  obtain ⟨n, m, rfl, h1, h2, h3, h4⟩ := h
  have := Nat.pow_le_pow_right (show 0 < 2 by omega) le
  exact ⟨n, m, rfl, h1, h2, by omega, by omega⟩
theorem gcd_pos {n d : Int} (h : 0 < d) : 0 < Nat.gcd n.natAbs d.natAbs := Nat.gcd_pos_of_pos_right _ (by omega)
theorem low_abs (n : Int) {g : Nat} (hd : g ∣ n.natAbs) : (n / (g : Int)).natAbs = n.natAbs / g := by
  have : ((g : Int)) ∣ n := Int.ofNat_dvd_left.mpr hd
  rw [Int.natAbs_ediv_of_dvd this, Int.natAbs_natCast]
theorem low_ok {n d : Int} {k : Nat} (hd : 0 < d) (h1 : n.natAbs < 2 ^ k) (h2 : d.natAbs < 2 ^ k) : FB k (lowD n d) := by
  have g0 := gcd_pos (n := n) hd
  have a1 := low_abs n (Nat.gcd_dvd_left n.natAbs d.natAbs)
  have a2 := low_abs d (Nat.gcd_dvd_right n.natAbs d.natAbs)
  refine ⟨_, _, rfl, ?_, ?_, ?_, ?_⟩
  · have : 0 < d / ((Nat.gcd n.natAbs d.natAbs : Nat) : Int) := Int.ediv_pos_of_pos_of_dvd hd (by omega) (Int.ofNat_dvd_left.mpr (Nat.gcd_dvd_right _ _))
    omega
  · rw [a1, a2]
    exact Nat.gcd_div_gcd_div_gcd_of_pos_right (by omega)
  · rw [a1]
    exact Nat.lt_of_le_of_lt (Nat.div_le_self _ _) h1
  · rw [a2]
    exact Nat.lt_of_le_of_lt (Nat.div_le_self _ _) h2
theorem low_zero {n d : Int} (hd : 0 < d) : isZeroD (lowD n d) = decide (n = 0) := by
  have g0 := gcd_pos (n := n) hd
  have a1 := low_abs n (Nat.gcd_dvd_left n.natAbs d.natAbs)
  show decide (n / ((Nat.gcd n.natAbs d.natAbs : Nat) : Int) = 0) = decide (n = 0)
  by_cases h : n = 0
  · subst h
    rw [decide_eq_true rfl]
    exact decide_eq_true (Int.zero_ediv _)
  · rw [decide_eq_false h]
    refine decide_eq_false fun z => h ?_
    rw [z] at a1
    have b : 0 = n.natAbs / Nat.gcd n.natAbs d.natAbs := a1
    have c := Nat.div_mul_cancel (Nat.gcd_dvd_left n.natAbs d.natAbs)
    rw [← b] at c
    omega
def sumD : PyData → PyData → PyData
  | .tuple [.int n, .int d], .tuple [.int m, .int e] => lowD (n * e + m * d) (d * e)
  | _, _ => .none
theorem sum_ok {k j : Nat} {x y : PyData} (hx : FB k x) (hy : FB j y) : FB (k + j + 1) (sumD x y) := by
  obtain ⟨n, d, rfl, d1, _, n2, d2⟩ := hx
  obtain ⟨m, e, rfl, e1, _, m2, e2⟩ := hy
  have a := wide_lt n2 e2
  have b := wide_lt m2 d2
  have c := wide_lt d2 e2
  rw [Nat.add_comm j k] at b
  have p : 2 ^ (k + j + 1) = 2 ^ (k + j) * 2 := Nat.pow_succ ..
  exact low_ok (Int.mul_pos (by omega) (by omega)) (by omega) (by omega)
end K00
end

section
set_option Elab.async false
set_option linter.all false
set_option maxRecDepth 100000
set_option maxHeartbeats 4000000
/-! the text: what stands at the top; by an AI agent -/
namespace K00
open PySem PySem.Spec PyProof.Rows L2 RX
open Evl (Ex Ev EvT EvA EvL EvU RV RC)
def topS (i : Nat) : Stmt := PySem.Challenge.pw_ratesay_k00_forms_of_polynomials.main.body.getD i (.Pass ⟨0, 0, 0, 0⟩)
/-- names of the top and of built-ins -/
structure Txt (K : PySem.W.Frag) (mg : Str → Option Value) : Prop where
  type : mg "type" = none
  len : mg "len" = none
  tuple : mg "tuple" = none
  int : mg "int" = none
  str : mg "str" = none
  bool : mg "bool" = none
  isinstance : mg "isinstance" = none
  abs : mg "abs" = none
  repr : mg "repr" = none
  sorted : mg "sorted" = none
  list : mg "list" = none
  all : mg "all" = none
  range : mg "range" = none
  enumerate : mg "enumerate" = none
  mgcd : mg "gcd" = some (.builtin "math.gcd")
  SMALL : ∃ u, mg "SMALL" = some u ∧ L2.RelV (.str smallS) u
  DIGITS : ∃ u, mg "DIGITS" = some u ∧ L2.RelV (.str digS) u
  LONGEST_NAME : ∃ u, mg "LONGEST_NAME" = some u ∧ L2.RelV (.int 8) u
  zero : ∃ a, mg "ZERO" = some (.ref a) ∧ ∀ H, SqT K H a [.int 0, .int 1]
  one : ∃ a, mg "ONE" = some (.ref a) ∧ ∀ H, SqT K H a [.int 1, .int 1]
section
variable {X : Cx} {k : Nat} {ps : List Str} {sp : Sp} {x : Str} {p pos : Pos} {e : Expr} {es : List Expr} {t : TA} {v : V}
theorem pe_gl (hg : Gl X x) (h : ∃ u, X.mg x = some u ∧ L2.RelV v u) (hd : (x == ("__debug__" : Str)) = false := by decide) : PE X (.Name x pos) (tC v) := by
  obtain ⟨u, a, b⟩ := h
  exact pe_glob hg a b hd
theorem ph (h : Has X.prog X.w X.K X.mg X.base k x ps sp) (hr : Room k X.A) (ha : PA X (e :: es) t) (hg : Gl X x := by rfl)
    (hdb : (x == ("__debug__" : Str)) = false := by decide) (he : starEach (e :: es) X.env = (false, eval e X.env) :: starEach es X.env := by rfl) (hpl : (backTo pos (starEach es X.env)).any (·.1) = false := by rfl) :
    PE X (.Call (.Name x p) (e :: es) [] pos) (tCall sp [] E0 t) := by
  obtain ⟨f, fd, a, b, c, F⟩ := h.at'
  exact pe_call F hr hg a b c .nil pass0 ha hdb he hpl
theorem phq (h : HasQ X.prog X.w X.K X.mg X.base k x ps sp) (hq : Quiet X.A) (hr : Room k X.A) (ha : PA X (e :: es) t) (hg : Gl X x := by rfl)
    (hdb : (x == ("__debug__" : Str)) = false := by decide) (he : starEach (e :: es) X.env = (false, eval e X.env) :: starEach es X.env := by rfl) (hpl : (backTo pos (starEach es X.env)).any (·.1) = false := by rfl) :
    PE X (.Call (.Name x p) (e :: es) [] pos) (tCall sp [] E0 t) := by
  obtain ⟨f, fd, a, b, c, F⟩ := h.at'
  exact pe_callQ F hq hr hg a b c .nil ha hdb he hpl
end
theorem u9 {A : Around} {k : Nat} (hr : Room k A) : A.units + 9 < cLine := by have := hr.un; omega
theorem u45 {A : Around} {k : Nat} (hr : Room k A) : A.units + 45 < cLine := by have := hr.un; omega
theorem u64 {A : Around} {k : Nat} (hr : Room k A) : A.units + 64 < cLine := by have := hr.un; omega
section
variable {P : Program} {w : World} {K : PySem.W.Frag} {mg : Str → Option Value} {base : Heap} {k : Nat} {x : Str} {ps N : List Str} {sp : Sp} {st : Stmt}
theorem mk (D : DefAt K mg x st ps) (S : FnScope N ps (defScope st)) (len : ∀ vs H Q E, sp vs H Q E → vs.length = ps.length)
    (hbody : ∀ (f : Addr) (cdv : Value) (A : Around) (outer : List Env) (s : Shared) (H : Hp) (vs : List V) (Q : VK) (E : XK), Room k (A.deeper (envOfC x (defScope st) s.heap.objs.size f cdv)) → sp vs H Q E →
      ∃ t, PSs (cxOf CX0 P w K mg base N x (defScope st) f cdv A outer s H E).nox (defBody st) t ∧ t { nx := fun _ H' => Q .non H', rt := Q } (start N vs) H) : Has P w K mg base (k + 1) x ps sp := by
  obtain ⟨f, fd, F, m, b⟩ := D.at'
  exact ⟨f, fd, m, F.kp, b, F.ok S len fun cdv A outer s H vs Q E hr h => hbody f cdv A outer s H vs Q E hr h⟩
theorem mkq (D : DefAt K mg x st ps) (S : FnScope N ps (defScope st)) (len : ∀ vs H Q E, sp vs H Q E → vs.length = ps.length)
    (hbody : ∀ (f : Addr) (cdv : Value) (A : Around) (outer : List Env) (s : Shared) (H : Hp) (vs : List V) (Q : VK) (E : XK), Quiet (A.deeper (envOfC x (defScope st) s.heap.objs.size f cdv)) → Room k (A.deeper (envOfC x (defScope st) s.heap.objs.size f cdv)) → sp vs H Q E →
      ∃ t, PSs (cxOf CX0 P w K mg base N x (defScope st) f cdv A outer s H E).nox (defBody st) t ∧ t { nx := fun _ H' => Q .non H', rt := Q } (start N vs) H) : HasQ P w K mg base (k + 1) x ps sp := by
  obtain ⟨f, fd, F, m, b⟩ := D.at'
  exact ⟨f, fd, m, F.kp, b, quiet_fn F S len fun cdv A outer s H vs Q E hqt hr h => hbody f cdv A outer s H vs Q E hqt hr h⟩
end
/-- all arguments of a call, as data -/
theorem args1 {K : PySem.W.Frag} {H : Hp} {vs : List V} {ds : List PyData} (h : DpAll K H vs ds) (hl : ds.length = 1) : ∃ v d, vs = [v] ∧ ds = [d] ∧ Dp K H v d := by
  match ds, hl, h with
  | [d], _, .cons h .nil => exact ⟨_, d, rfl, rfl, h⟩
theorem args2 {K : PySem.W.Frag} {H : Hp} {vs : List V} {ds : List PyData} (h : DpAll K H vs ds) (hl : ds.length = 2) : ∃ v w d e, vs = [v, w] ∧ ds = [d, e] ∧ Dp K H v d ∧ Dp K H w e := by
  match ds, hl, h with
  | [d, e], _, .cons h (.cons h' .nil) => exact ⟨_, _, d, e, rfl, rfl, h, h'⟩
theorem isty_dec {d : PyData} {n : String} : ∀ b, decide (tyName d = n) = b → decide (tyName d = n) = b := fun _ h => h
end K00
end

section
set_option Elab.async false
set_option linter.all false
set_option maxRecDepth 100000
set_option maxHeartbeats 4000000
/-! the program: is_integer .. is_letter; by an AI agent -/
namespace K00
open PySem PySem.Spec PyProof.Rows L2 RX
open Evl (Ex Ev EvT EvA EvL EvU RV RC)
def at0 (ds : List PyData) : PyData := ds.getD 0 .none
def at1 (ds : List PyData) : PyData := ds.getD 1 .none
def anyD (_ : List PyData) : Prop := True
section
variable {P : Program} {w : World} {K : PySem.W.Frag} {mg : Str → Option Value} {base : Heap}
abbrev s_is_integer : Stmt := topS 7
theorem sc_is_integer : FnScope ["value"] ["value"] (defScope s_is_integer) := ⟨rfl, rfl, rfl, by decide +kernel, rfl, by decide +kernel, by decide +kernel⟩
theorem has_is_integer (T : Txt K mg) (D : DefAt K mg "is_integer" s_is_integer ["value"]) : Has P w K mg base 1 "is_integer" ["value"] (spB K 1 anyD fun ds => isIntD (at0 ds)) := by
  refine mk D sc_is_integer (fun vs H Q E h => spB_len h) (fun f cdv A outer s H vs Q E hr h => ?_)
  obtain ⟨ds, hd, hl, _, q⟩ := h
  obtain ⟨v, d, rfl, rfl, hv⟩ := args1 hd hl
  refine ⟨_, (pss_one (ps_ret (pe_cmpR op_isTyB (pe_callTy call_type1 (by rfl) T.type (by decide +kernel) (pa_cons (pv 0) pa_nil)) (pe_bltn (v := .ty "int") (u := .type "int") (by rfl) T.int (by decide +kernel) rfl) (nomark _)))), ?_⟩
  refine Evl.s_ret (Evl.ev_is (ev_isTy (ev_type (evd_var rfl hv)) Evl.ev_c) (w := .bl (isIntD d)) ?_) q
  cases d <;> rfl

abbrev s_is_count : Stmt := topS 8
theorem sc_is_count : FnScope ["value", "least"] ["value", "least"] (defScope s_is_count) := ⟨rfl, rfl, rfl, by decide +kernel, rfl, by decide +kernel, by decide +kernel⟩
theorem has_is_count (T : Txt K mg) (D : DefAt K mg "is_count" s_is_count ["value", "least"]) : Has P w K mg base 1 "is_count" ["value", "least"] (spB K 2 (fun ds => ∃ l, at1 ds = .int l) fun ds => match at1 ds with | .int l => isCountD l (at0 ds) | _ => false) := by
  refine mk D sc_is_count (fun vs H Q E h => spB_len h) (fun f cdv A outer s H vs Q E hr h => ?_)
  obtain ⟨ds, hd, hl, ⟨l, hl1⟩, q⟩ := h
  obtain ⟨v, w', d, e, rfl, rfl, hv, hw⟩ := args2 hd hl
  have he : e = .int l := hl1
  subst he
  refine ⟨_, (pss_one (ps_ret (pe_and (pe_cmpR op_isTyB (pe_callTy call_type1 (by rfl) T.type (by decide +kernel) (pa_cons (pv 0) pa_nil)) (pe_bltn (v := .ty "int") (u := .type "int") (by rfl) T.int (by decide +kernel) rfl) (nomark _)) (pe_one (pe_cmpR op_ge (pv 0) (pv 1) (nomark _)))))), ?_⟩
  refine Evl.s_ret (v := .bl (isCountD l d)) ?_ q
  cases d with
  | int i =>
    refine Evl.ev_is (Evl.ev_andV (a := true) (b := decide (l ≤ i)) (Evl.ev_is (ev_isTy (ev_type (evd_var rfl hv)) Evl.ev_c) rfl) fun _ => ev_I (ev_int (evd_var rfl hv)) (ev_int (evd_var rfl hw))) rfl
  | _ => exact Evl.ev_is (Evl.ev_andV (a := false) (b := false) (Evl.ev_is (ev_isTy (ev_type (evd_var rfl hv)) Evl.ev_c) rfl) fun z => nomatch z) rfl

abbrev s_is_pair : Stmt := topS 9
theorem sc_is_pair : FnScope ["value"] ["value"] (defScope s_is_pair) := ⟨rfl, rfl, rfl, by decide +kernel, rfl, by decide +kernel, by decide +kernel⟩
theorem has_is_pair (T : Txt K mg) (D : DefAt K mg "is_pair" s_is_pair ["value"]) : Has P w K mg base 1 "is_pair" ["value"] (spB K 1 anyD fun ds => isPairD (at0 ds)) := by
  refine mk D sc_is_pair (fun vs H Q E h => spB_len h) (fun f cdv A outer s H vs Q E hr h => ?_)
  obtain ⟨ds, hd, hl, _, q⟩ := h
  obtain ⟨v, d, rfl, rfl, hv⟩ := args1 hd hl
  refine ⟨_, (pss_one (ps_ret (pe_and (pe_cmpR op_isTyB (pe_callTy call_type1 (by rfl) T.type (by decide +kernel) (pa_cons (pv 0) pa_nil)) (pe_bltn (v := .ty "tuple") (u := .type "tuple") (by rfl) T.tuple (by decide +kernel) rfl) (nomark _)) (pe_one (pe_cmpR op_eq (pe_callB call_len_seq (by rfl) T.len (by decide +kernel) (pa_cons (pv 0) pa_nil)) pe_int (nomark _)))))), ?_⟩
  refine Evl.s_ret (v := .bl (isPairD d)) ?_ q
  cases d with
  | tuple ds =>
    refine Evl.ev_is (Evl.ev_andV (a := true) (b := decide (V.int ds.length = V.int 2)) (Evl.ev_is (ev_isTy (ev_type (evd_var rfl hv)) Evl.ev_c) rfl) fun _ => Evl.ev_op (ev_lenT (evd_var rfl hv)) Evl.ev_c (Evl.rv_eq rfl)) ?_
    match ds with
    | [] => rfl
    | [_] => rfl
    | [_, _] => rfl
    | a :: b :: c :: r =>
      refine congrArg V.bl (show (true && decide (V.int (((a :: b :: c :: r).length : Nat) : Int) = V.int 2)) = false from ?_)
      rw [Bool.true_and]
      refine decide_eq_false fun z => ?_
      have z1 := V.int.inj z
      rw [List.length_cons, List.length_cons, List.length_cons] at z1
      omega
  | _ => exact Evl.ev_is (Evl.ev_andV (a := false) (b := false) (Evl.ev_is (ev_isTy (ev_type (evd_var rfl hv)) Evl.ev_c) rfl) fun z => nomatch z) rfl
end
end K00
end

section
set_option Elab.async false
set_option linter.all false
set_option maxRecDepth 100000
set_option maxHeartbeats 4000000
/-! the program: is_name, is_fraction, is_letter; by an AI agent -/
namespace K00
open PySem PySem.Spec PyProof.Rows L2 RX
open Evl (Ex Ev EvT EvA EvL EvU RV RC)
def shorts (ds : List PyData) : Prop := shortAll ds
theorem isNameL_cons (c : Nat) (r : List Nat) : isNameL (c :: r) = (decide ((c :: r).length ≤ 8) && isSmall c && (c :: r).all fun x => isSmall x || isDig x) := rfl
theorem ev_chainI {f g : Int → Int → Bool} {ta tb tc : TE} {σ : L2.St} {H : Hp} {i j k : Int} (ha : Ev ta σ H (.int i)) (hb : Ev tb σ H (.int j)) (hc : Ev tc σ H (.int k)) :
    Ev (tChain (rI0 fun i j => .bl (f i j)) (rI0 fun i j => .bl (g i j)) ta tb tc) σ H (.bl (f i j && g j k)) := fun H1 m Q q =>
  ha H1 m _ fun H2 e2 => hb H2 (m.trans e2) _ fun H3 e3 => ⟨i, j, rfl, rfl, _, rfl, by
    cases hf : f i j with
    | true => exact iteT (hc H3 ((m.trans e2).trans e3) _ fun H4 e4 => ⟨j, k, rfl, rfl, by have z := q H4 ((e2.trans e3).trans e4); rw [hf, Bool.true_and] at z; exact z⟩)
    | false => exact iteF (by have z := q H3 (e2.trans e3); rw [hf, Bool.false_and] at z; exact z)⟩
theorem ty_str {d : PyData} (h : tyName d = "str") : ∃ x, d = .str x := by
  cases d <;> first | exact ⟨_, rfl⟩ | (simp [tyName] at h)
theorem ty_tuple {d : PyData} (h : tyName d = "tuple") : ∃ x, d = .tuple x := by
  cases d <;> first | exact ⟨_, rfl⟩ | (simp [tyName] at h)
theorem isty_if {a b : String} {c : Bool} (h : decide (a = b) = c) : V.bl (decide (a = b)) = V.bl c := congrArg V.bl h
theorem signs_false {c : Nat} : ∀ {l : List Nat} {i : Nat}, l[i]? = some c → isSmall c = false → isDig c = false → (l.all fun x => isSmall x || isDig x) = false := by
  intro l i h h1 h2
  rw [List.all_eq_false]
  exact ⟨c, List.mem_of_getElem? h, by rw [h1, h2]; simp⟩
section
variable {P : Program} {w : World} {K : PySem.W.Frag} {mg : Str → Option Value} {base : Heap}
abbrev s_is_name : Stmt := topS 10
theorem sc_is_name : FnScope ["value", "sign"] ["value"] (defScope s_is_name) := ⟨rfl, rfl, rfl, by decide +kernel, rfl, by decide +kernel, by decide +kernel⟩
theorem has_is_name (T : Txt K mg) (D : DefAt K mg "is_name" s_is_name ["value"]) : Has P w K mg base 1 "is_name" ["value"] (spB K 1 shorts fun ds => isNameD (at0 ds)) := by
  refine mk D sc_is_name (fun vs H Q E h => spB_len h) (fun f cdv A outer s H vs Q E hr h => ?_)
  obtain ⟨ds, hd, hl, hsh, q⟩ := h
  obtain ⟨v, d, rfl, rfl, hv⟩ := args1 hd hl
  have hd0 : shortD d := by rw [shorts, shortAll] at hsh; exact hsh.1
  have qf : isNameD d = false → ∀ H', Ex H H' → Q (.bl false) H' := fun z H' e => by
    have q' : Q (.bl (isNameD d)) H' := q H' e
    rw [z] at q'; exact q'
  have qt : isNameD d = true → ∀ H', Ex H H' → Q (.bl true) H' := fun z H' e => by
    have q' : Q (.bl (isNameD d)) H' := q H' e
    rw [z] at q'; exact q'
  refine ⟨_, (pss_cons (ps_if (PW.pt (pw_or (pt_cmpR op_notTyB (pe_callTy call_type1 (by rfl) T.type (by decide +kernel) (pa_cons (pv 0) pa_nil)) (pe_bltn (v := .ty "str") (u := .type "str") (by rfl) T.str (by decide +kernel) rfl) (nomark _)) (pw_or1 (pt_not (pt_chain op_le op_le pe_int (pe_callB call_len_str (by rfl) T.len (by decide +kernel) (pa_cons (pv 0) pa_nil)) (pe_gl rfl T.LONGEST_NAME))))))
  (pss_one (ps_ret pe_bl))
  pss_nil)
  (pss_cons (ps_if (pt_cmpR op_notIn_sign (pe_ix ix_str (pv 0) pe_int (fun _ _ => rfl)) (pe_gl rfl T.SMALL) (by rfl))
  (pss_one (ps_ret pe_bl))
  pss_nil)
  (pss_cons (ps_for PassesOwn.never rfl (pi_str (pv 0)) (pg_name (i := 1) sc_is_name.nd rfl (Or.inl rfl))
  (pss_one (ps_if (PW.pt (pw_and (pt_cmpR op_notIn_sign (pv 1) (pe_gl rfl T.SMALL) (by rfl)) (pw_and1 (pt_cmpR op_notIn_sign (pv 1) (pe_gl rfl T.DIGITS) (by rfl)))))
  (pss_one (ps_ret pe_bl))
  pss_nil)))
  (pss_one (ps_ret pe_bl))))), ?_⟩
  by_cases hty : ∃ x, d = .str x
  case neg =>
    have hn : isNameD d = false := by
      cases d <;> first | rfl | exact absurd ⟨_, rfl⟩ hty
    have ht : tyName d = "str" → False := fun z => hty (ty_str z)
    refine Evl.s_if (b := true) (Evl.et_is (Evl.et_or (a := true) (b := true) (Evl.et_test (Evl.ev_is (ev_notTy (ev_type (evd_var rfl hv)) Evl.ev_c) (congrArg V.bl (by rw [decide_eq_false ht]; rfl)))) fun z => nomatch z) rfl) (fun _ H1 e => ?_) (fun z => nomatch z)
    exact Evl.s_ret Evl.ev_c fun H2 e2 => qf hn H2 (e.trans e2)
  obtain ⟨x, rfl⟩ := hty
  have hx : x.length ≤ 1000 := by rw [shortD] at hd0; exact hd0
  have hxc : x.cps.toList.length = x.length := by simp [Str.length]
  have hvs : ∀ {H1 : Hp}, Ex H H1 → Dp K H1 v (.str x) := fun e => dp_ex e hv
  have lenE : Ev (tCB (fun xs H Q => ∃ z, xs = [.str z] ∧ z.length ≤ sizeLine ∧ Q (.int z.length) H) (tCons (tVar 0) tNil)) (start ["value", "sign"] [v]) H (.int x.length) := ev_lenS (ev_str (evd_var rfl hv)) (by omega)
  refine Evl.s_if (b := !(decide ((1 : Int) ≤ x.length) && decide ((x.length : Int) ≤ 8))) (Evl.et_is (Evl.et_or (a := false) (b := !(decide ((1 : Int) ≤ x.length) && decide ((x.length : Int) ≤ 8))) (Evl.et_test (Evl.ev_is (ev_notTy (ev_type (evd_var rfl hv)) Evl.ev_c) rfl)) fun _ =>
    Evl.et_not (Evl.et_test (ev_chainI (f := fun i j => decide (i ≤ j)) (g := fun i j => decide (i ≤ j)) Evl.ev_c lenE Evl.ev_c))) (by rw [Bool.false_or])) (fun z H1 e => ?_) (fun z H1 e => ?_)
  · -- too short, too long
    have hn : isNameD (.str x) = false := by
      show isNameL x.cps.toList = false
      cases hc : x.cps.toList with
      | nil => rfl
      | cons c r =>
        rw [hc] at hxc
        rw [List.length_cons] at hxc
        have h1 : (1 : Int) ≤ x.length := by omega
        rw [decide_eq_true h1, Bool.true_and] at z
        have h8 : ¬ (c :: r).length ≤ 8 := fun z8 => by
          rw [List.length_cons] at z8
          have : (x.length : Int) ≤ 8 := by omega
          rw [decide_eq_true this] at z
          cases z
        rw [isNameL_cons, decide_eq_false h8]
        rfl
    exact Evl.s_ret Evl.ev_c fun H2 e2 => qf hn H2 (e.trans e2)
  · have hz : (1 : Int) ≤ x.length ∧ (x.length : Int) ≤ 8 := by
      simp only [Bool.not_eq_false', Bool.and_eq_true, decide_eq_true_eq] at z
      exact z
    obtain ⟨c, r, hc⟩ : ∃ c r, x.cps.toList = c :: r := by
      cases hc : x.cps.toList with
      | nil => rw [hc] at hxc; simp at hxc; omega
      | cons c r => exact ⟨c, r, rfl⟩
    have hl8 : decide ((c :: r).length ≤ 8) = true := by
      rw [hc] at hxc
      exact decide_eq_true (by omega)
    have name_eq : isNameD (.str x) = (isSmall c && (c :: r).all fun y => isSmall y || isDig y) := by
      show isNameL x.cps.toList = _
      rw [hc, isNameL_cons, hl8, Bool.true_and]
    refine Evl.s_if (b := !isSmall c) (Evl.et_test (ev_notInS (ev_ixS (ev_str (evd_var rfl (hvs e))) (Evl.ev_c (v := .int ((0 : Nat) : Int))) (by omega) (by rw [hc]; rfl)) Evl.ev_c)) (fun z H2 e2 => ?_) (fun z H2 e2 => ?_)
    · have hn : isNameD (.str x) = false := by
        rw [name_eq]
        have : isSmall c = false := by simpa using z
        rw [this]; rfl
      exact Evl.s_ret Evl.ev_c fun H3 e3 => qf hn H3 ((e.trans e2).trans e3)
    · have hsm : isSmall c = true := by simpa using z
      have E2 : Ex H H2 := e.trans e2
      -- the signs
      refine ⟨v, rfl, x, dp_str (hvs E2), ?_⟩
      refine ⟨fun i m σ' H' => ∃ y1, σ' = [some v, y1] ∧ i + m = x.cps.size ∧ Ex H H' ∧ (∀ j, j < i → ∀ y, x.cps.toList[j]? = some y → (isSmall y || isDig y) = true), ⟨x.cps.size, none, rfl, by omega, E2, fun j hj => absurd hj (Nat.not_lt_zero _)⟩, ?_⟩
      rintro i m σ' H' ⟨y1, rfl, him, E3, hall⟩
      by_cases hi : i < x.cps.size
      · refine .inr ⟨hi, fun σ2 H2' => ∃ y1, σ2 = [some v, y1] ∧ Ex H H2' ∧ (∀ j, j < i + 1 → ∀ y, x.cps.toList[j]? = some y → (isSmall y || isDig y) = true), fun σ2 H2' hN => ?_, fun y H4 hy => ?_⟩
        · obtain ⟨y2, e1, e2', e3⟩ := hN
          exact ⟨m - 1, by omega, y2, e1, by omega, e2', e3⟩
        · obtain ⟨rfl, cc, hcc, rfl⟩ := hy
          have hcl : x.cps.toList[i]? = some cc := by rw [Array.getElem?_toList]; exact hcc
          have slot : ([some v, y1].set 1 (some (V.str ⟨#[cc]⟩)) : L2.St)[1]? = some (some (V.str ⟨#[cc]⟩)) := rfl
          refine Evl.s_if (b := !isSmall cc && !isDig cc) (Evl.et_and (Evl.et_test (ev_notInS (Evl.ev_var rfl) Evl.ev_c)) fun _ => Evl.et_test (ev_notInS (Evl.ev_var rfl) Evl.ev_c)) (fun z2 H5 e5 => ?_) (fun z2 H5 e5 => ?_)
          · have z3 : isSmall cc = false ∧ isDig cc = false := by simpa using z2
            have hn : isNameD (.str x) = false := by
              rw [name_eq, ← hc, signs_false hcl z3.1 z3.2, Bool.and_false]
            exact Evl.s_ret Evl.ev_c fun H6 e6 => qf hn H6 ((E3.trans e5).trans e6)
          · refine ⟨_, rfl, E3.trans e5, fun j hj y hyj => ?_⟩
            rcases Nat.lt_succ_iff_lt_or_eq.mp hj with h1 | h1
            · exact hall j h1 y hyj
            · subst h1
              rw [hcl] at hyj
              cases hyj
              cases h3 : isSmall cc with
              | true => rfl
              | false =>
                rw [h3] at z2
                cases h4 : isDig cc with
                | true => rfl
                | false => rw [h4] at z2; cases z2
      · refine .inl ⟨by show x.cps.size ≤ i; omega, ?_⟩
        have hn : isNameD (.str x) = true := by
          rw [name_eq, hsm, Bool.true_and, ← hc, List.all_eq_true]
          intro y hy
          obtain ⟨j, hj⟩ := List.mem_iff_getElem?.mp hy
          have hjl : j < x.cps.toList.length := (List.getElem?_eq_some_iff.mp hj).1
          rw [Array.length_toList] at hjl
          exact hall j (by omega) y hj
        refine Evl.s_ret (D := { nx := fun _ H' => Q .non H', rt := Q }) (σ := [some v, y1]) (v := .bl true) Evl.ev_c ?_
        intro H6 e6
        exact qt hn H6 (E3.trans e6)
end
end K00
end

section
set_option Elab.async false
set_option linter.all false
set_option maxRecDepth 100000
set_option maxHeartbeats 4000000
/-! the program: is_fraction, is_letter; by an AI agent -/
namespace K00
open PySem PySem.Spec PyProof.Rows L2 RX
open Evl (Ex Ev EvT EvA EvL EvU RV RC)
theorem isFracD_ints (i j : Int) : isFracD (.tuple [.int i, .int j]) = (decide (1 ≤ j) && (Nat.gcd i.natAbs j.natAbs == 1)) := rfl
theorem dpAll2 {K : PySem.W.Frag} {H : Hp} {xs : List V} {a b : PyData} (h : DpAll K H xs [a, b]) : ∃ x y, xs = [x, y] ∧ Dp K H x a ∧ Dp K H y b := by
  cases h with
  | cons hx h =>
    cases h with
    | cons hy h =>
      cases h
      exact ⟨_, _, rfl, hx, hy⟩
def cnt (ds : List PyData) : Bool := match at1 ds with | .int l => isCountD l (at0 ds) | _ => false
section
variable {P : Program} {w : World} {K : PySem.W.Frag} {mg : Str → Option Value} {base : Heap}
theorem evt_call {k : Nat} {n : Nat} {pre : List PyData → Prop} {f : List PyData → Bool} {E : XK} {ta : TA} {σ : L2.St} {H : Hp} {ds : List PyData} {b : Bool} (h : EvAD K ta σ H ds) (hl : ds.length = n) (hp : pre ds) (e : f ds = b) :
    EvT (tB (tCall (spB K n pre f) [] E ta)) σ H b := Evl.et_B (Evl.ev_is (ev_callB h hl hp) (congrArg V.bl e))
theorem ev_call1 {n : Nat} {pre : List PyData → Prop} {f : List PyData → Bool} {E : XK} {ta : TA} {σ : L2.St} {H : Hp} {ds : List PyData} {b : Bool} (h : EvAD K ta σ H ds) (hl : ds.length = n) (hp : pre ds) (e : f ds = b) :
    Ev (tCall (spB K n pre f) [] E ta) σ H (.bl b) := Evl.ev_is (ev_callB h hl hp) (congrArg V.bl e)
abbrev pInt (K : PySem.W.Frag) : Sp := spB K 1 anyD fun ds => isIntD (at0 ds)
abbrev pCount (K : PySem.W.Frag) : Sp := spB K 2 (fun ds => ∃ l, at1 ds = .int l) fun ds => match at1 ds with | .int l => isCountD l (at0 ds) | _ => false
abbrev pPair (K : PySem.W.Frag) : Sp := spB K 1 anyD fun ds => isPairD (at0 ds)
abbrev pName (K : PySem.W.Frag) : Sp := spB K 1 shorts fun ds => isNameD (at0 ds)
abbrev s_is_fraction : Stmt := topS 11
theorem sc_is_fraction : FnScope ["value", "n", "d"] ["value"] (defScope s_is_fraction) := ⟨rfl, rfl, rfl, by decide +kernel, rfl, by decide +kernel, by decide +kernel⟩
abbrev pFrac (K : PySem.W.Frag) : Sp := spB K 1 anyD fun ds => isFracD (at0 ds)
theorem has_is_fraction (T : Txt K mg) (D : DefAt K mg "is_fraction" s_is_fraction ["value"]) (his_pair : Has P w K mg base 1 "is_pair" ["value"] (pPair K)) (his_integer : Has P w K mg base 1 "is_integer" ["value"] (pInt K))
    (his_count : Has P w K mg base 1 "is_count" ["value", "least"] (pCount K)) : Has P w K mg base 2 "is_fraction" ["value"] (pFrac K) := by
  refine mk D sc_is_fraction (fun vs H Q E h => spB_len h) (fun f cdv A outer s H vs Q E hr h => ?_)
  obtain ⟨ds, hd, hl, _, q⟩ := h
  obtain ⟨v, d, rfl, rfl, hv⟩ := args1 hd hl
  refine ⟨_, (pss_cons (ps_if (pt_not (pt_val (ph his_pair (hr.mono (by decide)) (pa_cons (pv 0) pa_nil))))
  (pss_one (ps_ret pe_bl))
  pss_nil)
  (pss_cons (ps_asg (pv 0) (pg_tup rfl (pgs_cons (pg_name (i := 1) sc_is_fraction.nd rfl (Or.inl rfl)) (pgs_cons (pg_name (i := 2) sc_is_fraction.nd rfl (Or.inl rfl)) pgs_nil))))
  (pss_one (ps_ret (pe_and (ph his_integer (hr.mono (by decide)) (pa_cons (pv 1) pa_nil)) (pe_and (ph his_count (hr.mono (by decide)) (pa_cons (pv 2) (pa_cons pe_int pa_nil))) (pe_one (pe_cmpR op_eq (pe_callBfun cr_gcd (by rfl) T.mgcd (pa_cons (pv 1) (pa_cons (pv 2) pa_nil))) pe_int (nomark _))))))))), ?_⟩
  cases hp : isPairD d with
  | false =>
    refine Evl.s_if (b := true) (Evl.et_not (evt_call (k := 0) (b := false) (ead_cons (evd_var rfl hv) ead_nil) rfl trivial hp)) (fun _ H1 e => ?_) (fun z => nomatch z)
    have hn : isFracD d = false := by
      cases hf : isFracD d with
      | false => rfl
      | true =>
        obtain ⟨n, m, rfl, _⟩ := frac_shape hf
        cases hp
    exact Evl.s_ret Evl.ev_c fun H2 e2 => by
      have q' : Q (.bl (isFracD d)) H2 := q H2 (e.trans e2)
      rw [hn] at q'; exact q'
  | true =>
    refine Evl.s_if (b := false) (Evl.et_not (evt_call (k := 0) (b := true) (ead_cons (evd_var rfl hv) ead_nil) rfl trivial hp)) (fun z => nomatch z) (fun _ H1 e => ?_)
    obtain ⟨a, b, rfl⟩ := pair_shape hp
    obtain ⟨p, xs, rfl, hs, hall⟩ := dp_tup (dp_ex e hv)
    obtain ⟨x, y, rfl, hx, hy⟩ := dpAll2 hall
    refine ⟨_, rfl, p, [x, y], rfl, hs, rfl, x, [y], rfl, y, [], rfl, rfl, ?_⟩
    dsimp only
    refine Evl.s_ret (v := .bl (isFracD (.tuple [a, b]))) ?_ (fun H2 e2 => q H2 (e.trans e2))
    have ei : Ev (tCall (pInt K) [] E0 (tCons (tVar 1) tNil)) [some (.ref p), some x, some y] H1 (.bl (isIntD a)) := ev_call1 (ead_cons (evd_var rfl hx) ead_nil) rfl trivial rfl
    have ec : Ev (tCall (pCount K) [] E0 (tCons (tVar 2) (tCons (tC (.int 1)) tNil))) [some (.ref p), some x, some y] H1 (.bl (isCountD 1 b)) := ev_call1 (ead_cons (evd_var rfl hy) (ead_cons (evd_of Evl.ev_c fun _ => .int 1) ead_nil)) rfl ⟨1, rfl⟩ rfl
    cases hi : isIntD a with
    | false =>
      rw [hi] at ei
      refine Evl.ev_is (Evl.ev_andV (a := false) (b := false) ei fun z => nomatch z) ?_
      have : isFracD (.tuple [a, b]) = false := by
        cases a <;> first | rfl | cases hi
      rw [this]; rfl
    | true =>
      rw [hi] at ei
      cases hc : isCountD 1 b with
      | false =>
        rw [hc] at ec
        refine Evl.ev_is (Evl.ev_andV (a := true) (b := false) ei fun _ => Evl.ev_andV (a := false) (b := false) ec fun z => nomatch z) ?_
        have : isFracD (.tuple [a, b]) = false := by
          cases hf : isFracD (.tuple [a, b]) with
          | false => rfl
          | true =>
            obtain ⟨n, m, e1, e2, _⟩ := frac_shape hf
            have e3 : a = .int n ∧ b = .int m := by simpa using e1
            rw [e3.2] at hc
            have : isCountD 1 (.int m) = true := decide_eq_true e2
            rw [this] at hc; cases hc
        rw [this]; rfl
      | true =>
        rw [hc] at ec
        obtain ⟨i, rfl⟩ : ∃ i, a = .int i := by
          cases a <;> first | exact ⟨_, rfl⟩ | cases hi
        obtain ⟨j, rfl, hj⟩ := count_shape hc
        cases dp_int hx
        cases dp_int hy
        refine Evl.ev_is (Evl.ev_andV (a := true) (b := _) ei fun _ => Evl.ev_andV (a := true) (b := decide (V.int ((Nat.gcd i.natAbs j.natAbs : Nat) : Int) = V.int 1)) ec fun _ => ?_) ?_
        · refine Evl.ev_op (x := .int ((Nat.gcd i.natAbs j.natAbs : Nat) : Int)) (fun H2 m Q' q' => ?_) Evl.ev_c (Evl.rv_eq rfl)
          exact ⟨_, rfl, _, rfl, i, j, rfl, q' H2 (Ex.refl H2)⟩
        · refine congrArg V.bl ?_
          rw [isFracD_ints, decide_eq_true hj, Bool.true_and, Bool.true_and, Bool.true_and]
          by_cases hg : Nat.gcd i.natAbs j.natAbs = 1
          · rw [hg]; rfl
          · rw [decide_eq_false (fun z => hg (by have := V.int.inj z; omega))]
            exact (beq_eq_false_iff_ne.mpr hg).symm

abbrev s_is_letter : Stmt := topS 13
theorem sc_is_letter : FnScope ["value"] ["value"] (defScope s_is_letter) := ⟨rfl, rfl, rfl, by decide +kernel, rfl, by decide +kernel, by decide +kernel⟩
abbrev pLetter (K : PySem.W.Frag) : Sp := spB K 1 shorts fun ds => isLetterD (at0 ds)
theorem has_is_letter (T : Txt K mg) (D : DefAt K mg "is_letter" s_is_letter ["value"]) (his_pair : Has P w K mg base 1 "is_pair" ["value"] (pPair K)) (his_name : Has P w K mg base 1 "is_name" ["value"] (pName K))
    (his_count : Has P w K mg base 1 "is_count" ["value", "least"] (pCount K)) : Has P w K mg base 2 "is_letter" ["value"] (pLetter K) := by
  refine mk D sc_is_letter (fun vs H Q E h => spB_len h) (fun f cdv A outer s H vs Q E hr h => ?_)
  obtain ⟨ds, hd, hl, hsh, q⟩ := h
  obtain ⟨v, d, rfl, rfl, hv⟩ := args1 hd hl
  have hd0 : shortD d := by rw [shorts, shortAll] at hsh; exact hsh.1
  refine ⟨_, (pss_one (ps_ret (pe_and (ph his_pair (hr.mono (by decide)) (pa_cons (pv 0) pa_nil)) (pe_and (ph his_name (hr.mono (by decide)) (pa_cons (pe_ix ix_tup (pv 0) pe_int (fun _ _ => rfl)) pa_nil)) (pe_one (ph his_count (hr.mono (by decide)) (pa_cons (pe_ix ix_tup (pv 0) pe_int (fun _ _ => rfl)) (pa_cons pe_int pa_nil)))))))), ?_⟩
  refine Evl.s_ret (v := .bl (isLetterD d)) ?_ q
  cases hp : isPairD d with
  | false =>
    refine Evl.ev_is (Evl.ev_andV (a := false) (b := false) (ev_call1 (ead_cons (evd_var rfl hv) ead_nil) rfl trivial hp) fun z => nomatch z) ?_
    have : isLetterD d = false := by
      cases hf : isLetterD d with
      | false => rfl
      | true =>
        obtain ⟨n, m, rfl, _⟩ := letter_shape hf
        cases hp
    rw [this]; rfl
  | true =>
    obtain ⟨a, b, rfl⟩ := pair_shape hp
    have ha : shorts [a] := by
      rw [short_tup, shortAll] at hd0
      exact ⟨hd0.2.1, trivial⟩
    exact Evl.ev_andV (a := true) (ev_call1 (ead_cons (evd_var rfl hv) ead_nil) rfl trivial hp) fun _ =>
      Evl.ev_andV (ev_call1 (ead_cons (evd_ixT (i := 0) (evd_var rfl hv) Evl.ev_c rfl) ead_nil) rfl ha rfl) fun _ =>
        ev_call1 (ead_cons (evd_ixT (i := 1) (evd_var rfl hv) Evl.ev_c rfl) (ead_cons (evd_of Evl.ev_c fun _ => .int 0) ead_nil)) rfl ⟨0, rfl⟩ rfl
end
end K00
end

section
set_option Elab.async false
set_option linter.all false
set_option maxRecDepth 100000
set_option maxHeartbeats 4000000
/-! the program: is_monomial; by an AI agent -/
namespace K00
open PySem PySem.Spec PyProof.Rows L2 RX
open Evl (Ex Ev EvT EvA EvL EvU RV RC)
theorem ev_notN {ta tb : TE} {σ : L2.St} {H : Hp} {x : V} (ha : Ev ta σ H x) (hb : Ev tb σ H .non) : Ev (tOp (fun x y H Q => y = .non ∧ Q (.bl (!decide (x = .non))) H) ta tb) σ H (.bl (!decide (x = .non))) := fun H1 m Q q =>
  ha H1 m _ fun H2 e2 => hb H2 (m.trans e2) _ fun H3 e3 => ⟨rfl, q H3 (e2.trans e3)⟩
/-- what a walk along parts keeps: the parts so far are right and their firsts ascend -/
structure Walked (ok : PyData → Bool) (ds : List PyData) (i : Nat) : Prop where
  parts : ∀ j, j < i → ∀ d, ds[j]? = some d → ok d = true
  asc : ∀ j, j + 1 < i → PySem.W.dataLt ((ds.map firstD).getD j .none) ((ds.map firstD).getD (j + 1) .none) = true
theorem Walked.zero {ok : PyData → Bool} {ds : List PyData} : Walked ok ds 0 := ⟨fun j h => absurd h (Nat.not_lt_zero _), fun j h => absurd h (Nat.not_lt_zero _)⟩
theorem Walked.done {ok : PyData → Bool} {ds : List PyData} (h : Walked ok ds ds.length) : (ds.all ok && ascD (ds.map firstD)) = true := by
  rw [Bool.and_eq_true]
  refine ⟨?_, asc_true fun k hk => ?_⟩
  · rw [List.all_eq_true]
    intro d hd
    obtain ⟨j, hj⟩ := List.mem_iff_getElem?.mp hd
    exact h.parts j (List.getElem?_eq_some_iff.mp hj).1 d hj
  · rw [List.length_map] at hk
    exact h.asc k hk
theorem Walked.step {ok : PyData → Bool} {ds : List PyData} {i : Nat} {d : PyData} (h : Walked ok ds i) (hd : ds[i]? = some d) (hk : ok d = true) (hlt : ∀ p e, i = p + 1 → ds[p]? = some e → PySem.W.dataLt (firstD e) (firstD d) = true) : Walked ok ds (i + 1) := by
  refine ⟨fun j hj e he => ?_, fun j hj => ?_⟩
  · rcases Nat.lt_succ_iff_lt_or_eq.mp hj with h1 | h1
    · exact h.parts j h1 e he
    · subst h1
      rw [hd] at he
      cases he
      exact hk
  · rcases Nat.lt_succ_iff_lt_or_eq.mp hj with h1 | h1
    · exact h.asc j h1
    · have hi : i < ds.length := (List.getElem?_eq_some_iff.mp hd).1
      have hj' : j < ds.length := by omega
      rw [getD_map_first (List.getElem?_eq_getElem hj'), show j + 1 = i from h1, getD_map_first hd]
      exact hlt j _ h1.symm (List.getElem?_eq_getElem hj')
theorem Walked.bad_part {ok : PyData → Bool} {ds : List PyData} {i : Nat} {d : PyData} (hd : ds[i]? = some d) (hk : ok d = false) : (ds.all ok && ascD (ds.map firstD)) = false := by
  rw [all_false hd hk, Bool.false_and]
theorem Walked.bad_asc {ok : PyData → Bool} {ds : List PyData} {p : Nat} {d e : PyData} (hp : ds[p]? = some e) (hd : ds[p + 1]? = some d) (hlt : PySem.W.dataLt (firstD e) (firstD d) = false) : (ds.all ok && ascD (ds.map firstD)) = false := by
  have hi : p + 1 < ds.length := (List.getElem?_eq_some_iff.mp hd).1
  rw [asc_false (k := p) (by rw [List.length_map]; exact hi) (by rw [getD_map_first hp, getD_map_first hd]; exact hlt), Bool.and_false]
section
variable {P : Program} {w : World} {K : PySem.W.Frag} {mg : Str → Option Value} {base : Heap}
abbrev pMono (K : PySem.W.Frag) : Sp := spB K 1 shorts fun ds => isMonoD (at0 ds)
abbrev s_is_monomial : Stmt := topS 14
theorem sc_is_monomial : FnScope ["value", "last", "pair"] ["value"] (defScope s_is_monomial) := ⟨rfl, rfl, rfl, by decide +kernel, rfl, by decide +kernel, by decide +kernel⟩
theorem first_pair {a b : PyData} : firstD (.tuple [a, b]) = a := rfl
theorem has_is_monomial (T : Txt K mg) (D : DefAt K mg "is_monomial" s_is_monomial ["value"]) (his_pair : Has P w K mg base 1 "is_pair" ["value"] (pPair K)) (his_letter : Has P w K mg base 2 "is_letter" ["value"] (pLetter K))
    (his_count : Has P w K mg base 1 "is_count" ["value", "least"] (pCount K)) : Has P w K mg base 3 "is_monomial" ["value"] (pMono K) := by
  refine mk D sc_is_monomial (fun vs H Q E h => spB_len h) (fun f cdv A outer s H vs Q E hr h => ?_)
  obtain ⟨ds, hd, hl, hsh, q⟩ := h
  obtain ⟨v, d, rfl, rfl, hv⟩ := args1 hd hl
  have hd0 : shortD d := by rw [shorts, shortAll] at hsh; exact hsh.1
  have qb : ∀ b, isMonoD d = b → ∀ H', Ex H H' → Q (.bl b) H' := fun b z H' e => by
    have q' : Q (.bl (isMonoD d)) H' := q H' e
    rw [z] at q'; exact q'
  refine ⟨_, (pss_cons (ps_if (pt_cmpR op_notTyB (pe_callTy call_type1 (by rfl) T.type (by decide +kernel) (pa_cons (pv 0) pa_nil)) (pe_bltn (v := .ty "tuple") (u := .type "tuple") (by rfl) T.tuple (by decide +kernel) rfl) (nomark _))
  (pss_one (ps_ret pe_bl))
  pss_nil)
  (pss_cons (ps_set (i := 1) sc_is_monomial.nd rfl (Or.inl rfl) pe_non)
  (pss_cons (ps_for PassesOwn.never rfl (pi_tup (pv 0)) (pg_name (i := 2) sc_is_monomial.nd rfl (Or.inl rfl))
  (pss_cons (ps_if (PW.pt (pw_or (pt_not (pt_val (ph his_pair (hr.mono (by decide)) (pa_cons (pv 2) pa_nil)))) (pw_or (pt_not (pt_val (ph his_letter (hr.mono (by decide)) (pa_cons (pe_ix ix_tup (pv 2) pe_int (fun _ _ => rfl)) pa_nil)))) (pw_or1 (pt_not (pt_val (ph his_count (hr.mono (by decide)) (pa_cons (pe_ix ix_tup (pv 2) pe_int (fun _ _ => rfl)) (pa_cons pe_int pa_nil)))))))))
  (pss_one (ps_ret pe_bl))
  pss_nil)
  (pss_cons (ps_if (PW.pt (pw_and (pt_cmpR op_notN (pv 1) pe_non (nomark _)) (pw_and1 (pt_not (pt_cmpR (op_ltD (u45 hr)) (pv 1) (pe_ix ix_tup (pv 2) pe_int (fun _ _ => rfl)) (nomark _))))))
  (pss_one (ps_ret pe_bl))
  pss_nil)
  (pss_one (ps_set (i := 1) sc_is_monomial.nd rfl (Or.inl rfl) (pe_ix ix_tup (pv 2) pe_int (fun _ _ => rfl)))))))
  (pss_one (ps_ret pe_bl))))), ?_⟩
  by_cases hty : ∃ x, d = .tuple x
  case neg =>
    have hn : isMonoD d = false := by
      cases d <;> first | rfl | exact absurd ⟨_, rfl⟩ hty
    refine Evl.s_if (b := true) (Evl.et_test (Evl.ev_is (ev_notTy (ev_type (evd_var rfl hv)) Evl.ev_c) (congrArg V.bl (by rw [decide_eq_false (fun z => hty (ty_tuple z))]; rfl)))) (fun _ H1 e => ?_) (fun z => nomatch z)
    exact Evl.s_ret Evl.ev_c fun H2 e2 => qb _ hn H2 (e.trans e2)
  obtain ⟨ds, rfl⟩ := hty
  obtain ⟨a, xs, rfl, hs, hall⟩ := dp_tup hv
  rw [short_tup] at hd0
  refine Evl.s_if (b := false) (Evl.et_test (Evl.ev_is (ev_notTy (ev_type (evd_var rfl hv)) Evl.ev_c) rfl)) (fun z => nomatch z) (fun _ H1 e1 => ?_)
  try dsimp only [tNext, tSeq]
  refine Evl.s_asg (v := .non) Evl.ev_c fun H2 e2 => ?_
  try dsimp only [tNext, tSeq]
  have E2 : Ex H H2 := e1.trans e2
  refine Evl.s_forT (a := a) (xs := xs) (Evl.ev_var rfl) (st_mono E2 hs) (fun i σ' H' => ∃ lv y, σ' = [some (.ref a), some lv, y] ∧ Ex H H' ∧ (i = 0 → lv = .non) ∧ (∀ p, i = p + 1 → ∃ e, ds[p]? = some e ∧ Dp K H' lv (firstD e)) ∧ Walked partOkD ds i)
    (fun H3 e3 => ⟨.non, none, rfl, E2.trans e3, fun _ => rfl, fun p z => (nomatch z), Walked.zero⟩) (fun i σ' H' _ hP => ?_) (fun i x σ' H' hx hP => ?_) (fun σ' H' hP => ?_)
  · obtain ⟨lv, y, rfl, E3, _⟩ := hP
    exact st_mono E3 hs
  · obtain ⟨lv, y, rfl, E3, l0, l1, W⟩ := hP
    obtain ⟨di, hdi, hxi⟩ := dpAll_getV (dpAll_ex E3 hall) hx
    have shi : shortD di := short_get hd0.2 hdi
    dsimp only [gName, List.set, tSeq]
    cases hpr : isPairD di with
    | false =>
      have hk : partOkD di = false := by
        cases hf : partOkD di with
        | false => rfl
        | true =>
          obtain ⟨_, _, _, rfl, _⟩ := part_shape hf
          cases hpr
      refine Evl.s_if (b := true) (Evl.et_is (Evl.et_or (a := true) (b := true) (Evl.et_not (evt_call (k := 0) (b := false) (ead_cons (evd_var rfl hxi) ead_nil) rfl trivial hpr)) fun z => nomatch z) rfl) (fun _ H4 e4 => ?_) (fun z => nomatch z)
      exact Evl.s_ret Evl.ev_c fun H5 e5 => qb false (Walked.bad_part hdi hk) H5 ((E3.trans e4).trans e5)
    | true =>
      obtain ⟨p, c, rfl⟩ := pair_shape hpr
      have hp1 : shorts [p] := by
        rw [short_tup, shortAll] at shi
        exact ⟨shi.2.1, trivial⟩
      have ep : EvD K (tOp (rIxT K) (tVar 2) (tC (.int 0))) [some (.ref a), some lv, some x] H' p := evd_ixT (i := 0) (evd_var rfl hxi) Evl.ev_c rfl
      refine Evl.s_if (b := !(partOkD (.tuple [p, c]))) (Evl.et_is (Evl.et_or (a := false) (b := !isLetterD p || !isCountD 1 c) (Evl.et_not (evt_call (k := 0) (b := true) (ead_cons (evd_var rfl hxi) ead_nil) rfl trivial hpr)) fun _ =>
        Evl.et_or (Evl.et_not (evt_call (k := 0) (b := isLetterD p) (ead_cons ep ead_nil) rfl hp1 rfl)) fun _ =>
          Evl.et_not (evt_call (k := 0) (b := isCountD 1 c) (ead_cons (evd_ixT (i := 1) (evd_var rfl hxi) Evl.ev_c rfl) (ead_cons (evd_of Evl.ev_c fun _ => .int 1) ead_nil)) rfl ⟨1, rfl⟩ rfl)) (by
            show (false || (!isLetterD p || !isCountD 1 c)) = !(isLetterD p && isCountD 1 c)
            rw [Bool.false_or, Bool.not_and])) (fun z H4 e4 => ?_) (fun z H4 e4 => ?_)
      · have hk : partOkD (.tuple [p, c]) = false := by simpa using z
        exact Evl.s_ret Evl.ev_c fun H5 e5 => qb false (Walked.bad_part hdi hk) H5 ((E3.trans e4).trans e5)
      · have hk : partOkD (.tuple [p, c]) = true := by simpa using z
        have hlp : isLetterD p = true := by
          have : (isLetterD p && isCountD 1 c) = true := hk
          rw [Bool.and_eq_true] at this
          exact this.1
        have ep4 := EvD.mono e4 ep
        try dsimp only [tNext, tSeq]
        -- the order
        have order : ∃ b, EvT (tAnd (tTest (tOp (fun x y H Q => y = .non ∧ Q (.bl (!decide (x = .non))) H) (tVar 1) (tC .non))) (tNot (tTest (tOp (rLtD K) (tVar 1) (tOp (rIxT K) (tVar 2) (tC (.int 0))))))) [some (.ref a), some lv, some x] H4 b ∧
            (b = true → isMonoD (.tuple ds) = false) ∧ (b = false → ∀ p' e, i = p' + 1 → ds[p']? = some e → PySem.W.dataLt (firstD e) p = true) := by
          cases i with
          | zero =>
            refine ⟨false, Evl.et_is (Evl.et_and (a := false) (b := false) (Evl.et_test (Evl.ev_is (ev_notN (Evl.ev_var rfl) Evl.ev_c) (by rw [l0 rfl]; rfl))) (fun z => nomatch z)) rfl, (fun z => nomatch z), (fun _ p' e z => absurd z (by omega))⟩
          | succ p' =>
            obtain ⟨e, he, hlv⟩ := l1 p' rfl
            have hek : partOkD e = true := W.parts p' (Nat.lt_succ_self _) e he
            obtain ⟨s1, i1, e1', rfl, hl1, _⟩ := part_shape hek
            have hne : decide (lv = V.non) = false := by
              obtain ⟨b, ys, rfl, _⟩ := dp_tup hlv
              exact decide_eq_false fun z => nomatch z
            refine ⟨!PySem.W.dataLt (.tuple [.str s1, .int i1]) p, Evl.et_is (Evl.et_and (a := true) (Evl.et_test (Evl.ev_is (ev_notN (Evl.ev_var rfl) Evl.ev_c) (by rw [hne]; rfl))) fun _ =>
              Evl.et_not (Evl.et_test (ev_ltD (evd_var rfl (dp_ex e4 hlv)) ep4 (alike_letters hl1 hlp) (not_none_letter hl1) (by show (PyData.tuple [.str s1, .int i1]).depth ≤ 40; rw [depth_letter hl1]; omega)))) (Bool.true_and _), fun z => ?_, fun z p2 e2 hp2 he2 => ?_⟩
            · have z' : PySem.W.dataLt (.tuple [.str s1, .int i1]) p = false := by simpa using z
              exact Walked.bad_asc he hdi z'
            · have : p2 = p' := by omega
              subst this
              rw [he] at he2
              cases he2
              have z' : PySem.W.dataLt (.tuple [.str s1, .int i1]) p = true := by simpa using z
              exact z'
        obtain ⟨b, hb, b1, b2⟩ := order
        refine Evl.s_if hb (fun z H5 e5 => ?_) (fun z H5 e5 => ?_)
        · exact Evl.s_ret Evl.ev_c fun H6 e6 => qb false (b1 z) H6 (((E3.trans e4).trans e5).trans e6)
        · try dsimp only [tNext, tSeq]
          refine s_asgD (EvD.mono e5 ep4) fun v5 H6 e6 hv5 => ?_
          refine ⟨v5, some x, rfl, ((E3.trans e4).trans e5).trans e6, fun z => (nomatch z), fun p2 z2 => ?_, W.step hdi hk (b2 z)⟩
          have : p2 = i := by omega
          subst this
          exact ⟨_, hdi, hv5⟩
  · obtain ⟨lv, y, rfl, E3, l0, l1, W⟩ := hP
    rw [dpAll_len hall] at W
    try dsimp only [tNext, tSeq]
    exact Evl.s_ret Evl.ev_c fun H5 e5 => qb true W.done H5 (E3.trans e5)
end
end K00
end

section
set_option Elab.async false
set_option linter.all false
set_option maxRecDepth 100000
set_option maxHeartbeats 4000000
/-! the program: is_polynomial; by an AI agent -/
namespace K00
open PySem PySem.Spec PyProof.Rows L2 RX
open Evl (Ex Ev EvT EvA EvL EvU RV RC)
def zeroF : PyData := .tuple [.int 0, .int 1]
theorem frac_shaped {d : PyData} (h : isFracD d = true) : SeqAt.shaped d = true := by
  obtain ⟨n, m, rfl, _⟩ := frac_shape h
  rfl
theorem frac_zero {d : PyData} (h : isFracD d = true) : PyData.eqv d zeroF = isZeroD d := by
  obtain ⟨n, m, rfl, h1, h2⟩ := frac_shape h
  have e : PyData.eqv (.tuple [.int n, .int m]) zeroF = ((n == 0) && ((m == 1) && true)) := by simp only [zeroF, PyData.eqv, PyData.eqvAll]
  rw [e]
  show _ = decide (n = 0)
  by_cases hn : n = 0
  · subst hn
    have hm : m.natAbs = 1 := by simpa using h2
    have : m = 1 := by omega
    subst this
    rfl
  · rw [decide_eq_false hn, beq_eq_false_iff_ne.mpr hn, Bool.false_and]
section
variable {P : Program} {w : World} {K : PySem.W.Frag} {mg : Str → Option Value} {base : Heap}
abbrev pPoly (K : PySem.W.Frag) : Sp := spB K 1 shorts fun ds => isPolyD (at0 ds)
abbrev s_is_polynomial : Stmt := topS 15
theorem sc_is_polynomial : FnScope ["value", "last", "pair"] ["value"] (defScope s_is_polynomial) := ⟨rfl, rfl, rfl, by decide +kernel, rfl, by decide +kernel, by decide +kernel⟩
theorem has_is_polynomial (T : Txt K mg) (D : DefAt K mg "is_polynomial" s_is_polynomial ["value"]) (his_pair : Has P w K mg base 1 "is_pair" ["value"] (pPair K)) (his_monomial : Has P w K mg base 3 "is_monomial" ["value"] (pMono K))
    (his_fraction : Has P w K mg base 2 "is_fraction" ["value"] (pFrac K)) : Has P w K mg base 4 "is_polynomial" ["value"] (pPoly K) := by
  obtain ⟨aZERO, mZERO, hZ⟩ := T.zero
  refine mk D sc_is_polynomial (fun vs H Q E h => spB_len h) (fun f cdv A outer s H vs Q E hr h => ?_)
  obtain ⟨ds, hd, hl, hsh, q⟩ := h
  obtain ⟨v, d, rfl, rfl, hv⟩ := args1 hd hl
  have hd0 : shortD d := by rw [shorts, shortAll] at hsh; exact hsh.1
  have qb : ∀ b, isPolyD d = b → ∀ H', Ex H H' → Q (.bl b) H' := fun b z H' e => by
    have q' : Q (.bl (isPolyD d)) H' := q H' e
    rw [z] at q'; exact q'
  refine ⟨_, (pss_cons (ps_if (pt_cmpR op_notTyB (pe_callTy call_type1 (by rfl) T.type (by decide +kernel) (pa_cons (pv 0) pa_nil)) (pe_bltn (v := .ty "tuple") (u := .type "tuple") (by rfl) T.tuple (by decide +kernel) rfl) (nomark _))
  (pss_one (ps_ret pe_bl))
  pss_nil)
  (pss_cons (ps_set (i := 1) sc_is_polynomial.nd rfl (Or.inl rfl) pe_non)
  (pss_cons (ps_for PassesOwn.never rfl (pi_tup (pv 0)) (pg_name (i := 2) sc_is_polynomial.nd rfl (Or.inl rfl))
  (pss_cons (ps_if (PW.pt (pw_or (pt_not (pt_val (ph his_pair (hr.mono (by decide)) (pa_cons (pv 2) pa_nil)))) (pw_or (pt_not (pt_val (ph his_monomial (hr.mono (by decide)) (pa_cons (pe_ix ix_tup (pv 2) pe_int (fun _ _ => rfl)) pa_nil)))) (pw_or (pt_not (pt_val (ph his_fraction (hr.mono (by decide)) (pa_cons (pe_ix ix_tup (pv 2) pe_int (fun _ _ => rfl)) pa_nil)))) (pw_or1 (pt_cmpR (op_eqD (u64 hr)) (pe_ix ix_tup (pv 2) pe_int (fun _ _ => rfl)) (pe_glob (v := .ref aZERO) rfl mZERO rfl) (nomark _)))))))
  (pss_one (ps_ret pe_bl))
  pss_nil)
  (pss_cons (ps_if (PW.pt (pw_and (pt_cmpR op_notN (pv 1) pe_non (nomark _)) (pw_and1 (pt_not (pt_cmpR (op_ltD (u45 hr)) (pv 1) (pe_ix ix_tup (pv 2) pe_int (fun _ _ => rfl)) (nomark _))))))
  (pss_one (ps_ret pe_bl))
  pss_nil)
  (pss_one (ps_set (i := 1) sc_is_polynomial.nd rfl (Or.inl rfl) (pe_ix ix_tup (pv 2) pe_int (fun _ _ => rfl)))))))
  (pss_one (ps_ret pe_bl))))), ?_⟩
  by_cases hty : ∃ x, d = .tuple x
  case neg =>
    have hn : isPolyD d = false := by
      cases d <;> first | rfl | exact absurd ⟨_, rfl⟩ hty
    refine Evl.s_if (b := true) (Evl.et_test (Evl.ev_is (ev_notTy (ev_type (evd_var rfl hv)) Evl.ev_c) (congrArg V.bl (by rw [decide_eq_false (fun z => hty (ty_tuple z))]; rfl)))) (fun _ H1 e => ?_) (fun z => nomatch z)
    exact Evl.s_ret Evl.ev_c fun H2 e2 => qb _ hn H2 (e.trans e2)
  obtain ⟨ds, rfl⟩ := hty
  obtain ⟨a, xs, rfl, hs, hall⟩ := dp_tup hv
  rw [short_tup] at hd0
  refine Evl.s_if (b := false) (Evl.et_test (Evl.ev_is (ev_notTy (ev_type (evd_var rfl hv)) Evl.ev_c) rfl)) (fun z => nomatch z) (fun _ H1 e1 => ?_)
  try dsimp only [tNext, tSeq]
  refine Evl.s_asg (v := .non) Evl.ev_c fun H2 e2 => ?_
  try dsimp only [tNext, tSeq]
  have E2 : Ex H H2 := e1.trans e2
  refine Evl.s_forT (a := a) (xs := xs) (Evl.ev_var rfl) (st_mono E2 hs) (fun i σ' H' => ∃ lv y, σ' = [some (.ref a), some lv, y] ∧ Ex H H' ∧ (i = 0 → lv = .non) ∧ (∀ p, i = p + 1 → ∃ e, ds[p]? = some e ∧ Dp K H' lv (firstD e)) ∧ Walked termOkD ds i)
    (fun H3 e3 => ⟨.non, none, rfl, E2.trans e3, fun _ => rfl, fun p z => (nomatch z), Walked.zero⟩) (fun i σ' H' _ hP => ?_) (fun i x σ' H' hx hP => ?_) (fun σ' H' hP => ?_)
  · obtain ⟨lv, y, rfl, E3, _⟩ := hP
    exact st_mono E3 hs
  · obtain ⟨lv, y, rfl, E3, l0, l1, W⟩ := hP
    obtain ⟨di, hdi, hxi⟩ := dpAll_getV (dpAll_ex E3 hall) hx
    have shi : shortD di := short_get hd0.2 hdi
    dsimp only [gName, List.set, tSeq]
    cases hpr : isPairD di with
    | false =>
      have hk : termOkD di = false := by
        cases hf : termOkD di with
        | false => rfl
        | true =>
          obtain ⟨_, _, rfl, _⟩ := term_shape hf
          cases hpr
      refine Evl.s_if (b := true) (Evl.et_is (Evl.et_or (a := true) (b := true) (Evl.et_not (evt_call (k := 0) (b := false) (ead_cons (evd_var rfl hxi) ead_nil) rfl trivial hpr)) fun z => nomatch z) rfl) (fun _ H4 e4 => ?_) (fun z => nomatch z)
      exact Evl.s_ret Evl.ev_c fun H5 e5 => qb false (Walked.bad_part hdi hk) H5 ((E3.trans e4).trans e5)
    | true =>
      obtain ⟨p, c, rfl⟩ := pair_shape hpr
      have hp1 : shorts [p] := by
        rw [short_tup, shortAll] at shi
        exact ⟨shi.2.1, trivial⟩
      have ep : EvD K (tOp (rIxT K) (tVar 2) (tC (.int 0))) [some (.ref a), some lv, some x] H' p := evd_ixT (i := 0) (evd_var rfl hxi) Evl.ev_c rfl
      have eqz : isFracD c = true → Ev (tOp (rEqD K) (tOp (rIxT K) (tVar 2) (tC (.int 1))) (tC (.ref aZERO))) [some (.ref a), some lv, some x] H' (.bl (isZeroD c)) := fun hc =>
        Evl.ev_is (ev_eqD (evd_ixT (i := 1) (evd_var rfl hxi) Evl.ev_c rfl) (evd_of (d := zeroF) Evl.ev_c fun H' => .tup (hZ H') (.cons (.int 0) (.cons (.int 1) .nil))) (frac_shaped hc) rfl) (congrArg V.bl (frac_zero hc))
      refine Evl.s_if (b := !(termOkD (.tuple [p, c]))) (Evl.et_is (Evl.et_or (a := false) (b := !isMonoD p || (!isFracD c || (isFracD c && isZeroD c))) (Evl.et_not (evt_call (k := 0) (b := true) (ead_cons (evd_var rfl hxi) ead_nil) rfl trivial hpr)) fun _ =>
        Evl.et_or (Evl.et_not (evt_call (k := 0) (b := isMonoD p) (ead_cons ep ead_nil) rfl hp1 rfl)) fun _ =>
          Evl.et_or (Evl.et_not (evt_call (k := 0) (b := isFracD c) (ead_cons (evd_ixT (i := 1) (evd_var rfl hxi) Evl.ev_c rfl) ead_nil) rfl trivial rfl)) fun hc => by
            have hc' : isFracD c = true := by simpa using hc
            exact Evl.et_test (Evl.ev_is (eqz hc') (by rw [hc', Bool.true_and]))) (by
            show (false || (!isMonoD p || (!isFracD c || (isFracD c && isZeroD c)))) = !(isMonoD p && isFracD c && !isZeroD c)
            cases isMonoD p <;> cases isFracD c <;> cases isZeroD c <;> rfl)) (fun z H4 e4 => ?_) (fun z H4 e4 => ?_)
      · have hk : termOkD (.tuple [p, c]) = false := by simpa using z
        exact Evl.s_ret Evl.ev_c fun H5 e5 => qb false (Walked.bad_part hdi hk) H5 ((E3.trans e4).trans e5)
      · have hk : termOkD (.tuple [p, c]) = true := by simpa using z
        have hlp : isMonoD p = true := by
          have : (isMonoD p && isFracD c && !isZeroD c) = true := hk
          rw [Bool.and_eq_true, Bool.and_eq_true] at this
          exact this.1.1
        have ep4 := EvD.mono e4 ep
        try dsimp only [tNext, tSeq]
        -- the order
        have order : ∃ b, EvT (tAnd (tTest (tOp (fun x y H Q => y = .non ∧ Q (.bl (!decide (x = .non))) H) (tVar 1) (tC .non))) (tNot (tTest (tOp (rLtD K) (tVar 1) (tOp (rIxT K) (tVar 2) (tC (.int 0))))))) [some (.ref a), some lv, some x] H4 b ∧
            (b = true → isPolyD (.tuple ds) = false) ∧ (b = false → ∀ p' e, i = p' + 1 → ds[p']? = some e → PySem.W.dataLt (firstD e) p = true) := by
          cases i with
          | zero =>
            refine ⟨false, Evl.et_is (Evl.et_and (a := false) (b := false) (Evl.et_test (Evl.ev_is (ev_notN (Evl.ev_var rfl) Evl.ev_c) (by rw [l0 rfl]; rfl))) (fun z => nomatch z)) rfl, (fun z => nomatch z), (fun _ p' e z => absurd z (by omega))⟩
          | succ p' =>
            obtain ⟨e, he, hlv⟩ := l1 p' rfl
            have hek : termOkD e = true := W.parts p' (Nat.lt_succ_self _) e he
            obtain ⟨p1, c1, rfl, hl1, _⟩ := term_shape hek
            have hne : decide (lv = V.non) = false := by
              obtain ⟨ms, hms, _⟩ := mono_shape hl1
              have hlv' : Dp K H' lv (.tuple ms) := by rw [← hms]; exact hlv
              obtain ⟨b, ys, rfl, _⟩ := dp_tup hlv'
              exact decide_eq_false fun z => nomatch z
            refine ⟨!PySem.W.dataLt p1 p, Evl.et_is (Evl.et_and (a := true) (Evl.et_test (Evl.ev_is (ev_notN (Evl.ev_var rfl) Evl.ev_c) (by rw [hne]; rfl))) fun _ =>
              Evl.et_not (Evl.et_test (ev_ltD (evd_var rfl (dp_ex e4 hlv)) ep4 (alike_monos hl1 hlp) (not_none_mono hl1) (by have := depth_mono hl1; show p1.depth ≤ 40; omega)))) (Bool.true_and _), fun z => ?_, fun z p2 e2 hp2 he2 => ?_⟩
            · have z' : PySem.W.dataLt p1 p = false := by simpa using z
              exact Walked.bad_asc he hdi z'
            · have : p2 = p' := by omega
              subst this
              rw [he] at he2
              cases he2
              have z' : PySem.W.dataLt p1 p = true := by simpa using z
              exact z'
        obtain ⟨b, hb, b1, b2⟩ := order
        refine Evl.s_if hb (fun z H5 e5 => ?_) (fun z H5 e5 => ?_)
        · exact Evl.s_ret Evl.ev_c fun H6 e6 => qb false (b1 z) H6 (((E3.trans e4).trans e5).trans e6)
        · try dsimp only [tNext, tSeq]
          refine s_asgD (EvD.mono e5 ep4) fun v5 H6 e6 hv5 => ?_
          refine ⟨v5, some x, rfl, ((E3.trans e4).trans e5).trans e6, fun z => (nomatch z), fun p2 z2 => ?_, W.step hdi hk (b2 z)⟩
          have : p2 = i := by omega
          subst this
          exact ⟨_, hdi, hv5⟩
  · obtain ⟨lv, y, rfl, E3, l0, l1, W⟩ := hP
    rw [dpAll_len hall] at W
    try dsimp only [tNext, tSeq]
    exact Evl.s_ret Evl.ev_c fun H5 e5 => qb true W.done H5 (E3.trans e5)
end
end K00
end

section
set_option Elab.async false
set_option linter.all false
set_option maxRecDepth 100000
set_option maxHeartbeats 4000000
/-! the law: gcd, kinds of values; by an AI agent -/
namespace K00
open PySem PySem.Spec PyProof.Rows L2 RX
open Evl (Ex Ev EvT EvA EvL EvU RV RC)
section
variable {P : Program} {w : World} {K : PySem.W.Frag} {mg : Str → Option Value} {base : Heap}
theorem pair_len (ds : List PyData) : (true && decide (V.int ((ds.length : Nat) : Int) = V.int 2)) = isPairD (.tuple ds) := by
  match ds with
  | [] => rfl
  | [_] => rfl
  | [_, _] => rfl
  | a :: b :: c :: r =>
    rw [Bool.true_and]
    refine decide_eq_false fun z => ?_
    have z1 := V.int.inj z
    rw [List.length_cons, List.length_cons, List.length_cons] at z1
    omega
theorem frac_dec (i j : Int) : (decide (0 < j) && decide (V.int ((Nat.gcd i.natAbs j.natAbs : Nat) : Int) = V.int 1)) = isFracD (.tuple [.int i, .int j]) := by
  rw [isFracD_ints]
  have h1 : decide (0 < j) = decide (1 ≤ j) := by
    by_cases h : 0 < j
    · rw [decide_eq_true h, decide_eq_true (by omega)]
    · rw [decide_eq_false h, decide_eq_false (by omega)]
  rw [h1]
  refine congrArg (fun b => decide (1 ≤ j) && b) ?_
  by_cases hg : Nat.gcd i.natAbs j.natAbs = 1
  · rw [hg]; rfl
  · rw [decide_eq_false (fun z => hg (by have := V.int.inj z; omega)), beq_eq_false_iff_ne.mpr hg]
def tyNames : List String := ["NoneType", "bool", "int", "str", "list", "tuple", "dict"]
theorem ty_mem (d : PyData) : tyName d ∈ tyNames := by
  cases d <;> simp [tyName, tyNames]
theorem kits_int : ∀ n ∈ tyNames, kitB n "int" = some (decide (n = "int") || decide (n = "bool")) := by decide +kernel
theorem kits_bool : ∀ n ∈ tyNames, kitB n "bool" = some (decide (n = "bool")) := by decide +kernel
theorem kits_tuple : ∀ n ∈ tyNames, kitB n "tuple" = some (decide (n = "tuple")) := by decide +kernel
theorem kits_str : ∀ n ∈ tyNames, kitB n "str" = some (decide (n = "str")) := by decide +kernel
def ints2 (ds : List PyData) : Prop := ∃ i j, ds = [.int i, .int j]
def gcdD (ds : List PyData) : PyData := match ds with | [.int i, .int j] => .int ((Nat.gcd i.natAbs j.natAbs : Nat) : Int) | _ => .none
abbrev pGcd (K : PySem.W.Frag) : Sp := spD K 2 ints2 gcdD
theorem abs_nat (i : Int) : (if i < 0 then -i else i) = ((i.natAbs : Nat) : Int) := by
  split <;> omega
theorem ev_abs {ta : TE} {σ : L2.St} {H : Hp} {i : Int} (ha : Ev ta σ H (.int i)) : Ev (tCB (fun xs H Q => ∃ i, xs = [.int i] ∧ Q (.int (if i < 0 then -i else i)) H) (tCons ta tNil)) σ H (.int ((i.natAbs : Nat) : Int)) := fun H1 m Q q =>
  ha H1 m _ fun H2 e2 => ⟨i, rfl, by rw [abs_nat]; exact q H2 e2⟩
abbrev s__law_gcd : Stmt := topS 25
theorem sc__law_gcd : FnScope ["a", "b"] ["a", "b"] (defScope s__law_gcd) := ⟨rfl, rfl, rfl, by decide +kernel, rfl, by decide +kernel, by decide +kernel⟩
theorem has_law_gcd (T : Txt K mg) (D : DefAt K mg "_law_gcd" s__law_gcd ["a", "b"]) : Has P w K mg base 1 "_law_gcd" ["a", "b"] (pGcd K) := by
  refine mk D sc__law_gcd (fun vs H Q E h => spD_len h) (fun f cdv A outer s H vs Q E hr h => ?_)
  obtain ⟨ds, hd, hl, ⟨i, j, rfl⟩, q⟩ := h
  obtain ⟨v, v', rfl, hv, hv'⟩ := dpAll2 hd
  cases dp_int hv
  cases dp_int hv'
  refine ⟨_, (pss_cons (ps_par (i := 0) (j := 1) (by rfl) sc__law_gcd.nd rfl rfl (by decide) rfl rfl (pa_cons (pe_callB call_abs (by rfl) T.abs (by decide +kernel) (pa_cons (pv 0) pa_nil)) (pa_cons (pe_callB call_abs (by rfl) T.abs (by decide +kernel) (pa_cons (pv 1) pa_nil)) pa_nil)) (by rfl))
  (pss_cons (ps_while PassesOwn.never (pt_cmpR op_ne (pv 1) pe_int (nomark _))
  (pss_one (ps_par (i := 0) (j := 1) (by rfl) sc__law_gcd.nd rfl rfl (by decide) rfl rfl (pa_cons (pv 1) (pa_cons (pe_op op_modN (pv 0) (pv 1)) pa_nil)) (by rfl))))
  (pss_one (ps_ret (pv 0))))), ?_⟩
  dsimp only [tSeq, tPar, tCons, tNil]
  refine ev_abs (Evl.ev_var rfl) H (Ex.refl H) _ fun H1 e1 => ?_
  refine ev_abs (Evl.ev_var rfl) H1 (Ex.refl H1) _ fun H2 e2 => ?_
  refine ⟨_, _, rfl, ?_⟩
  try dsimp only [tNext, tSeq]
  refine Evl.s_while (fun m σ' H' => ∃ x y : Nat, σ' = [some (.int (x : Int)), some (.int (y : Int))] ∧ y = m ∧ Ex H H' ∧ Nat.gcd x y = Nat.gcd i.natAbs j.natAbs) j.natAbs ⟨i.natAbs, j.natAbs, rfl, rfl, e1.trans e2, rfl⟩ fun m σ' H' hW => ?_
  obtain ⟨x, y, rfl, rfl, E3, hg⟩ := hW
  refine ⟨!decide (V.int (y : Int) = V.int 0), Evl.et_test (Evl.ev_op (Evl.ev_var rfl) Evl.ev_c (Evl.rv_ne rfl)), fun hb H4 e4 => ?_, fun hb H4 e4 => ?_⟩
  · have hy : y ≠ 0 := fun z => by subst z; simp at hb
    refine ⟨fun σ2 H2 => ∃ x' y' : Nat, σ2 = [some (.int (x' : Int)), some (.int (y' : Int))] ∧ y' < y ∧ Ex H H2 ∧ Nat.gcd x' y' = Nat.gcd i.natAbs j.natAbs, fun σ2 H2 hN => ?_, ?_⟩
    · obtain ⟨x', y', e, hl', E5, hg'⟩ := hN
      exact ⟨y', hl', x', y', e, rfl, E5, hg'⟩
    · dsimp only [tPar, tCons, tNil]
      refine Evl.ev_var (v := .int (y : Int)) rfl H4 (Ex.refl H4) _ fun H5 e5 => ?_
      refine ev_IC (C := fun i j => j ≠ 0) (g := fun i j => .int (i.fmod j)) (Evl.ev_var rfl) (Evl.ev_var rfl) (by omega) H5 (Ex.refl H5) _ fun H6 e6 => ?_
      refine ⟨_, _, rfl, y, x % y, ?_, Nat.mod_lt _ (Nat.pos_of_ne_zero hy), ((E3.trans e4).trans e5).trans e6, ?_⟩
      · have e : (x : Int).fmod (y : Int) = ((x % y : Nat) : Int) := by
          rw [Int.fmod_eq_emod_of_nonneg _ (by omega)]
          omega
        show [some (V.int (y : Int)), some (V.int ((x : Int).fmod (y : Int)))] = _
        rw [e]
      · rw [← hg, Nat.gcd_comm x y, Nat.gcd_rec y x, Nat.gcd_comm]
  · have hy : y = 0 := by
      have : V.int (y : Int) = V.int 0 := by simpa using hb
      have := V.int.inj this
      omega
    subst hy
    try dsimp only [tNext, tSeq]
    rw [Nat.gcd_zero_right] at hg
    refine Evl.s_ret (v := .int (x : Int)) (Evl.ev_var rfl) fun H5 e5 => ?_
    refine q _ _ ((E3.trans e4).trans e5) ?_
    show Dp K H5 (.int (x : Int)) (.int ((Nat.gcd i.natAbs j.natAbs : Nat) : Int))
    rw [← hg]
    exact .int _

abbrev s__law_is_int : Stmt := topS 31
theorem sc__law_is_int : FnScope ["value"] ["value"] (defScope s__law_is_int) := ⟨rfl, rfl, rfl, by decide +kernel, rfl, by decide +kernel, by decide +kernel⟩
theorem kit_int (d : PyData) : kitB (tyName d) "int" = some (decide (tyName d = "int") || decide (tyName d = "bool")) := kits_int _ (ty_mem d)
theorem kit_bool (d : PyData) : kitB (tyName d) "bool" = some (decide (tyName d = "bool")) := kits_bool _ (ty_mem d)
theorem kit_tuple (d : PyData) : kitB (tyName d) "tuple" = some (decide (tyName d = "tuple")) := kits_tuple _ (ty_mem d)
theorem kit_str (d : PyData) : kitB (tyName d) "str" = some (decide (tyName d = "str")) := kits_str _ (ty_mem d)
theorem has_law_is_int (T : Txt K mg) (D : DefAt K mg "_law_is_int" s__law_is_int ["value"]) : Has P w K mg base 1 "_law_is_int" ["value"] (pInt K) := by
  refine mk D sc__law_is_int (fun vs H Q E h => spB_len h) (fun f cdv A outer s H vs Q E hr h => ?_)
  obtain ⟨ds, hd, hl, _, q⟩ := h
  obtain ⟨v, d, rfl, rfl, hv⟩ := args1 hd hl
  refine ⟨_, (pss_one (ps_ret (pe_and (pe_callB call_isi (by rfl) T.isinstance (by decide +kernel) (pa_cons (pv 0) (pa_cons (pe_bltn (v := .ty "int") (u := .type "int") (by rfl) T.int (by decide +kernel) rfl) pa_nil))) (pe_one (pe_not (pe_callB call_isi (by rfl) T.isinstance (by decide +kernel) (pa_cons (pv 0) (pa_cons (pe_bltn (v := .ty "bool") (u := .type "bool") (by rfl) T.bool (by decide +kernel) rfl) pa_nil)))))))), ?_⟩
  refine Evl.s_ret (v := .bl (isIntD d)) ?_ q
  refine Evl.ev_is (Evl.ev_andV (ev_isi (evd_var rfl hv) Evl.ev_c (kit_int d)) fun _ => Evl.ev_notV (ev_isi (evd_var rfl hv) Evl.ev_c (kit_bool d))) ?_
  cases d <;> rfl

abbrev s__law_is_pair : Stmt := topS 32
theorem sc__law_is_pair : FnScope ["value"] ["value"] (defScope s__law_is_pair) := ⟨rfl, rfl, rfl, by decide +kernel, rfl, by decide +kernel, by decide +kernel⟩
theorem has_law_is_pair (T : Txt K mg) (D : DefAt K mg "_law_is_pair" s__law_is_pair ["value"]) : Has P w K mg base 1 "_law_is_pair" ["value"] (pPair K) := by
  refine mk D sc__law_is_pair (fun vs H Q E h => spB_len h) (fun f cdv A outer s H vs Q E hr h => ?_)
  obtain ⟨ds, hd, hl, _, q⟩ := h
  obtain ⟨v, d, rfl, rfl, hv⟩ := args1 hd hl
  refine ⟨_, (pss_one (ps_ret (pe_and (pe_callB call_isi (by rfl) T.isinstance (by decide +kernel) (pa_cons (pv 0) (pa_cons (pe_bltn (v := .ty "tuple") (u := .type "tuple") (by rfl) T.tuple (by decide +kernel) rfl) pa_nil))) (pe_one (pe_cmpR op_eq (pe_callB call_len_seq (by rfl) T.len (by decide +kernel) (pa_cons (pv 0) pa_nil)) pe_int (nomark _)))))), ?_⟩
  refine Evl.s_ret (v := .bl (isPairD d)) ?_ q
  cases d with
  | tuple ds =>
    refine Evl.ev_is (Evl.ev_andV (a := true) (b := decide (V.int ds.length = V.int 2)) (Evl.ev_is (ev_isi (evd_var rfl hv) Evl.ev_c (kit_tuple _)) rfl) fun _ => Evl.ev_op (ev_lenT (evd_var rfl hv)) Evl.ev_c (Evl.rv_eq rfl)) ?_
    exact congrArg V.bl (pair_len ds)
  | _ => exact Evl.ev_is (Evl.ev_andV (a := false) (b := false) (Evl.ev_is (ev_isi (evd_var rfl hv) Evl.ev_c (kit_tuple _)) rfl) fun z => nomatch z) rfl

abbrev s__law_is_frac : Stmt := topS 33
theorem sc__law_is_frac : FnScope ["value"] ["value"] (defScope s__law_is_frac) := ⟨rfl, rfl, rfl, by decide +kernel, rfl, by decide +kernel, by decide +kernel⟩
theorem has_law_is_frac (T : Txt K mg) (D : DefAt K mg "_law_is_frac" s__law_is_frac ["value"]) (h_law_is_pair : Has P w K mg base 1 "_law_is_pair" ["value"] (pPair K)) (h_law_is_int : Has P w K mg base 1 "_law_is_int" ["value"] (pInt K))
    (h_law_gcd : Has P w K mg base 1 "_law_gcd" ["a", "b"] (pGcd K)) : Has P w K mg base 2 "_law_is_frac" ["value"] (pFrac K) := by
  refine mk D sc__law_is_frac (fun vs H Q E h => spB_len h) (fun f cdv A outer s H vs Q E hr h => ?_)
  obtain ⟨ds, hd, hl, _, q⟩ := h
  obtain ⟨v, d, rfl, rfl, hv⟩ := args1 hd hl
  refine ⟨_, (pss_cons (ps_if (PW.pt (pw_or (pt_not (pt_val (ph h_law_is_pair (hr.mono (by decide)) (pa_cons (pv 0) pa_nil)))) (pw_or (pt_not (pt_val (ph h_law_is_int (hr.mono (by decide)) (pa_cons (pe_ix ix_tup (pv 0) pe_int (fun _ _ => rfl)) pa_nil)))) (pw_or1 (pt_not (pt_val (ph h_law_is_int (hr.mono (by decide)) (pa_cons (pe_ix ix_tup (pv 0) pe_int (fun _ _ => rfl)) pa_nil))))))))
  (pss_one (ps_ret pe_bl))
  pss_nil)
  (pss_one (ps_ret (pe_and (pe_cmpR op_gt (pe_ix ix_tup (pv 0) pe_int (fun _ _ => rfl)) pe_int (nomark _)) (pe_one (pe_cmpR op_eq (ph h_law_gcd (hr.mono (by decide)) (pa_cons (pe_ix ix_tup (pv 0) pe_int (fun _ _ => rfl)) (pa_cons (pe_ix ix_tup (pv 0) pe_int (fun _ _ => rfl)) pa_nil))) pe_int (nomark _))))))), ?_⟩
  have qb : ∀ b, isFracD d = b → ∀ H', Ex H H' → Q (.bl b) H' := fun b z H' e => by
    have q' : Q (.bl (isFracD d)) H' := q H' e
    rw [z] at q'; exact q'
  cases hp : isPairD d with
  | false =>
    have hn : isFracD d = false := by
      cases hf : isFracD d with
      | false => rfl
      | true =>
        obtain ⟨n, m, rfl, _⟩ := frac_shape hf
        cases hp
    refine Evl.s_if (b := true) (Evl.et_is (Evl.et_or (a := true) (b := true) (Evl.et_not (evt_call (k := 0) (b := false) (ead_cons (evd_var rfl hv) ead_nil) rfl trivial hp)) fun z => nomatch z) rfl) (fun _ H1 e => ?_) (fun z => nomatch z)
    exact Evl.s_ret Evl.ev_c fun H2 e2 => qb _ hn H2 (e.trans e2)
  | true =>
    obtain ⟨a, b, rfl⟩ := pair_shape hp
    refine Evl.s_if (b := !isIntD a || !isIntD b) (Evl.et_is (Evl.et_or (a := false) (Evl.et_not (evt_call (k := 0) (b := true) (ead_cons (evd_var rfl hv) ead_nil) rfl trivial hp)) fun _ =>
      Evl.et_or (Evl.et_not (evt_call (k := 0) (b := isIntD a) (ead_cons (evd_ixT (i := 0) (evd_var rfl hv) Evl.ev_c rfl) ead_nil) rfl trivial rfl)) fun _ =>
        Evl.et_not (evt_call (k := 0) (b := isIntD b) (ead_cons (evd_ixT (i := 1) (evd_var rfl hv) Evl.ev_c rfl) ead_nil) rfl trivial rfl)) (Bool.false_or _)) (fun z H1 e => ?_) (fun z H1 e => ?_)
    · have hn : isFracD (.tuple [a, b]) = false := by
        cases a <;> cases b <;> first | rfl | cases z
      exact Evl.s_ret Evl.ev_c fun H2 e2 => qb _ hn H2 (e.trans e2)
    · obtain ⟨i, j, rfl, rfl⟩ : ∃ i j, a = .int i ∧ b = .int j := by
        cases a <;> cases b <;> first | exact ⟨_, _, rfl, rfl⟩ | cases z
      try dsimp only [tNext, tSeq]
      have v0 : EvD K (tOp (rIxT K) (tVar 0) (tC (.int 0))) (start ["value"] [v]) H1 (.int i) := evd_ixT (i := 0) (evd_var rfl (dp_ex e hv)) Evl.ev_c rfl
      have v1 : EvD K (tOp (rIxT K) (tVar 0) (tC (.int 1))) (start ["value"] [v]) H1 (.int j) := evd_ixT (i := 1) (evd_var rfl (dp_ex e hv)) Evl.ev_c rfl
      refine Evl.s_ret (v := .bl (isFracD (.tuple [.int i, .int j]))) ?_ (fun H2 e2 => qb _ rfl H2 (e.trans e2))
      refine Evl.ev_is (Evl.ev_andV (a := decide (0 < j)) (b := decide (V.int ((Nat.gcd i.natAbs j.natAbs : Nat) : Int) = V.int 1)) (ev_I (g := fun i j => .bl (decide (j < i))) (ev_int v1) Evl.ev_c) fun _ =>
        Evl.ev_op (x := .int ((Nat.gcd i.natAbs j.natAbs : Nat) : Int)) (ev_int (evd_callD (ds := [.int i, .int j]) (ead_cons v0 (ead_cons v1 ead_nil)) rfl ⟨i, j, rfl⟩)) Evl.ev_c (Evl.rv_eq rfl)) ?_
      exact congrArg V.bl (frac_dec i j)
end
end K00
end

section
set_option Elab.async false
set_option linter.all false
set_option maxRecDepth 100000
set_option maxHeartbeats 4000000
/-! the law: letters; comprehensions of tests; by an AI agent -/
namespace K00
open PySem PySem.Spec PyProof.Rows L2 RX
open Evl (Ex Ev EvT EvA EvL EvU RV RC)
section
variable {K : PySem.W.Frag} {σ : L2.St} {H : Hp} {te : TE} {ta : TA} {vs : List Nat}
/-- what a comprehension without a test has made so far -/
def LcW (H1 : Hp) (v : Nat → V) (D : Addr) (i : Nat) (H' : Hp) : Prop := H1 D = none ∧ Ex H1 H' ∧ H' D = some (.lst ((List.range i).map v))
theorem lcw_turn {H1 H' H3 : Hp} {v : Nat → V} {D : Addr} {i : Nat} (hi : i < 50000) (p : LcW H1 v D i H') (e : Ex H' H3) : ∃ acc, H3 D = some (.lst acc) ∧ acc.length < sizeLine ∧ LcW H1 v D (i + 1) (upd H3 D (.lst (acc ++ [v i]))) := by
  obtain ⟨p1, p2, p3⟩ := p
  refine ⟨_, e _ _ p3, ?_, p1, Ex.mut (p2.trans e) p1, ?_⟩
  · rw [List.length_map, List.length_range]
    exact Evl.sz_lt (by omega)
  · rw [upd_same, List.range_succ, List.map_append]
    rfl
theorem el_range {j : Nat} {n : Int} (v : Nat → V) (h : EvA ta σ H [.int n]) (hn : -5 ≤ n ∧ n ≤ 40000) (hw : ∀ x, wipe ((wipe σ vs).set j (some x)) vs = wipe σ vs)
    (he : ∀ (i : Nat) H1, Ex H H1 → (i : Int) < n → Ev te ((wipe σ vs).set j (some (.int (i : Int)))) H1 (v i)) :
    EvL (tLc (iRng1 ta) (gName j) tYes te vs) σ H ((List.range n.toNat).map v) := fun H0 e Q q => h H0 e _ fun H1 e1 => ⟨n, rfl, by omega, by omega, fun D hD =>
  lc_range (lo := 0) (n := n.toNat) (LcW H1 v D) ⟨hD, Ex.new hD, upd_same⟩ (fun i H' hi p => by
    have e0 : (0 : Int) + (i : Int) = (i : Int) := Int.zero_add _
    show wipe ((wipe σ vs).set j (some (.int ((0 : Int) + (i : Int))))) vs = wipe σ vs ∧ (if true = true then te ((wipe σ vs).set j (some (.int ((0 : Int) + (i : Int))))) H' fun y H4 => ∃ acc, H4 D = some (.lst acc) ∧ acc.length < sizeLine ∧ LcW H1 v D (i + 1) (upd H4 D (.lst (acc ++ [y]))) else LcW H1 v D (i + 1) H')
    rw [e0]
    exact ⟨hw _, iteT (he i H' ((e.trans e1).trans p.2.1) (by omega) H' (Ex.refl H') _ fun H4 e4 => lcw_turn (by omega) p e4)⟩) (fun H' p => q D H' (Evl.fresh_back e1 p.1) (e1.trans p.2.1) p.2.2)⟩
/-- over the signs of a text -/
theorem el_signs {j : Nat} {x : Str} {ts : TE} (v : Nat → V) (h : Ev ts σ H (.str x)) (hz : x.cps.size ≤ 40000) (hw : ∀ y, wipe ((wipe σ vs).set j (some y)) vs = wipe σ vs)
    (he : ∀ (i : Nat) (c : Nat) H1, Ex H H1 → x.cps[i]? = some c → Ev te ((wipe σ vs).set j (some (.str ⟨#[c]⟩))) H1 (v i)) :
    EvL (tLc (iStr ts) (gName j) tYes te vs) σ H ((List.range x.cps.size).map v) := fun H0 e Q q => h H0 e _ fun H1 e1 => ⟨x, rfl, fun D hD => by
  refine ⟨fun i m H' => m = x.cps.size - i ∧ i ≤ x.cps.size ∧ LcW H1 v D i H', ⟨x.cps.size, by omega, Nat.zero_le _, hD, Ex.new hD, upd_same⟩, ?_⟩
  rintro i m H' ⟨rfl, hi, p⟩
  by_cases hlt : i < x.cps.size
  · refine .inr ⟨hlt, fun H'' => LcW H1 v D (i + 1) H'', fun H'' p'' => ⟨x.cps.size - (i + 1), by omega, rfl, hlt, p''⟩, fun y H4 hy => ?_⟩
    obtain ⟨rfl, c, hc, rfl⟩ := hy
    exact ⟨hw _, iteT (B := LcW H1 v D (i + 1) H4) (he i c H4 ((e.trans e1).trans p.2.1) hc H4 (Ex.refl H4) _ fun H5 e5 => lcw_turn (by omega) p e5)⟩
  · have ei : i = x.cps.size := by omega
    subst ei
    exact .inl ⟨Nat.le_refl _, q D H' (Evl.fresh_back e1 p.1) (e1.trans p.2.1) p.2.2⟩⟩
theorem ev_all {te : TE} {n : Nat} {f : Nat → Bool} (h : EvL te σ H ((List.range n).map fun i => V.bl (f i))) : Ev (tCB (rAll K) (tCons te tNil)) σ H (.bl ((List.range n).all f)) := fun H1 m Q q =>
  h H1 m _ fun p H2 hp e2 hx => ⟨p, (List.range n).map f, rfl, by rw [List.map_map]; exact .inl (.inl hx), by
    rw [List.all_map]
    exact q H2 e2⟩
theorem ev_addS {ta tb : TE} {x y : Str} (ha : Ev ta σ H (.str x)) (hb : Ev tb σ H (.str y)) (hz : x.length + y.length ≤ 100000) : Ev (tOp (fun x y H Q => ∃ i j, x = .str i ∧ y = .str j ∧ i.length + j.length ≤ sizeLine ∧ Q (.str (i ++ j)) H) ta tb) σ H (.str (x ++ y)) := fun H1 m Q q =>
  ha H1 m _ fun H2 e2 => hb H2 (m.trans e2) _ fun H3 e3 => ⟨x, y, rfl, rfl, Evl.sz_of hz, q H3 (e2.trans e3)⟩
theorem ev_isi_tuple {ta tb : TE} {d : PyData} (ha : EvD K ta σ H d) (hb : Ev tb σ H (.ty "tuple")) : Ev (tCB (rIsi K) (tCons ta (tCons tb tNil))) σ H (.bl (decide (tyName d = "tuple"))) := ev_isi ha hb (kit_tuple d)
end
theorem sign_or (c : Nat) : decide (c ∈ (smallS ++ digS).cps.toList) = (isSmall c || isDig c) := by
  have e : (smallS ++ digS).cps.toList = smallS.cps.toList ++ digS.cps.toList := by decide +kernel
  rw [e]
  unfold isSmall isDig
  by_cases h1 : c ∈ smallS.cps.toList
  · rw [decide_eq_true h1, decide_eq_true (List.mem_append_left _ h1)]; rfl
  · by_cases h2 : c ∈ digS.cps.toList
    · rw [decide_eq_true h2, decide_eq_true (List.mem_append_right _ h2), Bool.or_true]
    · rw [decide_eq_false h1, decide_eq_false h2, decide_eq_false (fun z => (List.mem_append.mp z).elim h1 h2)]; rfl
theorem all_range_signs (x : Str) : ((List.range x.cps.size).all fun i => match x.cps[i]? with | some c => isSmall c || isDig c | none => true) = x.cps.toList.all fun c => isSmall c || isDig c := by
  rw [Bool.eq_iff_iff, List.all_eq_true, List.all_eq_true]
  constructor
  · intro h c hc
    obtain ⟨j, hj⟩ := List.mem_iff_getElem?.mp hc
    have hjl : j < x.cps.toList.length := (List.getElem?_eq_some_iff.mp hj).1
    rw [Array.length_toList] at hjl
    have := h j (List.mem_range.mpr hjl)
    rw [Array.getElem?_toList] at hj
    rw [hj] at this
    exact this
  · intro h i hi
    have hil := List.mem_range.mp hi
    have e : x.cps[i]? = some x.cps[i] := Array.getElem?_eq_getElem hil
    rw [e]
    exact h _ (by rw [← Array.getElem_toList]; exact List.getElem_mem _)
section
variable {P : Program} {w : World} {K : PySem.W.Frag} {mg : Str → Option Value} {base : Heap}
abbrev s__law_is_letter : Stmt := topS 34
theorem sc__law_is_letter : FnScope ["value", "small", "sign"] ["value"] (defScope s__law_is_letter) := ⟨rfl, rfl, rfl, by decide +kernel, rfl, by decide +kernel, by decide +kernel⟩
theorem has_law_is_letter (T : Txt K mg) (D : DefAt K mg "_law_is_letter" s__law_is_letter ["value"]) (h_law_is_pair : Has P w K mg base 1 "_law_is_pair" ["value"] (pPair K)) (h_law_is_int : Has P w K mg base 1 "_law_is_int" ["value"] (pInt K)) :
    Has P w K mg base 2 "_law_is_letter" ["value"] (pLetter K) := by
  refine mk D sc__law_is_letter (fun vs H Q E h => spB_len h) (fun f cdv A outer s H vs Q E hr h => ?_)
  obtain ⟨ds, hd, hl, hsh, q⟩ := h
  obtain ⟨v, d, rfl, rfl, hv⟩ := args1 hd hl
  have hd0 : shortD d := by rw [shorts, shortAll] at hsh; exact hsh.1
  have qb : ∀ b, isLetterD d = b → ∀ H', Ex H H' → Q (.bl b) H' := fun b z H' e => by
    have q' : Q (.bl (isLetterD d)) H' := q H' e
    rw [z] at q'; exact q'
  refine ⟨_, (pss_cons (ps_if (PW.pt (pw_or (pt_not (pt_val (ph h_law_is_pair (hr.mono (by decide)) (pa_cons (pv 0) pa_nil)))) (pw_or (pt_not (pt_val (pe_callB call_isi (by rfl) T.isinstance (by decide +kernel) (pa_cons (pe_ix ix_tup (pv 0) pe_int (fun _ _ => rfl)) (pa_cons (pe_bltn (v := .ty "str") (u := .type "str") (by rfl) T.str (by decide +kernel) rfl) pa_nil))))) (pw_or1 (pt_not (pt_val (ph h_law_is_int (hr.mono (by decide)) (pa_cons (pe_ix ix_tup (pv 0) pe_int (fun _ _ => rfl)) pa_nil))))))))
  (pss_one (ps_ret pe_bl))
  pss_nil)
  (pss_cons (ps_if (PW.pt (pw_or (pt_cmpR op_lt (pe_ix ix_tup (pv 0) pe_int (fun _ _ => rfl)) pe_int (nomark _)) (pw_or1 (pt_not (pt_chain op_le op_le pe_int (pe_callB call_len_str (by rfl) T.len (by decide +kernel) (pa_cons (pe_ix ix_tup (pv 0) pe_int (fun _ _ => rfl)) pa_nil)) pe_int)))))
  (pss_one (ps_ret pe_bl))
  pss_nil)
  (pss_cons (ps_set (i := 1) sc__law_is_letter.nd rfl (Or.inr rfl) pe_str)
  (pss_one (ps_ret (pe_and (pe_cmpR op_in_sign (pe_ix ix_str (pe_ix ix_tup (pv 0) pe_int (fun _ _ => rfl)) pe_int (fun _ _ => rfl)) (pv 1) (by rfl)) (pe_one (pe_callB (cr_all rfl) (by rfl) T.all (by decide +kernel) (pa_cons (pe_lc (own := [("sign", 2)]) (g := gName 2) (tt := tYes) rfl sc__law_is_letter.nd (pi_str (pe_ix ix_tup (pv 0) pe_int (fun _ _ => rfl))) (blkOk_by (own := [("sign", 2)]) (N := ["value", "small", "sign"]) (sc := defScope s__law_is_letter) (by decide +kernel)) (fun _ _ _ _ _ => (pg_name (i := 2) sc__law_is_letter.nd rfl (Or.inl rfl))) (fun _ _ _ _ _ => pts_nil) (fun _ _ _ _ _ => (pe_cmpR op_in_sign (pv 2) (pe_op op_add_str (pv 1) pe_str) (by rfl)))) pa_nil))))))))), ?_⟩
  cases hp : isPairD d with
  | false =>
    have hn : isLetterD d = false := by
      cases hf : isLetterD d with
      | false => rfl
      | true =>
        obtain ⟨n, m, rfl, _⟩ := letter_shape hf
        cases hp
    refine Evl.s_if (b := true) (Evl.et_is (Evl.et_or (a := true) (b := true) (Evl.et_not (evt_call (k := 0) (b := false) (ead_cons (evd_var rfl hv) ead_nil) rfl trivial hp)) fun z => nomatch z) rfl) (fun _ H1 e => ?_) (fun z => nomatch z)
    exact Evl.s_ret Evl.ev_c fun H2 e2 => qb _ hn H2 (e.trans e2)
  | true =>
    obtain ⟨a, b, rfl⟩ := pair_shape hp
    refine Evl.s_if (b := !decide (tyName a = "str") || !isIntD b) (Evl.et_is (Evl.et_or (a := false) (Evl.et_not (evt_call (k := 0) (b := true) (ead_cons (evd_var rfl hv) ead_nil) rfl trivial hp)) fun _ =>
      Evl.et_or (Evl.et_not (Evl.et_B (ev_isi (evd_ixT (i := 0) (evd_var rfl hv) Evl.ev_c rfl) Evl.ev_c (kit_str a)))) fun _ =>
        Evl.et_not (evt_call (k := 0) (b := isIntD b) (ead_cons (evd_ixT (i := 1) (evd_var rfl hv) Evl.ev_c rfl) ead_nil) rfl trivial rfl)) (Bool.false_or _)) (fun z H1 e => ?_) (fun z H1 e => ?_)
    · have hn : isLetterD (.tuple [a, b]) = false := by
        cases hf : isLetterD (.tuple [a, b]) with
        | false => rfl
        | true =>
          obtain ⟨s1, i1, e1, _⟩ := letter_shape hf
          have e3 : a = .str s1 ∧ b = .int i1 := by simpa using e1
          rw [e3.1, e3.2] at z
          cases z
      exact Evl.s_ret Evl.ev_c fun H2 e2 => qb _ hn H2 (e.trans e2)
    · obtain ⟨x, i, rfl, rfl⟩ : ∃ x i, a = .str x ∧ b = .int i := by
        have z1 : decide (tyName a = "str") = true ∧ isIntD b = true := by
          cases h1 : decide (tyName a = "str") <;> cases h2 : isIntD b <;> rw [h1, h2] at z <;> first | exact ⟨rfl, rfl⟩ | cases z
        obtain ⟨x, rfl⟩ := ty_str (of_decide_eq_true z1.1)
        cases b <;> first | exact ⟨_, _, rfl, rfl⟩ | cases z1.2
      have hx : x.length ≤ 1000 := by
        rw [short_tup, shortAll, shortD] at hd0
        exact hd0.2.1
      have hxc : x.cps.toList.length = x.length := by simp [Str.length]
      have hxs : x.cps.size = x.length := by simp [Str.length]
      have v0 : ∀ {σ' : L2.St} {H1 : Hp}, σ'[0]? = some (some v) → Ex H H1 → Ev (tOp (rIxT K) (tVar 0) (tC (.int 0))) σ' H1 (.str x) := fun h0 e => ev_str (evd_ixT (i := 0) (evd_var h0 (dp_ex e hv)) Evl.ev_c rfl)
      have v1 : ∀ {σ' : L2.St} {H1 : Hp}, σ'[0]? = some (some v) → Ex H H1 → Ev (tOp (rIxT K) (tVar 0) (tC (.int 1))) σ' H1 (.int i) := fun h0 e => ev_int (evd_ixT (i := 1) (evd_var h0 (dp_ex e hv)) Evl.ev_c rfl)
      try dsimp only [tNext, tSeq]
      refine Evl.s_if (b := decide (i < 0) || !(decide ((1 : Int) ≤ x.length) && decide ((x.length : Int) ≤ 8))) (Evl.et_or (Evl.et_test (ev_I (g := fun i j => .bl (decide (i < j))) (v1 rfl e) Evl.ev_c)) fun _ =>
        Evl.et_not (Evl.et_test (ev_chainI (f := fun i j => decide (i ≤ j)) (g := fun i j => decide (i ≤ j)) Evl.ev_c (ev_lenS (v0 rfl e) (by omega)) Evl.ev_c))) (fun z H2 e2 => ?_) (fun z H2 e2 => ?_)
      · have hn : isLetterD (.tuple [.str x, .int i]) = false := by
          cases hf : isLetterD (.tuple [.str x, .int i]) with
          | false => rfl
          | true =>
            obtain ⟨s1, i1, e1, h1, h2⟩ := letter_shape hf
            have e3 : x = s1 ∧ i = i1 := by simpa using e1
            rw [← e3.1] at h1
            rw [← e3.2] at h2
            rw [decide_eq_false (by omega : ¬ i < 0), Bool.false_or] at z
            cases hc : x.cps.toList with
            | nil => rw [hc] at h1; cases h1
            | cons c r =>
              rw [hc, isNameL_cons, Bool.and_eq_true, Bool.and_eq_true] at h1
              have h8 := of_decide_eq_true h1.1.1
              rw [hc] at hxc
              rw [List.length_cons] at hxc h8
              rw [decide_eq_true (by omega : (1 : Int) ≤ x.length), decide_eq_true (by omega : (x.length : Int) ≤ 8)] at z
              cases z
        exact Evl.s_ret Evl.ev_c fun H3 e3 => qb _ hn H3 ((e.trans e2).trans e3)
      · have z1 : 0 ≤ i ∧ (1 : Int) ≤ x.length ∧ (x.length : Int) ≤ 8 := by
          simp only [Bool.or_eq_false_iff, decide_eq_false_iff_not, Bool.not_eq_false', Bool.and_eq_true, decide_eq_true_eq] at z
          exact ⟨by omega, z.2.1, z.2.2⟩
        obtain ⟨c, r, hc⟩ : ∃ c r, x.cps.toList = c :: r := by
          cases hc : x.cps.toList with
          | nil => rw [hc] at hxc; simp at hxc; omega
          | cons c r => exact ⟨c, r, rfl⟩
        have E2 : Ex H H2 := e.trans e2
        try dsimp only [tNext, tSeq]
        refine Evl.s_asg (v := .str smallS) Evl.ev_c fun H3 e3 => ?_
        try dsimp only [tNext, tSeq]
        have E3 : Ex H H3 := E2.trans e3
        have hc0 : x.cps[0]? = some c := by rw [← Array.getElem?_toList, hc]; rfl
        refine Evl.s_ret (v := .bl (isSmall c && x.cps.toList.all fun c => isSmall c || isDig c)) (Evl.ev_andV (ev_inS (ev_ixS (v0 rfl E3) (Evl.ev_c (v := .int ((0 : Nat) : Int))) (by omega) (by rw [hc]; rfl)) (Evl.ev_var rfl)) fun _ => ?_) (fun H4 e4 => qb _ ?_ H4 (E3.trans e4))
        · rw [← all_range_signs]
          refine ev_all (el_signs (fun i => V.bl (match x.cps[i]? with | some c => isSmall c || isDig c | none => true)) (v0 rfl E3) (by omega) (fun y => rfl) (fun k cc H4 e4 hcc => ?_))
          refine Evl.ev_is (ev_inS (Evl.ev_var rfl) (ev_addS (Evl.ev_var rfl) Evl.ev_c (by decide))) (congrArg V.bl ?_)
          rw [hcc]
          exact sign_or cc
        · show (isNameL x.cps.toList && decide (0 ≤ i)) = _
          rw [hc, isNameL_cons, decide_eq_true z1.1, Bool.and_true]
          rw [hc] at hxc
          rw [decide_eq_true (by rw [List.length_cons] at hxc ⊢; omega), Bool.true_and]
end
end K00
end

section
set_option Elab.async false
set_option linter.all false
set_option maxRecDepth 100000
set_option maxHeartbeats 4000000
/-! the law: monomials, polynomials; by an AI agent -/
namespace K00
open PySem PySem.Spec PyProof.Rows L2 RX
open Evl (Ex Ev EvT EvA EvL EvU RV RC)
theorem ix_tupK {X : Cx} (K : PySem.W.Frag) (h : X.K = K) : IxR X (rIxT K) := h ▸ ix_tup
theorem ix_listK {X : Cx} (K : PySem.W.Frag) (h : X.K = K) : IxR X (rIxL K) := h ▸ ix_list
theorem op_ltDK {X : Cx} (K : PySem.W.Frag) (h : X.K = K) (hu : X.A.units + 45 < cLine) : OpR X (compareOp .Lt) (rLtD K) := h ▸ op_ltD hu
section
variable {P : Program} {w : World} {K : PySem.W.Frag} {mg : Str → Option Value} {base : Heap}
/-- all([value[k][0] < value[k + 1][0] for k in range(len(value) - 1)]), the parts right -/
theorem ev_asc {σ : L2.St} {H : Hp} {v : V} {ds : List PyData} {n j : Nat} {ok : PyData → Bool} (hlen : σ.length = n) (h0 : 0 < j) (hj : j < n) (hv0 : σ[0]? = some (some v)) (hv : Dp K H v (.tuple ds)) (hz : ds.length ≤ 1000) (hok : ds.all ok = true)
    (hp : ∀ d, ok d = true → ∃ a b, d = .tuple [a, b]) (al : ∀ a b c d, ok (.tuple [a, b]) = true → ok (.tuple [c, d]) = true → PySem.W.alike a c = true ∧ a ≠ .none ∧ a.depth ≤ 40) :
    Ev (tCB (rAll K) (tCons (tLc (iRng1 (tCons (tOp (rI0 fun i j => .int (i - j)) (tCB (fun xs H Q => ∃ p ys, xs = [.ref p] ∧ (SqL K H p ys ∨ SqT K H p ys) ∧ Q (.int ys.length) H) (tCons (tVar 0) tNil)) (tC (.int 1))) tNil)) (gName j) tYes
      (tOp (rLtD K) (tOp (rIxT K) (tOp (rIxT K) (tVar 0) (tVar j)) (tC (.int 0))) (tOp (rIxT K) (tOp (rIxT K) (tVar 0) (tOp (rI0 fun i j => .int (i + j)) (tVar j) (tC (.int 1)))) (tC (.int 0)))) [j]) tNil)) σ H (.bl (ascD (ds.map firstD))) := by
  have wv : ∀ y : V, ((wipe σ [j]).set j (some y))[0]? = some (some v) := fun y => by
    show ((σ.set j none).set j (some y))[0]? = _
    rw [List.getElem?_set_ne (by omega), List.getElem?_set_ne (by omega)]
    exact hv0
  have wj : ∀ y : V, ((wipe σ [j]).set j (some y))[j]? = some (some y) := fun y => by
    show ((σ.set j none).set j (some y))[j]? = _
    rw [List.getElem?_set_self (by rw [List.length_set]; omega)]
  have hn : (((ds.length : Nat) : Int) - 1).toNat = ds.length - 1 := by omega
  have main := ev_all (K := K) (n := (((ds.length : Nat) : Int) - 1).toNat) (f := fun k => PySem.W.dataLt ((ds.map firstD).getD k .none) ((ds.map firstD).getD (k + 1) .none))
    (el_range (σ := σ) (H := H) (vs := [j]) (j := j) (n := ((ds.length : Nat) : Int) - 1) (fun i => V.bl (PySem.W.dataLt ((ds.map firstD).getD i .none) ((ds.map firstD).getD (i + 1) .none)))
      (Evl.ea_cons (ev_I (g := fun i j => .int (i - j)) (ev_lenT (evd_var hv0 hv)) (Evl.ev_c (v := .int 1))) Evl.ea_nil) ⟨by omega, by omega⟩ (fun x => by
        show ((σ.set j none).set j (some x)).set j none = σ.set j none
        rw [List.set_set, List.set_set]) fun i H1 e hi => by
      have hi1 : i < ds.length := by omega
      have hi2 : i + 1 < ds.length := by omega
      have o1 : ok ds[i] = true := by
        rw [List.all_eq_true] at hok
        exact hok _ (List.getElem_mem _)
      have o2 : ok ds[i + 1] = true := by
        rw [List.all_eq_true] at hok
        exact hok _ (List.getElem_mem _)
      obtain ⟨a, b, e1⟩ := hp _ o1
      obtain ⟨c, d, e2⟩ := hp _ o2
      have g1 : ds[i]? = some (.tuple [a, b]) := by rw [List.getElem?_eq_getElem hi1, e1]
      have g2 : ds[i + 1]? = some (.tuple [c, d]) := by rw [List.getElem?_eq_getElem hi2, e2]
      rw [e1] at o1
      rw [e2] at o2
      obtain ⟨l1, l2, l3⟩ := al a b c d o1 o2
      rw [getD_map_first g1, getD_map_first g2]
      have base0 : EvD K (tVar 0) ((wipe σ [j]).set j (some (.int (i : Int)))) H1 (.tuple ds) := evd_var (wv _) (dp_ex e hv)
      have plus : Ev (tOp (rI0 fun i j => .int (i + j)) (tVar j) (tC (.int 1))) ((wipe σ [j]).set j (some (.int (i : Int)))) H1 (.int ((i + 1 : Nat) : Int)) :=
        Evl.ev_is (ev_I (g := fun i j => .int (i + j)) (Evl.ev_var (wj _)) (Evl.ev_c (v := .int 1))) (congrArg V.int (by omega))
      exact ev_ltD (evd_ixT (i := 0) (evd_ixT base0 (Evl.ev_var (wj _)) g1) (Evl.ev_c (v := .int ((0 : Nat) : Int))) rfl) (evd_ixT (i := 0) (evd_ixT base0 plus g2) (Evl.ev_c (v := .int ((0 : Nat) : Int))) rfl) l1 l2 l3)
  refine Evl.ev_is main (congrArg V.bl ?_)
  unfold ascD
  rw [hn, List.length_map]

abbrev s__law_is_mono : Stmt := topS 35
theorem sc__law_is_mono : FnScope ["value", "part", "k"] ["value"] (defScope s__law_is_mono) := ⟨rfl, rfl, rfl, by decide +kernel, rfl, by decide +kernel, by decide +kernel⟩
theorem has_law_is_mono (T : Txt K mg) (D : DefAt K mg "_law_is_mono" s__law_is_mono ["value"]) (h_law_is_pair : Has P w K mg base 1 "_law_is_pair" ["value"] (pPair K)) (h_law_is_int : Has P w K mg base 1 "_law_is_int" ["value"] (pInt K))
    (h_law_is_letter : Has P w K mg base 2 "_law_is_letter" ["value"] (pLetter K)) : Has P w K mg base 3 "_law_is_mono" ["value"] (pMono K) := by
  refine mk D sc__law_is_mono (fun vs H Q E h => spB_len h) (fun f cdv A outer s H vs Q E hr h => ?_)
  obtain ⟨ds, hd, hl, hsh, q⟩ := h
  obtain ⟨v, d, rfl, rfl, hv⟩ := args1 hd hl
  have hd0 : shortD d := by rw [shorts, shortAll] at hsh; exact hsh.1
  have qb : ∀ b, isMonoD d = b → ∀ H', Ex H H' → Q (.bl b) H' := fun b z H' e => by
    have q' : Q (.bl (isMonoD d)) H' := q H' e
    rw [z] at q'; exact q'
  refine ⟨_, (pss_cons (ps_if (pt_not (pt_val (pe_callB call_isi (by rfl) T.isinstance (by decide +kernel) (pa_cons (pv 0) (pa_cons (pe_bltn (v := .ty "tuple") (u := .type "tuple") (by rfl) T.tuple (by decide +kernel) rfl) pa_nil)))))
  (pss_one (ps_ret pe_bl))
  pss_nil)
  (pss_cons (ps_for PassesOwn.never rfl (pi_tup (pv 0)) (pg_name (i := 1) sc__law_is_mono.nd rfl (Or.inl rfl))
  (pss_one (ps_if (PW.pt (pw_or (pt_not (PW.pt (pw_and (pt_val (ph h_law_is_pair (hr.mono (by decide)) (pa_cons (pv 1) pa_nil))) (pw_and (pt_val (ph h_law_is_letter (hr.mono (by decide)) (pa_cons (pe_ix ix_tup (pv 1) pe_int (fun _ _ => rfl)) pa_nil))) (pw_and1 (pt_val (ph h_law_is_int (hr.mono (by decide)) (pa_cons (pe_ix ix_tup (pv 1) pe_int (fun _ _ => rfl)) pa_nil)))))))) (pw_or1 (pt_cmpR op_lt (pe_ix ix_tup (pv 1) pe_int (fun _ _ => rfl)) pe_int (nomark _)))))
  (pss_one (ps_ret pe_bl))
  pss_nil)))
  (pss_one (ps_ret (pe_callB (cr_all rfl) (by rfl) T.all (by decide +kernel) (pa_cons (pe_lc (own := [("k", 2)]) (g := gName 2) (tt := tYes) rfl sc__law_is_mono.nd (pi_range1 (by rfl) T.range (pa_cons (pe_op op_sub (pe_callB call_len_seq (by rfl) T.len (by decide +kernel) (pa_cons (pv 0) pa_nil)) pe_int) pa_nil)) (blkOk_by (own := [("k", 2)]) (N := ["value", "part", "k"]) (sc := defScope s__law_is_mono) (by decide +kernel)) (fun _ _ _ _ _ => (pg_name (i := 2) sc__law_is_mono.nd rfl (Or.inl rfl))) (fun _ _ _ _ _ => pts_nil) (fun _ _ _ _ _ => (pe_cmpR (op_ltDK K rfl (u45 hr)) (pe_ix (ix_tupK K rfl) (pe_ix (ix_tupK K rfl) (pv 0) (pv 2) (fun _ _ => rfl)) pe_int (fun _ _ => rfl)) (pe_ix (ix_tupK K rfl) (pe_ix (ix_tupK K rfl) (pv 0) (pe_op op_add (pv 2) pe_int) (fun _ _ => rfl)) pe_int (fun _ _ => rfl)) (nomark _)))) pa_nil)))))), ?_⟩
  by_cases hty : ∃ x, d = .tuple x
  case neg =>
    have hn : isMonoD d = false := by
      cases d <;> first | rfl | exact absurd ⟨_, rfl⟩ hty
    refine Evl.s_if (b := true) (Evl.et_is (Evl.et_not (Evl.et_B (ev_isi_tuple (evd_var rfl hv) Evl.ev_c))) (by rw [decide_eq_false (fun z => hty (ty_tuple z))]; rfl)) (fun _ H1 e => ?_) (fun z => nomatch z)
    exact Evl.s_ret Evl.ev_c fun H2 e2 => qb _ hn H2 (e.trans e2)
  obtain ⟨ds, rfl⟩ := hty
  obtain ⟨a, xs, rfl, hs, hall⟩ := dp_tup hv
  rw [short_tup] at hd0
  refine Evl.s_if (b := false) (Evl.et_is (Evl.et_not (Evl.et_B (ev_isi_tuple (evd_var rfl hv) Evl.ev_c))) rfl) (fun z => nomatch z) (fun _ H1 e1 => ?_)
  try dsimp only [tNext, tSeq]
  refine Evl.s_forT (a := a) (xs := xs) (Evl.ev_var rfl) (st_mono e1 hs) (fun i σ' H' => ∃ y z, σ' = [some (.ref a), y, z] ∧ Ex H H' ∧ ∀ j, j < i → ∀ d, ds[j]? = some d → partOkD d = true)
    (fun H3 e3 => ⟨none, none, rfl, e1.trans e3, fun j h => absurd h (Nat.not_lt_zero _)⟩) (fun i σ' H' _ hP => ?_) (fun i x σ' H' hx hP => ?_) (fun σ' H' hP => ?_)
  · obtain ⟨y, z, rfl, E3, _⟩ := hP
    exact st_mono E3 hs
  · obtain ⟨y, z, rfl, E3, W⟩ := hP
    obtain ⟨di, hdi, hxi⟩ := dpAll_getV (dpAll_ex E3 hall) hx
    have shi : shortD di := short_get hd0.2 hdi
    dsimp only [gName, List.set, tSeq]
    cases hpr : isPairD di with
    | false =>
      have hk : partOkD di = false := by
        cases hf : partOkD di with
        | false => rfl
        | true =>
          obtain ⟨_, _, _, rfl, _⟩ := part_shape hf
          cases hpr
      refine Evl.s_if (b := true) (Evl.et_is (Evl.et_or (a := true) (b := true) (Evl.et_not (Evl.et_is (Evl.et_and (a := false) (b := false) (evt_call (k := 0) (b := false) (ead_cons (evd_var rfl hxi) ead_nil) rfl trivial hpr) fun z => nomatch z) rfl)) fun z => nomatch z) rfl) (fun _ H4 e4 => ?_) (fun z => nomatch z)
      have hn : isMonoD (.tuple ds) = false := by
        show (ds.all partOkD && _) = false
        rw [all_false hdi hk, Bool.false_and]
      exact Evl.s_ret Evl.ev_c fun H5 e5 => qb false hn H5 ((E3.trans e4).trans e5)
    | true =>
      obtain ⟨p, c, rfl⟩ := pair_shape hpr
      have hp1 : shorts [p] := by
        rw [short_tup, shortAll] at shi
        exact ⟨shi.2.1, trivial⟩
      have ep : EvD K (tOp (rIxT K) (tVar 1) (tC (.int 0))) [some (.ref a), some x, z] H' p := evd_ixT (i := 0) (evd_var rfl hxi) Evl.ev_c rfl
      have ec : EvD K (tOp (rIxT K) (tVar 1) (tC (.int 1))) [some (.ref a), some x, z] H' c := evd_ixT (i := 1) (evd_var rfl hxi) Evl.ev_c rfl
      refine Evl.s_if (b := !(partOkD (.tuple [p, c]))) (Evl.et_is (Evl.et_or (a := !(isLetterD p && isIntD c)) (b := !isCountD 1 c) (Evl.et_not (Evl.et_is (Evl.et_and (a := true) (evt_call (k := 0) (b := true) (ead_cons (evd_var rfl hxi) ead_nil) rfl trivial hpr) fun _ =>
        Evl.et_and (evt_call (k := 0) (b := isLetterD p) (ead_cons ep ead_nil) rfl hp1 rfl) fun _ => evt_call (k := 0) (b := isIntD c) (ead_cons ec ead_nil) rfl trivial rfl) (Bool.true_and _))) fun hcc => ?_) ?_) (fun z H4 e4 => ?_) (fun z H4 e4 => ?_)
      · have hc2 : isIntD c = true := by
          have : (isLetterD p && isIntD c) = true := by simpa using hcc
          rw [Bool.and_eq_true] at this
          exact this.2
        obtain ⟨i', rfl⟩ : ∃ i', c = .int i' := by
          cases c <;> first | exact ⟨_, rfl⟩ | cases hc2
        refine Evl.et_test (Evl.ev_is (ev_I (g := fun i j => .bl (decide (i < j))) (ev_int ec) Evl.ev_c) (congrArg V.bl ?_))
        show decide (i' < 1) = !decide (1 ≤ i')
        by_cases h1 : i' < 1
        · rw [decide_eq_true h1, decide_eq_false (by omega)]; rfl
        · rw [decide_eq_false h1, decide_eq_true (by omega)]; rfl
      · show (!(isLetterD p && isIntD c) || !isCountD 1 c) = !(isLetterD p && isCountD 1 c)
        cases h1 : isLetterD p
        · rfl
        · cases h2 : isCountD 1 c
          · cases isIntD c <;> rfl
          · obtain ⟨i', rfl, _⟩ := count_shape h2
            rfl
      · have hk : partOkD (.tuple [p, c]) = false := by simpa using z
        have hn : isMonoD (.tuple ds) = false := by
          show (ds.all partOkD && _) = false
          rw [all_false hdi hk, Bool.false_and]
        exact Evl.s_ret Evl.ev_c fun H5 e5 => qb false hn H5 ((E3.trans e4).trans e5)
      · have hk : partOkD (.tuple [p, c]) = true := by simpa using z
        refine ⟨some x, _, rfl, E3.trans e4, fun j hj d' hd' => ?_⟩
        rcases Nat.lt_succ_iff_lt_or_eq.mp hj with h1 | h1
        · exact W j h1 d' hd'
        · subst h1
          rw [hdi] at hd'
          cases hd'
          exact hk
  · obtain ⟨y, z, rfl, E3, W⟩ := hP
    rw [dpAll_len hall] at W
    have hall2 : ds.all partOkD = true := by
      rw [List.all_eq_true]
      intro d' hd'
      obtain ⟨j, hj⟩ := List.mem_iff_getElem?.mp hd'
      exact W j (List.getElem?_eq_some_iff.mp hj).1 d' hj
    try dsimp only [tNext, tSeq]
    refine Evl.s_ret (v := .bl (ascD (ds.map firstD))) (ev_asc (n := 3) (j := 2) (ok := partOkD) rfl (by omega) (by omega) rfl (dp_ex E3 hv) hd0.1 hall2 (fun d hd => ?_) (fun a b c d h1 h2 => ?_)) (fun H4 e4 => qb _ ?_ H4 (E3.trans e4))
    · obtain ⟨s1, i1, e1, rfl, _⟩ := part_shape hd
      exact ⟨_, _, rfl⟩
    · have l1 : isLetterD a = true := by
        have : (isLetterD a && isCountD 1 b) = true := h1
        rw [Bool.and_eq_true] at this
        exact this.1
      have l2 : isLetterD c = true := by
        have : (isLetterD c && isCountD 1 d) = true := h2
        rw [Bool.and_eq_true] at this
        exact this.1
      exact ⟨alike_letters l1 l2, not_none_letter l1, by rw [depth_letter l1]; omega⟩
    · show (ds.all partOkD && _) = _
      rw [hall2, Bool.true_and]
end
end K00
end

section
set_option Elab.async false
set_option linter.all false
set_option maxRecDepth 100000
set_option maxHeartbeats 4000000
/-! the law: polynomials; by an AI agent -/
namespace K00
open PySem PySem.Spec PyProof.Rows L2 RX
open Evl (Ex Ev EvT EvA EvL EvU RV RC)
section
variable {P : Program} {w : World} {K : PySem.W.Frag} {mg : Str → Option Value} {base : Heap}
abbrev s__law_is_poly : Stmt := topS 36
theorem sc__law_is_poly : FnScope ["value", "part", "good", "k"] ["value"] (defScope s__law_is_poly) := ⟨rfl, rfl, rfl, by decide +kernel, rfl, by decide +kernel, by decide +kernel⟩
theorem has_law_is_poly (T : Txt K mg) (D : DefAt K mg "_law_is_poly" s__law_is_poly ["value"]) (h_law_is_pair : Has P w K mg base 1 "_law_is_pair" ["value"] (pPair K)) (h_law_is_mono : Has P w K mg base 3 "_law_is_mono" ["value"] (pMono K))
    (h_law_is_frac : Has P w K mg base 2 "_law_is_frac" ["value"] (pFrac K)) : Has P w K mg base 4 "_law_is_poly" ["value"] (pPoly K) := by
  refine mk D sc__law_is_poly (fun vs H Q E h => spB_len h) (fun f cdv A outer s H vs Q E hr h => ?_)
  obtain ⟨ds, hd, hl, hsh, q⟩ := h
  obtain ⟨v, d, rfl, rfl, hv⟩ := args1 hd hl
  have hd0 : shortD d := by rw [shorts, shortAll] at hsh; exact hsh.1
  have qb : ∀ b, isPolyD d = b → ∀ H', Ex H H' → Q (.bl b) H' := fun b z H' e => by
    have q' : Q (.bl (isPolyD d)) H' := q H' e
    rw [z] at q'; exact q'
  refine ⟨_, (pss_cons (ps_if (pt_not (pt_val (pe_callB call_isi (by rfl) T.isinstance (by decide +kernel) (pa_cons (pv 0) (pa_cons (pe_bltn (v := .ty "tuple") (u := .type "tuple") (by rfl) T.tuple (by decide +kernel) rfl) pa_nil)))))
  (pss_one (ps_ret pe_bl))
  pss_nil)
  (pss_cons (ps_for PassesOwn.never rfl (pi_tup (pv 0)) (pg_name (i := 1) sc__law_is_poly.nd rfl (Or.inl rfl))
  (pss_cons (ps_set (i := 2) sc__law_is_poly.nd rfl (Or.inl rfl) (pe_and (ph h_law_is_pair (hr.mono (by decide)) (pa_cons (pv 1) pa_nil)) (pe_and (ph h_law_is_mono (hr.mono (by decide)) (pa_cons (pe_ix ix_tup (pv 1) pe_int (fun _ _ => rfl)) pa_nil)) (pe_one (ph h_law_is_frac (hr.mono (by decide)) (pa_cons (pe_ix ix_tup (pv 1) pe_int (fun _ _ => rfl)) pa_nil))))))
  (pss_one (ps_if (PW.pt (pw_or (pt_not (pt_val (pv 2))) (pw_or1 (pt_cmpR op_eq (pe_ix ix_tup (pe_ix ix_tup (pv 1) pe_int (fun _ _ => rfl)) pe_int (fun _ _ => rfl)) pe_int (nomark _)))))
  (pss_one (ps_ret pe_bl))
  pss_nil))))
  (pss_one (ps_ret (pe_callB (cr_all rfl) (by rfl) T.all (by decide +kernel) (pa_cons (pe_lc (own := [("k", 3)]) (g := gName 3) (tt := tYes) rfl sc__law_is_poly.nd (pi_range1 (by rfl) T.range (pa_cons (pe_op op_sub (pe_callB call_len_seq (by rfl) T.len (by decide +kernel) (pa_cons (pv 0) pa_nil)) pe_int) pa_nil)) (blkOk_by (own := [("k", 3)]) (N := ["value", "part", "good", "k"]) (sc := defScope s__law_is_poly) (by decide +kernel)) (fun _ _ _ _ _ => (pg_name (i := 3) sc__law_is_poly.nd rfl (Or.inl rfl))) (fun _ _ _ _ _ => pts_nil) (fun _ _ _ _ _ => (pe_cmpR (op_ltDK K rfl (u45 hr)) (pe_ix (ix_tupK K rfl) (pe_ix (ix_tupK K rfl) (pv 0) (pv 3) (fun _ _ => rfl)) pe_int (fun _ _ => rfl)) (pe_ix (ix_tupK K rfl) (pe_ix (ix_tupK K rfl) (pv 0) (pe_op op_add (pv 3) pe_int) (fun _ _ => rfl)) pe_int (fun _ _ => rfl)) (nomark _)))) pa_nil)))))), ?_⟩
  by_cases hty : ∃ x, d = .tuple x
  case neg =>
    have hn : isPolyD d = false := by
      cases d <;> first | rfl | exact absurd ⟨_, rfl⟩ hty
    refine Evl.s_if (b := true) (Evl.et_is (Evl.et_not (Evl.et_B (ev_isi_tuple (evd_var rfl hv) Evl.ev_c))) (by rw [decide_eq_false (fun z => hty (ty_tuple z))]; rfl)) (fun _ H1 e => ?_) (fun z => nomatch z)
    exact Evl.s_ret Evl.ev_c fun H2 e2 => qb _ hn H2 (e.trans e2)
  obtain ⟨ds, rfl⟩ := hty
  obtain ⟨a, xs, rfl, hs, hall⟩ := dp_tup hv
  rw [short_tup] at hd0
  refine Evl.s_if (b := false) (Evl.et_is (Evl.et_not (Evl.et_B (ev_isi_tuple (evd_var rfl hv) Evl.ev_c))) rfl) (fun z => nomatch z) (fun _ H1 e1 => ?_)
  try dsimp only [tNext, tSeq]
  refine Evl.s_forT (a := a) (xs := xs) (Evl.ev_var rfl) (st_mono e1 hs) (fun i σ' H' => ∃ y g z, σ' = [some (.ref a), y, g, z] ∧ Ex H H' ∧ ∀ j, j < i → ∀ d, ds[j]? = some d → termOkD d = true)
    (fun H3 e3 => ⟨none, none, none, rfl, e1.trans e3, fun j h => absurd h (Nat.not_lt_zero _)⟩) (fun i σ' H' _ hP => ?_) (fun i x σ' H' hx hP => ?_) (fun σ' H' hP => ?_)
  · obtain ⟨y, g, z, rfl, E3, _⟩ := hP
    exact st_mono E3 hs
  · obtain ⟨y, g, z, rfl, E3, W⟩ := hP
    obtain ⟨di, hdi, hxi⟩ := dpAll_getV (dpAll_ex E3 hall) hx
    have shi : shortD di := short_get hd0.2 hdi
    dsimp only [gName, List.set, tSeq]
    cases hpr : isPairD di with
    | false =>
      have hk : termOkD di = false := by
        cases hf : termOkD di with
        | false => rfl
        | true =>
          obtain ⟨_, _, rfl, _⟩ := term_shape hf
          cases hpr
      refine Evl.s_asg (v := .bl false) (Evl.ev_is (Evl.ev_andV (a := false) (b := false) (ev_call1 (ead_cons (evd_var rfl hxi) ead_nil) rfl trivial hpr) fun z => nomatch z) rfl) fun H4 e4 => ?_
      try dsimp only [tNext, tSeq, List.set]
      refine Evl.s_if (b := true) (Evl.et_is (Evl.et_or (a := true) (b := true) (Evl.et_not (a := false) (Evl.et_B (Evl.ev_var rfl))) fun z => nomatch z) rfl) (fun _ H5 e5 => ?_) (fun z => nomatch z)
      have hn : isPolyD (.tuple ds) = false := by
        show (ds.all termOkD && _) = false
        rw [all_false hdi hk, Bool.false_and]
      exact Evl.s_ret Evl.ev_c fun H6 e6 => qb false hn H6 (((E3.trans e4).trans e5).trans e6)
    | true =>
      obtain ⟨p, c, rfl⟩ := pair_shape hpr
      have hp1 : shorts [p] := by
        rw [short_tup, shortAll] at shi
        exact ⟨shi.2.1, trivial⟩
      have ep : EvD K (tOp (rIxT K) (tVar 1) (tC (.int 0))) [some (.ref a), some x, g, z] H' p := evd_ixT (i := 0) (evd_var rfl hxi) Evl.ev_c rfl
      have ec : EvD K (tOp (rIxT K) (tVar 1) (tC (.int 1))) [some (.ref a), some x, g, z] H' c := evd_ixT (i := 1) (evd_var rfl hxi) Evl.ev_c rfl
      refine Evl.s_asg (v := .bl (isMonoD p && isFracD c)) (Evl.ev_is (Evl.ev_andV (a := true) (ev_call1 (ead_cons (evd_var rfl hxi) ead_nil) rfl trivial hpr) fun _ =>
        Evl.ev_andV (ev_call1 (ead_cons ep ead_nil) rfl hp1 rfl) fun _ => ev_call1 (ead_cons ec ead_nil) rfl trivial rfl) rfl) fun H4 e4 => ?_
      try dsimp only [tNext, tSeq, List.set]
      have ec4 : EvD K (tOp (rIxT K) (tVar 1) (tC (.int 1))) [some (.ref a), some x, some (.bl (isMonoD p && isFracD c)), z] H4 c := evd_ixT (i := 1) (evd_var rfl (dp_ex e4 hxi)) Evl.ev_c rfl
      refine Evl.s_if (b := !(termOkD (.tuple [p, c]))) (Evl.et_is (Evl.et_or (a := !(isMonoD p && isFracD c)) (b := isZeroD c) (Evl.et_not (Evl.et_B (Evl.ev_var rfl))) fun hcc => ?_) ?_) (fun z H5 e5 => ?_) (fun z H5 e5 => ?_)
      · have hc2 : isFracD c = true := by
          have : (isMonoD p && isFracD c) = true := by simpa using hcc
          rw [Bool.and_eq_true] at this
          exact this.2
        obtain ⟨n, m', rfl, _⟩ := frac_shape hc2
        refine Evl.et_test (Evl.ev_is (Evl.ev_op (ev_int (evd_ixT (i := 0) ec4 (Evl.ev_c (v := .int ((0 : Nat) : Int))) rfl)) Evl.ev_c (Evl.rv_eq rfl)) (congrArg V.bl ?_))
        show decide (V.int n = V.int 0) = decide (n = 0)
        by_cases h1 : n = 0
        · subst h1; rfl
        · rw [decide_eq_false h1, decide_eq_false (fun z => h1 (V.int.inj z))]
      · show (!(isMonoD p && isFracD c) || isZeroD c) = !(isMonoD p && isFracD c && !isZeroD c)
        cases isMonoD p <;> cases isFracD c <;> cases isZeroD c <;> rfl
      · have hk : termOkD (.tuple [p, c]) = false := by simpa using z
        have hn : isPolyD (.tuple ds) = false := by
          show (ds.all termOkD && _) = false
          rw [all_false hdi hk, Bool.false_and]
        exact Evl.s_ret Evl.ev_c fun H6 e6 => qb false hn H6 (((E3.trans e4).trans e5).trans e6)
      · have hk : termOkD (.tuple [p, c]) = true := by simpa using z
        refine ⟨some x, _, _, rfl, (E3.trans e4).trans e5, fun j hj d' hd' => ?_⟩
        rcases Nat.lt_succ_iff_lt_or_eq.mp hj with h1 | h1
        · exact W j h1 d' hd'
        · subst h1
          rw [hdi] at hd'
          cases hd'
          exact hk
  · obtain ⟨y, g, z, rfl, E3, W⟩ := hP
    rw [dpAll_len hall] at W
    have hall2 : ds.all termOkD = true := by
      rw [List.all_eq_true]
      intro d' hd'
      obtain ⟨j, hj⟩ := List.mem_iff_getElem?.mp hd'
      exact W j (List.getElem?_eq_some_iff.mp hj).1 d' hj
    try dsimp only [tNext, tSeq]
    refine Evl.s_ret (v := .bl (ascD (ds.map firstD))) (ev_asc (n := 4) (j := 3) (ok := termOkD) rfl (by omega) (by omega) rfl (dp_ex E3 hv) hd0.1 hall2 (fun d hd => ?_) (fun a b c d h1 h2 => ?_)) (fun H4 e4 => qb _ ?_ H4 (E3.trans e4))
    · obtain ⟨p1, c1, rfl, _⟩ := term_shape hd
      exact ⟨_, _, rfl⟩
    · have l1 : isMonoD a = true := by
        have : (isMonoD a && isFracD b && !isZeroD b) = true := h1
        rw [Bool.and_eq_true, Bool.and_eq_true] at this
        exact this.1.1
      have l2 : isMonoD c = true := by
        have : (isMonoD c && isFracD d && !isZeroD d) = true := h2
        rw [Bool.and_eq_true, Bool.and_eq_true] at this
        exact this.1.1
      exact ⟨alike_monos l1 l2, not_none_mono l1, by have := depth_mono l1; omega⟩
    · show (ds.all termOkD && _) = _
      rw [hall2, Bool.true_and]
end
end K00
end

section
set_option Elab.async false
set_option linter.all false
set_option maxRecDepth 100000
set_option maxHeartbeats 4000000
/-! the law: both looks at a value; by an AI agent -/
namespace K00
open PySem PySem.Spec PyProof.Rows L2 RX
open Evl (Ex Ev EvT EvA EvL EvU RV RC)
theorem three_show : ∀ a b c : Bool, (PyData.list [.bool a, .bool b, .bool c]).showable = true ∧ (PyData.list [.bool a, .bool b, .bool c]).shown.length ≤ 1000 := by
  decide +kernel
section
variable {K : PySem.W.Frag} {σ : L2.St} {H : Hp} {ta : TE} {d : PyData}
theorem ev_repr (h : EvD K ta σ H d) (hr : ∀ v H', Dp K H' v d → ∃ a, v = .ref a) (h1 : d.showable = true) (h2 : d.depth ≤ 40) (h3 : d.shown.length ≤ 100000) : Ev (tCB (rReprV K) (tCons ta tNil)) σ H (.str d.shown) := fun H1 m Q q =>
  h H1 m _ fun v H2 e2 hv => by
    obtain ⟨a, rfl⟩ := hr v H2 hv
    exact .inl ⟨a, d, rfl, hv, h1, h2, Evl.sz_of h3, q H2 e2⟩
theorem ref_lst {ds : List PyData} : ∀ v H', Dp K H' v (.list ds) → ∃ a, v = .ref a := fun v H' h => by
  obtain ⟨a, xs, rfl, _⟩ := dp_lst h
  exact ⟨a, rfl⟩
theorem ref_tup {ds : List PyData} : ∀ v H', Dp K H' v (.tuple ds) → ∃ a, v = .ref a := fun v H' h => by
  obtain ⟨a, xs, rfl, _⟩ := dp_tup h
  exact ⟨a, rfl⟩
end
section
variable {P : Program} {w : World} {K : PySem.W.Frag} {mg : Str → Option Value} {base : Heap}
abbrev pTold (K : PySem.W.Frag) : Sp := spB K 1 shorts fun _ => true
abbrev s__law_told_right : Stmt := topS 44
theorem sc__law_told_right : FnScope ["value", "dues"] ["value"] (defScope s__law_told_right) := ⟨rfl, rfl, rfl, by decide +kernel, rfl, by decide +kernel, by decide +kernel⟩
theorem has_law_told_right (T : Txt K mg) (D : DefAt K mg "_law_told_right" s__law_told_right ["value"]) (h_law_is_letter : Has P w K mg base 2 "_law_is_letter" ["value"] (pLetter K)) (h_law_is_mono : Has P w K mg base 3 "_law_is_mono" ["value"] (pMono K))
    (h_law_is_poly : Has P w K mg base 4 "_law_is_poly" ["value"] (pPoly K)) (his_letter : Has P w K mg base 2 "is_letter" ["value"] (pLetter K)) (his_monomial : Has P w K mg base 3 "is_monomial" ["value"] (pMono K))
    (his_polynomial : Has P w K mg base 4 "is_polynomial" ["value"] (pPoly K)) : HasQ P w K mg base 5 "_law_told_right" ["value"] (pTold K) := by
  refine mkq D sc__law_told_right (fun vs H Q E h => spB_len h) (fun f cdv A outer s H vs Q E hq hr h => ?_)
  obtain ⟨ds, hd, hl, hsh, q⟩ := h
  obtain ⟨v, d, rfl, rfl, hv⟩ := args1 hd hl
  refine ⟨_, (pss_cons (ps_set (i := 1) sc__law_told_right.nd rfl (Or.inl rfl) (pe_lst (pa_cons (ph h_law_is_letter (hr.mono (by decide)) (pa_cons (pv 0) pa_nil)) (pa_cons (ph h_law_is_mono (hr.mono (by decide)) (pa_cons (pv 0) pa_nil)) (pa_cons (ph h_law_is_poly (hr.mono (by decide)) (pa_cons (pv 0) pa_nil)) pa_nil)))))
  (pss_one (ps_ret (pe_cmpR op_eq (pe_callB (call_reprV hq (u45 hr)) (by rfl) T.repr (by decide +kernel) (pa_cons (pe_lst (pa_cons (ph his_letter (hr.mono (by decide)) (pa_cons (pv 0) pa_nil)) (pa_cons (ph his_monomial (hr.mono (by decide)) (pa_cons (pv 0) pa_nil)) (pa_cons (ph his_polynomial (hr.mono (by decide)) (pa_cons (pv 0) pa_nil)) pa_nil)))) pa_nil)) (pe_callB (call_reprV hq (u45 hr)) (by rfl) T.repr (by decide +kernel) (pa_cons (pv 1) pa_nil)) (nomark _))))), ?_⟩
  have one : ∀ {σ' : L2.St} {H1 : Hp}, σ'[0]? = some (some v) → Ex H H1 → EvAD K (tCons (tVar 0) tNil) σ' H1 [d] := fun h0 e => ead_cons (evd_var h0 (dp_ex e hv)) ead_nil
  have ob : ∀ {te : TE} {σ' : L2.St} {H1 : Hp} {b : Bool}, Ev te σ' H1 (.bl b) → EvD K te σ' H1 (.bool b) := fun h => evd_of h fun _ => .bl _
  have dues : EvD K (tLst (tCons (tCall (pLetter K) [] E0 (tCons (tVar 0) tNil)) (tCons (tCall (pMono K) [] E0 (tCons (tVar 0) tNil)) (tCons (tCall (pPoly K) [] E0 (tCons (tVar 0) tNil)) tNil)))) (start ["value", "dues"] [v]) H (.list [.bool (isLetterD d), .bool (isMonoD d), .bool (isPolyD d)]) :=
    evd_lst (ead_cons (ob (ev_call1 (one rfl (Ex.refl H)) rfl hsh rfl)) (ead_cons (ob (ev_call1 (one rfl (Ex.refl H)) rfl hsh rfl)) (ead_cons (ob (ev_call1 (one rfl (Ex.refl H)) rfl hsh rfl)) ead_nil))) (by show 3 ≤ 100000; omega)
  try dsimp only [tNext, tSeq]
  refine s_asgD dues fun v1 H1 e1 hv1 => ?_
  try dsimp only [tNext, tSeq]
  have sh := three_show (isLetterD d) (isMonoD d) (isPolyD d)
  refine Evl.s_ret (v := .bl true) ?_ (fun H2 e2 => q H2 (e1.trans e2))
  refine Evl.ev_is (Evl.ev_op (ev_repr (d := .list [.bool (isLetterD d), .bool (isMonoD d), .bool (isPolyD d)]) (evd_lst (ead_cons (ob (ev_call1 (one rfl e1) rfl hsh rfl)) (ead_cons (ob (ev_call1 (one rfl e1) rfl hsh rfl)) (ead_cons (ob (ev_call1 (one rfl e1) rfl hsh rfl)) ead_nil))) (by show 3 ≤ 100000; omega)) ref_lst sh.1 (by simp [PyData.depth, PyData.depthAll]) (by omega))
    (ev_repr (evd_var rfl hv1) ref_lst sh.1 (by simp [PyData.depth, PyData.depthAll]) (by omega)) (Evl.rv_eq rfl)) (congrArg V.bl (decide_eq_true rfl))
end
end K00
end

section
set_option Elab.async false
set_option linter.all false
set_option maxRecDepth 100000
set_option maxHeartbeats 4000000
/-! the law: draws; by an AI agent -/
namespace K00
open PySem PySem.Spec PyProof.Rows L2 RX
open Evl (Ex Ev EvT EvA EvL EvU RV RC)
/-- the state of the draws -/
def mK (l s : Int) (c : Addr) (p : Int) : List (L2.Key × V) := [(.inr "left", .int l), (.inr "seed", .int s), (.inr "cells", .ref c), (.inr "spot", .int p)]
theorem mK_left (l s : Int) (c : Addr) (p : Int) : valV (mK l s c p) (.inr "left") = some (.int l) := by rfl
theorem mK_seed (l s : Int) (c : Addr) (p : Int) : valV (mK l s c p) (.inr "seed") = some (.int s) := by rfl
theorem mK_cells (l s : Int) (c : Addr) (p : Int) : valV (mK l s c p) (.inr "cells") = some (.ref c) := by rfl
theorem mK_spot (l s : Int) (c : Addr) (p : Int) : valV (mK l s c p) (.inr "spot") = some (.int p) := by rfl
theorem mK_putL (l s : Int) (c : Addr) (p x : Int) : putK (mK l s c p) (.inr "left") (.int x) = mK x s c p := by rfl
theorem mK_putS (l s : Int) (c : Addr) (p x : Int) : putK (mK l s c p) (.inr "spot") (.int x) = mK l s c x := by rfl
/-- at m stands a state of draws of which at most k were made -/
def Mst (K : PySem.W.Frag) (H : Hp) (m : Addr) (k : Nat) : Prop := ∃ (l s : Int) (c : Addr) (p : Nat) (cs : List Int), H m = some (.dK (mK l s c p)) ∧ SqL K H c (cs.map V.int) ∧ 0 < cs.length ∧ 0 ≤ l ∧ 0 ≤ s ∧ s < 2147483647 ∧ p ≤ k
theorem Mst.noSeq {K : PySem.W.Frag} {H : Hp} {m : Addr} {k : Nat} (h : Mst K H m k) : NoSeq H m := by
  obtain ⟨l, s, c, p, cs, hm, _⟩ := h
  exact .of hm (fun _ z => nomatch z) (fun _ z => nomatch z) (fun _ _ z => nomatch z)
theorem Mst.mono {K : PySem.W.Frag} {H : Hp} {m : Addr} {k j : Nat} (h : Mst K H m k) (le : k ≤ j) : Mst K H m j := by
  obtain ⟨l, s, c, p, cs, h1, h2, h3, h4, h5, h6, h7⟩ := h
  exact ⟨l, s, c, p, cs, h1, h2, h3, h4, h5, h6, by omega⟩
theorem Mst.ex {K : PySem.W.Frag} {H H' : Hp} {m : Addr} {k : Nat} (h : Mst K H m k) (e : Ex H H') : Mst K H' m k := by
  obtain ⟨l, s, c, p, cs, h1, h2, h⟩ := h
  exact ⟨l, s, c, p, cs, e _ _ h1, sq_mono e h2, h⟩
/-- most draws of all -/
def mostK : Nat := 1000000
/-- a draw below a number -/
def spDraw (K : PySem.W.Frag) : Sp := fun vs H Q _ => ∃ (m : Addr) (b : Int) (k : Nat), vs = [.ref m, .int b] ∧ Mst K H m k ∧ 0 < b ∧ b.natAbs < 2 ^ 200 ∧ k < mostK ∧
  ∀ (r : Int) H', 0 ≤ r → r < b → Mst K H' m (k + 1) → But m H H' → Q (.int r) H'
section
variable {K : PySem.W.Frag} {σ : L2.St} {H : Hp} {ta tb : TE}
theorem ev_dget {m : Addr} {kvs : List (L2.Key × V)} {x : Str} {v : V} (ha : Ev ta σ H (.ref m)) (hb : Ev tb σ H (.str x)) (hm : H m = some (.dK kvs)) (hv : valV kvs (.inr x) = some v) : Ev (tDGet ta tb) σ H v := fun H1 e Q q =>
  ha H1 e _ fun H2 e2 => hb H2 (e.trans e2) _ fun H3 e3 => ⟨m, v, rfl, by
    have h := DGet.k (H := H3) (a := m) (kvs := kvs) (k := .inr x) ((e.trans e2).trans e3 _ _ hm)
    rw [hv] at h
    exact h, q H3 (e2.trans e3)⟩
theorem ev_int1 {i : Int} (ha : Ev ta σ H (.int i)) : Ev (tCB (fun xs H Q => (∃ i, xs = [.int i] ∧ Q (.int i) H) ∨ ∃ k, xs = [.bl k] ∧ Q (.int (if k then 1 else 0)) H) (tCons ta tNil)) σ H (.int i) := fun H1 e Q q =>
  ha H1 e _ fun H2 e2 => .inl ⟨i, rfl, q H2 e2⟩
theorem ev_lenQ {a : Addr} {xs : List V} (ha : Ev ta σ H (.ref a)) (h : SqL K H a xs) : Ev (tCB (fun xs H Q => ∃ p ys, xs = [.ref p] ∧ (SqL K H p ys ∨ SqT K H p ys) ∧ Q (.int ys.length) H) (tCons ta tNil)) σ H (.int xs.length) := fun H1 e Q q =>
  ha H1 e _ fun H2 e2 => ⟨a, xs, rfl, .inl (sq_mono (e.trans e2) h), q H2 e2⟩
theorem ev_add {i j : Int} (ha : Ev ta σ H (.int i)) (hb : Ev tb σ H (.int j)) : Ev (tOp (rI0 fun i j => .int (i + j)) ta tb) σ H (.int (i + j)) := ev_I (g := fun i j => .int (i + j)) ha hb
theorem ev_sub {i j : Int} (ha : Ev ta σ H (.int i)) (hb : Ev tb σ H (.int j)) : Ev (tOp (rI0 fun i j => .int (i - j)) ta tb) σ H (.int (i - j)) := ev_I (g := fun i j => .int (i - j)) ha hb
theorem ev_mulR {i j : Int} (ha : Ev ta σ H (.int i)) (hb : Ev tb σ H (.int j)) (hc : -(2 ^ 64) < j ∧ j < 2 ^ 64) : Ev (tOp (rI CMul fun i j => .int (i * j)) ta tb) σ H (.int (i * j)) := ev_IC (g := fun i j => .int (i * j)) ha hb (.inr hc)
theorem ev_mod {i j : Int} (ha : Ev ta σ H (.int i)) (hb : Ev tb σ H (.int j)) (hc : 0 < j) : Ev (tOp (rI (fun _ j => 0 < j) fun i j => .int (i % j)) ta tb) σ H (.int (i % j)) := ev_IC (C := fun _ j => 0 < j) (g := fun i j => .int (i % j)) ha hb hc
theorem ev_div {i j : Int} (ha : Ev ta σ H (.int i)) (hb : Ev tb σ H (.int j)) (hc : 0 < j) (hz : j.natAbs < 2 ^ 200) : Ev (tOp (rI CDivW fun i j => .int (i / j)) ta tb) σ H (.int (i / j)) := ev_IC (C := CDivW) (g := fun i j => .int (i / j)) ha hb (wide_div hc hz (by decide) (by decide))
theorem ev_ixL {a : Addr} {xs : List V} {i : Int} {v : V} (ha : Ev ta σ H (.ref a)) (hb : Ev tb σ H (.int i)) (h : SqL K H a xs) (hv : atI xs i = some v) : Ev (tOp (rIxL K) ta tb) σ H v := Evl.ev_op ha hb (Evl.rv_ixL h hv)
theorem s_dput {D : Ends} {td ty tv : TE} {m : Addr} {kvs : List (L2.Key × V)} {x : Str} {v : V} (hv : Ev tv σ H v) (hd : Ev td σ H (.ref m)) (hy : Ev ty σ H (.str x)) (hm : H m = some (.dK kvs)) (hz : kvs.length < 1000)
    (k : ∀ H1, Ex H H1 → D.nx σ (upd H1 m (.dK (putK kvs (.inr x) v)))) : sDPut td ty tv D σ H :=
  hv H (Ex.refl H) _ fun H1 e1 => hd H1 e1 _ fun H2 e2 => hy H2 (e1.trans e2) _ fun H3 e3 => ⟨m, _, rfl, DPut.k (k := .inr x) (((e1.trans e2).trans e3) _ _ hm) (Evl.sz_lt (by omega)), k H3 ((e1.trans e2).trans e3)⟩
end
theorem at_mod {cs : List Int} {i : Int} (h : 0 < cs.length) : ∃ c, atI (cs.map V.int) (i % ((cs.map V.int).length : Nat)) = some (.int c) := by
  have hl : (cs.map V.int).length = cs.length := List.length_map ..
  have h1 : 0 ≤ i % ((cs.map V.int).length : Nat) := Int.emod_nonneg _ (by rw [hl]; omega)
  have h2 : i % ((cs.map V.int).length : Nat) < ((cs.map V.int).length : Nat) := Int.emod_lt_of_pos _ (by rw [hl]; omega)
  have e : i % ((cs.map V.int).length : Nat) = (((i % ((cs.map V.int).length : Nat)).toNat : Nat) : Int) := by omega
  rw [e]
  have hlt : (i % ((cs.map V.int).length : Nat)).toNat < cs.length := by rw [hl] at h1 h2 ⊢; omega
  refine ⟨cs[(i % ((cs.map V.int).length : Nat)).toNat], atI_nat ?_⟩
  rw [List.getElem?_map, List.getElem?_eq_getElem hlt]
  rfl
section
variable {P : Program} {w : World} {K : PySem.W.Frag} {mg : Str → Option Value} {base : Heap}
abbrev s__law_draw : Stmt := topS 23
theorem sc__law_draw : FnScope ["m", "below", "found", "spot", "cells", "added", "cell", "blend"] ["m", "below"] (defScope s__law_draw) := ⟨rfl, rfl, rfl, by decide +kernel, rfl, by decide +kernel, by decide +kernel⟩
theorem has_law_draw (T : Txt K mg) (D : DefAt K mg "_law_draw" s__law_draw ["m", "below"]) : Has P w K mg base 1 "_law_draw" ["m", "below"] (spDraw K) := by
  refine mk D sc__law_draw (fun vs H Q E h => ?_) (fun f cdv A outer s H vs Q E hr h => ?_)
  · obtain ⟨m, b, k, rfl, _⟩ := h
    rfl
  obtain ⟨m, b, k, rfl, ⟨l, sd, c, p, cs, hm, hc, hcl, hl0, hs0, hs1, hpk⟩, hb0, hb1, hk, q⟩ := h
  refine ⟨_, (pss_cons (ps_if (pt_cmpR op_gt (pe_dget (hu_of hr) (pv 0) pe_str (fun _ _ => rfl)) pe_int (nomark _))
  (pss_cons (ps_set (i := 2) sc__law_draw.nd rfl (Or.inl rfl) (pe_op op_mod (pe_callTy call_int1 (by rfl) T.int (by decide +kernel) (pa_cons (pe_dget (hu_of hr) (pv 0) pe_str (fun _ _ => rfl)) pa_nil)) (pv 1)))
  (pss_cons (ps_dput (hu_of hr) (pv 0) pe_str (pe_op op_fdivW (pe_dget (hu_of hr) (pv 0) pe_str (fun _ _ => rfl)) (pv 1)) rfl)
  (pss_one (ps_ret (pv 2)))))
  pss_nil)
  (pss_cons (ps_set (i := 3) sc__law_draw.nd rfl (Or.inl rfl) (pe_dget (hu_of hr) (pv 0) pe_str (fun _ _ => rfl)))
  (pss_cons (ps_dput (hu_of hr) (pv 0) pe_str (pe_op op_add (pv 3) pe_int) rfl)
  (pss_cons (ps_par (i := 4) (j := 5) (by rfl) sc__law_draw.nd rfl rfl (by decide) rfl rfl (pa_cons (pe_dget (hu_of hr) (pv 0) pe_str (fun _ _ => rfl)) (pa_cons (pe_op op_add (pe_dget (hu_of hr) (pv 0) pe_str (fun _ _ => rfl)) (pe_op op_mul (pe_op op_mul pe_int (pv 3)) (pv 3))) pa_nil)) (by rfl))
  (pss_cons (ps_set (i := 6) sc__law_draw.nd rfl (Or.inl rfl) (pe_ix ix_list (pv 4) (pe_op op_mod (pe_callTy call_int1 (by rfl) T.int (by decide +kernel) (pa_cons (pv 3) pa_nil)) (pe_callB call_len_seq (by rfl) T.len (by decide +kernel) (pa_cons (pv 4) pa_nil))) (fun _ _ => rfl)))
  (pss_cons (ps_set (i := 7) sc__law_draw.nd rfl (Or.inl rfl) (pe_op op_mod (pe_callTy call_int1 (by rfl) T.int (by decide +kernel) (pa_cons (pe_op op_add (pe_op op_mul (pv 6) (pe_op op_add (pe_op op_mul pe_int (pv 3)) pe_int)) (pv 5)) pa_nil)) pe_int))
  (pss_cons (ps_set (i := 7) sc__law_draw.nd rfl (Or.inl rfl) (pe_op op_mod (pe_callTy call_int1 (by rfl) T.int (by decide +kernel) (pa_cons (pe_op op_add (pe_op op_add (pe_op op_mul (pv 7) (pv 7)) (pe_op op_mul pe_int (pv 3))) (pe_dget (hu_of hr) (pv 0) pe_str (fun _ _ => rfl))) pa_nil)) pe_int))
  (pss_one (ps_ret (pe_op op_mod (pe_op op_fdivW (pe_op op_mod (pe_callTy call_int1 (by rfl) T.int (by decide +kernel) (pa_cons (pe_op op_add (pe_op op_mul (pv 7) pe_int) (pv 3)) pa_nil)) pe_int) pe_int) (pv 1))))))))))), ?_⟩
  have G : ∀ {σ' : L2.St} {H1 : Hp} {x : Str} {v : V}, σ'[0]? = some (some (.ref m)) → H1 m = some (.dK (mK l sd c p)) → valV (mK l sd c p) (.inr x) = some v → Ev (tDGet (tVar 0) (tC (.str x))) σ' H1 v := fun h0 h1 h2 => ev_dget (Evl.ev_var h0) Evl.ev_c h1 h2
  refine Evl.s_if (b := decide (0 < l)) (Evl.et_test (ev_I (g := fun i j => .bl (decide (j < i))) (G rfl hm (mK_left ..)) Evl.ev_c)) (fun z H1 e1 => ?_) (fun z H1 e1 => ?_)
  · try dsimp only [tNext, tSeq]
    refine Evl.s_asg (v := .int (l % b)) (ev_mod (ev_int1 (G rfl (e1 _ _ hm) (mK_left ..))) (Evl.ev_var rfl) hb0) fun H2 e2 => ?_
    try dsimp only [tNext, tSeq, List.set]
    refine s_dput (v := .int (l / b)) (ev_div (G rfl ((e1.trans e2) _ _ hm) (mK_left ..)) (Evl.ev_var rfl) hb0 hb1) (Evl.ev_var rfl) Evl.ev_c ((e1.trans e2) _ _ hm) (by show 4 < 1000; omega) fun H3 e3 => ?_
    try dsimp only [tNext, tSeq, List.set]
    have E3 : Ex H H3 := (e1.trans e2).trans e3
    refine ⟨.int (l % b), rfl, q _ _ (Int.emod_nonneg _ (by omega)) (Int.emod_lt_of_pos _ hb0) ?_ ((But.of E3).upd _)⟩
    rw [mK_putL]
    refine ⟨l / b, sd, c, p, cs, upd_same, ?_, hcl, Int.ediv_nonneg hl0 (by omega), hs0, hs1, by omega⟩
    exact sq_but (NoSeq.of (E3 _ _ hm) (fun _ z => nomatch z) (fun _ z => nomatch z) (fun _ _ z => nomatch z)) ((But.refl m H3).upd _) (sq_mono E3 hc)
  · have hp6 : (p : Int) < 1000000 := by
      unfold mostK at hk
      omega
    try dsimp only [tNext, tSeq]
    refine Evl.s_asg (v := .int (p : Int)) (G rfl (e1 _ _ hm) (mK_spot ..)) fun H2 e2 => ?_
    try dsimp only [tNext, tSeq, List.set]
    refine s_dput (v := .int ((p : Int) + 1)) (ev_add (Evl.ev_var rfl) Evl.ev_c) (Evl.ev_var rfl) Evl.ev_c ((e1.trans e2) _ _ hm) (by show 4 < 1000; omega) fun H3 e3 => ?_
    rw [mK_putS]
    try dsimp only [tNext, tSeq, List.set]
    have E3 : Ex H H3 := (e1.trans e2).trans e3
    have B3 : But m H (upd H3 m (.dK (mK l sd c ((p : Int) + 1)))) := (But.of E3).upd _
    have hm3 : upd H3 m (.dK (mK l sd c ((p : Int) + 1))) m = some (.dK (mK l sd c ((p : Int) + 1))) := upd_same
    have hc3 : SqL K (upd H3 m (.dK (mK l sd c ((p : Int) + 1)))) c (cs.map V.int) :=
      sq_but (NoSeq.of (E3 _ _ hm) (fun _ z => nomatch z) (fun _ z => nomatch z) (fun _ _ z => nomatch z)) ((But.refl m H3).upd _) (sq_mono E3 hc)
    generalize upd H3 m (.dK (mK l sd c ((p : Int) + 1))) = H4 at B3 hm3 hc3
    have G4 : ∀ {σ' : L2.St} {H1 : Hp} {x : Str} {v : V}, σ'[0]? = some (some (.ref m)) → Ex H4 H1 → valV (mK l sd c ((p : Int) + 1)) (.inr x) = some v → Ev (tDGet (tVar 0) (tC (.str x))) σ' H1 v := fun h0 h1 h2 => ev_dget (Evl.ev_var h0) Evl.ev_c (h1 _ _ hm3) h2
    dsimp only [tPar, tCons, tNil]
    refine G4 rfl (Ex.refl H4) (mK_cells ..) H4 (Ex.refl H4) _ fun H5 e5 => ?_
    refine ev_add (G4 rfl e5 (mK_seed ..)) (ev_mulR (ev_mulR Evl.ev_c (Evl.ev_var rfl) ⟨by omega, by omega⟩) (Evl.ev_var rfl) ⟨by omega, by omega⟩) H5 (Ex.refl H5) _ fun H6 e6 => ?_
    refine ⟨_, _, rfl, ?_⟩
    try dsimp only [tNext, tSeq, List.set]
    have E6 : Ex H4 H6 := e5.trans e6
    obtain ⟨cell, hcell⟩ := at_mod (cs := cs) (i := (p : Int)) hcl
    refine Evl.s_asg (v := .int cell) (ev_ixL (Evl.ev_var rfl) (ev_mod (ev_int1 (Evl.ev_var rfl)) (ev_lenQ (Evl.ev_var rfl) (sq_mono E6 hc3)) (by rw [List.length_map]; omega)) (sq_mono E6 hc3) hcell) fun H7 e7 => ?_
    try dsimp only [tNext, tSeq, List.set]
    refine Evl.s_asg (v := .int ((cell * (2 * (p : Int) + 3) + (sd + 40503 * (p : Int) * (p : Int))) % 2147483647)) (ev_mod (ev_int1 (ev_add (ev_mulR (Evl.ev_var rfl) (ev_add (ev_mulR Evl.ev_c (Evl.ev_var rfl) ⟨by omega, by omega⟩) Evl.ev_c) ⟨by omega, by omega⟩) (Evl.ev_var rfl))) Evl.ev_c (by omega)) fun H8 e8 => ?_
    try dsimp only [tNext, tSeq, List.set]
    have bb : 0 ≤ (cell * (2 * (p : Int) + 3) + (sd + 40503 * (p : Int) * (p : Int))) % 2147483647 ∧ (cell * (2 * (p : Int) + 3) + (sd + 40503 * (p : Int) * (p : Int))) % 2147483647 < 2147483647 := ⟨Int.emod_nonneg _ (by omega), Int.emod_lt_of_pos _ (by omega)⟩
    generalize (cell * (2 * (p : Int) + 3) + (sd + 40503 * (p : Int) * (p : Int))) % 2147483647 = blend at bb
    refine Evl.s_asg (v := .int ((blend * blend + 69621 * (p : Int) + sd) % 2147483629)) (ev_mod (ev_int1 (ev_add (ev_add (ev_mulR (Evl.ev_var rfl) (Evl.ev_var rfl) ⟨by omega, by omega⟩) (ev_mulR Evl.ev_c (Evl.ev_var rfl) ⟨by omega, by omega⟩)) (G4 rfl ((E6.trans e7).trans e8) (mK_seed ..)))) Evl.ev_c (by omega)) fun H9 e9 => ?_
    try dsimp only [tNext, tSeq, List.set]
    have bb2 : 0 ≤ (blend * blend + 69621 * (p : Int) + sd) % 2147483629 := Int.emod_nonneg _ (by omega)
    generalize (blend * blend + 69621 * (p : Int) + sd) % 2147483629 = blend2 at bb2
    refine Evl.s_ret (v := .int ((blend2 * 48271 + (p : Int)) % 2147483647 / 11 % b)) (ev_mod (ev_div (ev_mod (ev_int1 (ev_add (ev_mulR (Evl.ev_var rfl) Evl.ev_c ⟨by omega, by omega⟩) (Evl.ev_var rfl))) Evl.ev_c (by omega)) Evl.ev_c (by omega) (by decide)) (Evl.ev_var rfl) hb0) fun H10 e10 => ?_
    have E10 : Ex H4 H10 := (((E6.trans e7).trans e8).trans e9).trans e10
    exact q _ _ (Int.emod_nonneg _ (by omega)) (Int.emod_lt_of_pos _ hb0) ⟨l, sd, c, p + 1, cs, E10 _ _ hm3, sq_mono E10 hc3, hcl, hl0, hs0, hs1, by omega⟩ (B3.trans (But.of E10))
end
end K00
end

section
set_option Elab.async false
set_option linter.all false
set_option maxRecDepth 100000
set_option maxHeartbeats 4000000
/-! the law: how draws begin; by an AI agent -/
namespace K00
open PySem PySem.Spec PyProof.Rows L2 RX
open Evl (Ex Ev EvT EvA EvL EvU RV RC)
section
variable {K : PySem.W.Frag} {σ : L2.St} {H : Hp} {ta tb : TE}
theorem el_cat {xs ys : List V} (ha : EvL ta σ H xs) (hb : EvL tb σ H ys) (hz : xs.length + ys.length ≤ 100000) : EvL (tOp rCat ta tb) σ H (xs ++ ys) := fun H1 e Q q =>
  ha H1 e _ fun p H2 hp e2 h2 => hb H2 (e.trans e2) _ fun r H3 hr e3 h3 => ⟨p, r, xs, ys, rfl, rfl, e3 _ _ h2, h3, Evl.sz_of hz, fun t ht => q t _ (Evl.fresh_back (e2.trans e3) ht) ((e2.trans e3).trans (Ex.new ht)) upd_same⟩
theorem el_var {i : Nat} {a : Addr} {xs ys : List V} {tb : TE} (ha : σ[i]? = some (some (.ref a))) (h : H a = some (.lst xs)) (hb : EvL tb σ H ys) (hz : xs.length + ys.length ≤ 100000) : EvL (tOp rCat (tVar i) tb) σ H (xs ++ ys) := fun H1 e Q q =>
  ⟨.ref a, ha, hb H1 e _ fun r H3 hr e3 h3 => ⟨a, r, xs, ys, rfl, rfl, e3 _ _ (e _ _ h), h3, Evl.sz_of hz, fun t ht => q t _ (Evl.fresh_back e3 ht) (e3.trans (Ex.new ht)) upd_same⟩⟩
end
theorem cut_ints (ns : List Int) (lo hi : Option Int) : ∃ ms : List Int, cutV (ns.map V.int) lo hi = ms.map V.int ∧ ms.length ≤ ns.length := by
  unfold cutV
  refine ⟨(ns.drop (HT.sIx (ns.map V.int).length 0 lo)).take (HT.sIx (ns.map V.int).length (ns.map V.int).length hi - HT.sIx (ns.map V.int).length 0 lo), ?_, ?_⟩
  · rw [List.map_take, List.map_drop]
  · rw [List.length_take, List.length_drop]
    omega
/-- the great ones -/
theorem given_ints (ns : List Int) : ∃ gs : List Int, Evl.given (ns.map V.int).length (fun i => match ns[i]? with | some c => decide ((10 : Int) ^ 18 ≤ c) | none => false) (fun i => match ns[i]? with | some c => V.int c | none => .non) = gs.map V.int ∧ ∀ g ∈ gs, 0 ≤ g := by
  unfold Evl.given
  generalize (ns.map V.int).length = n
  induction n with
  | zero => exact ⟨[], rfl, fun g h => nomatch h⟩
  | succ n ih =>
    obtain ⟨gs, h1, h2⟩ := ih
    rw [List.range_succ, List.filter_append, List.map_append, h1]
    cases hn : ns[n]? with
    | none =>
      refine ⟨gs, ?_, h2⟩
      rw [List.filter_cons, hn]
      simp
    | some c =>
      by_cases hc : (10 : Int) ^ 18 ≤ c
      · refine ⟨gs ++ [c], ?_, fun g hg => ?_⟩
        · rw [List.filter_cons, hn, if_pos (by simpa using hc), List.map_append]
          simp [hn]
        · rcases List.mem_append.mp hg with h | h
          · exact h2 g h
          · have : g = c := by simpa using h
            subst this
            omega
      · refine ⟨gs, ?_, h2⟩
        rw [List.filter_cons, hn, if_neg (by simpa using hc)]
        simp
/-- the state at the start -/
def spBegun (K : PySem.W.Frag) : Sp := fun vs H Q _ => ∃ (a : Addr) (k : Int) (ns : List Int), vs = [.ref a, .int k] ∧ SqL K H a (ns.map V.int) ∧ ns.length ≤ 63 ∧ 0 ≤ k ∧ k ≤ 10 ∧ ∀ m H', Mst K H' m 0 → Ex H H' → Q (.ref m) H'
section
variable {P : Program} {w : World} {K : PySem.W.Frag} {mg : Str → Option Value} {base : Heap}
abbrev s__law_begun : Stmt := topS 22
theorem sc__law_begun : FnScope ["script", "k", "cells", "great", "begun", "cell"] ["script", "k"] (defScope s__law_begun) := ⟨rfl, rfl, rfl, by decide +kernel, rfl, by decide +kernel, by decide +kernel⟩
theorem has_law_begun (T : Txt K mg) (D : DefAt K mg "_law_begun" s__law_begun ["script", "k"]) : Has P w K mg base 1 "_law_begun" ["script", "k"] (spBegun K) := by
  refine mk D sc__law_begun (fun vs H Q E h => ?_) (fun f cdv A outer s H vs Q E hr h => ?_)
  · obtain ⟨a, k, ns, rfl, _⟩ := h
    rfl
  obtain ⟨a, k, ns, rfl, hs, h63, hk0, hk1, q⟩ := h
  obtain ⟨m1, c1, l1⟩ := cut_ints ns (some k) none
  obtain ⟨m2, c2, l2⟩ := cut_ints ns none (some k)
  refine ⟨_, (pss_cons (ps_set (i := 2) sc__law_begun.nd rfl (Or.inl rfl) (pe_op op_cat (pe_slice sl_list (pv 0) (po_some (pv 1)) po_none) (pe_slice sl_list (pv 0) po_none (po_some (pv 1)))))
  (pss_cons (ps_setLc (i := 3) (own := [("cell", 5)]) (g := gName 5) rfl sc__law_begun.nd rfl rfl (sw_true rfl rfl rfl (by decide +kernel)) (pi_list (pv 0)) (blkOk_by (own := [("cell", 5)]) (N := ["script", "k", "cells", "great", "begun", "cell"]) (sc := defScope s__law_begun) (by decide +kernel)) (fun _ _ _ _ _ => (pg_name (i := 5) sc__law_begun.nd rfl (Or.inl rfl))) (fun _ _ _ _ _ => (pts_one (pt_cmpR op_ge (pv 5) (pe_op op_pow pe_int pe_int) (nomark _)))) (fun _ _ _ _ _ => (pv 5)))
  (pss_cons (ps_set (i := 4) sc__law_begun.nd rfl (Or.inl rfl) (pe_op op_add pe_int (pe_op op_mul pe_int (pv 1))))
  (pss_cons (ps_for PassesOwn.never rfl (pi_list (pv 2)) (pg_name (i := 5) sc__law_begun.nd rfl (Or.inl rfl))
  (pss_one (ps_set (i := 4) sc__law_begun.nd rfl (Or.inl rfl) (pe_op op_mod (pe_callTy call_int1 (by rfl) T.int (by decide +kernel) (pa_cons (pe_op op_add (pe_op op_mul (pv 4) pe_int) (pv 5)) pa_nil)) pe_int))))
  (pss_one (ps_ret (pe_disp (pps_cons pe_str (pe_ifExp (pt_cmpR op_lt (pv 1) (pe_callB call_len_seq (by rfl) T.len (by decide +kernel) (pa_cons (pv 3) pa_nil)) (nomark _)) (pe_ix ix_list (pv 3) (pv 1) (fun _ _ => rfl)) pe_int) (pps_cons pe_str (pv 4) (pps_cons pe_str (pe_op op_cat (pv 2) (pe_lst (pa_cons (pe_op op_add (pe_op op_mul pe_int (pv 1)) pe_int) pa_nil))) (pps_cons pe_str pe_int pps_nil)))) (by rfl) (by rfl) (fun z => by cases z) (by decide)))))))), ?_⟩
  try dsimp only [tNext, tSeq]
  -- cells
  refine Evl.s_asgL (xs := m1.map V.int ++ m2.map V.int) ?_ fun p H1 hp e1 h1 => ?_
  · refine el_cat ?_ ?_ (by rw [List.length_map, List.length_map]; omega)
    · have h := Evl.el_sl (K := K) (Evl.ev_var (σ := start ["script", "k", "cells", "great", "begun", "cell"] [.ref a, .int k]) (i := 0) rfl) (Evl.eo_some (Evl.ev_var (i := 1) (v := .int k) rfl)) Evl.eo_none hs
      rw [c1] at h
      exact h
    · have h := Evl.el_sl (K := K) (Evl.ev_var (σ := start ["script", "k", "cells", "great", "begun", "cell"] [.ref a, .int k]) (i := 0) rfl) Evl.eo_none (Evl.eo_some (Evl.ev_var (i := 1) (v := .int k) rfl)) hs
      rw [c2] at h
      exact h
  have ec : m1.map V.int ++ m2.map V.int = (m1 ++ m2).map V.int := by rw [List.map_append]
  rw [ec] at h1
  have lc : (m1 ++ m2).length ≤ 126 := by rw [List.length_append]; omega
  generalize m1 ++ m2 = cs at h1 lc
  try dsimp only [tNext, tSeq, List.set]
  -- great
  obtain ⟨gs, hg1, hg2⟩ := given_ints ns
  refine Evl.s_asgL (xs := gs.map V.int) ?_ fun r H2 hr2 e2 h2 => ?_
  · rw [← hg1]
    refine Evl.el_lcL (K := K) (xs := ns.map V.int) _ _ (Evl.ev_var rfl) (sq_mono e1 hs) (by rw [List.length_map]; omega) (fun x => rfl) (fun i x H3 e3 hx => ?_) (fun i x H3 e3 hx _ => ?_)
    · rw [List.getElem?_map] at hx
      obtain ⟨c, hc, rfl⟩ := Option.map_eq_some_iff.mp hx
      rw [hc]
      refine Evl.et_test (Evl.ev_is (ev_I (g := fun i j => .bl (decide (j ≤ i))) (Evl.ev_var rfl) (ev_IC (C := CPow) (g := fun i j => .int (i ^ j.toNat)) Evl.ev_c Evl.ev_c ⟨by decide, by decide, by decide⟩)) rfl)
    · rw [List.getElem?_map] at hx
      obtain ⟨c, hc, rfl⟩ := Option.map_eq_some_iff.mp hx
      rw [hc]
      exact Evl.ev_var rfl
  try dsimp only [tNext, tSeq, List.set]
  refine Evl.s_asg (v := .int (107 + 10 * k)) (ev_add Evl.ev_c (ev_mulR Evl.ev_c (Evl.ev_var rfl) ⟨by omega, by omega⟩)) fun H3 e3 => ?_
  try dsimp only [tNext, tSeq, List.set]
  have h1' : H3 p = some (.lst (cs.map V.int)) := e3 _ _ (e2 _ _ h1)
  have h2' : H3 r = some (.lst (gs.map V.int)) := e3 _ _ h2
  have E3 : Ex H H3 := (e1.trans e2).trans e3
  refine Evl.s_forL (a := p) (xs := cs.map V.int) (Evl.ev_var rfl) (.inl (.inl h1')) (fun i σ' H' => ∃ (b : Int) (y : Option V), σ' = [some (.ref a), some (.int k), some (.ref p), some (.ref r), some (.int b), y] ∧ Ex H3 H' ∧ 0 ≤ b ∧ b < 2147483647)
    (fun H4 e4 => ⟨107 + 10 * k, none, rfl, e4, by omega, by omega⟩) (fun i σ' H' _ hP => ?_) (fun i x σ' H' hx hP => ?_) (fun σ' H' hP => ?_)
  · obtain ⟨b, y, rfl, E4, _⟩ := hP
    exact .inl (.inl (E4 _ _ h1'))
  · obtain ⟨b, y, rfl, E4, b0, b1⟩ := hP
    rw [List.getElem?_map] at hx
    obtain ⟨c, hc, rfl⟩ := Option.map_eq_some_iff.mp hx
    dsimp only [gName, List.set]
    refine Evl.s_asg (v := .int ((b * 48271 + c) % 2147483647)) (ev_mod (ev_int1 (ev_add (ev_mulR (Evl.ev_var rfl) Evl.ev_c ⟨by omega, by omega⟩) (Evl.ev_var rfl))) Evl.ev_c (by omega)) fun H5 e5 => ?_
    exact ⟨_, _, rfl, E4.trans e5, Int.emod_nonneg _ (by omega), Int.emod_lt_of_pos _ (by omega)⟩
  · obtain ⟨b, y, rfl, E4, b0, b1⟩ := hP
    try dsimp only [tNext, tSeq, List.set]
    intro m hm
    -- the four pairs
    have Eu : Ex H' (upd H' m (.dK [])) := Ex.new hm
    dsimp only [tPairs]
    have left : ∃ l : Int, 0 ≤ l ∧ Ev (tIf (tTest (tOp (rI0 fun i j => .bl (decide (i < j))) (tVar 1) (tCB (fun xs H Q => ∃ p ys, xs = [.ref p] ∧ (SqL K H p ys ∨ SqT K H p ys) ∧ Q (.int ys.length) H) (tCons (tVar 3) tNil)))) (tOp (rIxL K) (tVar 3) (tVar 1)) (tC (.int 0)))
        [some (.ref a), some (.int k), some (.ref p), some (.ref r), some (.int b), y] (upd H' m (.dK [])) (.int l) := by
      have hq : SqL K (upd H' m (.dK [])) r (gs.map V.int) := .inl (.inl (Eu _ _ (E4 _ _ h2')))
      by_cases hlt : k < (((gs.map V.int).length : Nat) : Int)
      · have hk' : k.toNat < gs.length := by rw [List.length_map] at hlt; omega
        have hg : (gs.map V.int)[k.toNat]? = some (.int gs[k.toNat]) := by
          rw [List.getElem?_map, List.getElem?_eq_getElem hk']
          rfl
        have ek : k = ((k.toNat : Nat) : Int) := by omega
        refine ⟨gs[k.toNat], hg2 _ (List.getElem_mem _), Evl.ev_if (b := true) (Evl.et_test (Evl.ev_is (ev_I (g := fun i j => .bl (decide (i < j))) (Evl.ev_var rfl) (ev_lenQ (Evl.ev_var rfl) hq)) (congrArg V.bl (decide_eq_true hlt)))) (fun _ => ?_) (fun z => nomatch z)⟩
        exact ev_ixL (Evl.ev_var rfl) (Evl.ev_var rfl) hq ((by have h := atI_nat hg; rw [← ek] at h; exact h))
      · exact ⟨0, Int.le_refl 0, Evl.ev_if (b := false) (Evl.et_test (Evl.ev_is (ev_I (g := fun i j => .bl (decide (i < j))) (Evl.ev_var rfl) (ev_lenQ (Evl.ev_var rfl) hq)) (congrArg V.bl (decide_eq_false hlt)))) (fun z => nomatch z) (fun _ => Evl.ev_c)⟩
    obtain ⟨l, hl0, hl⟩ := left
    refine hl _ (Ex.refl _) _ fun H5 e5 => ?_
    refine Evl.ev_c H5 (Ex.refl _) _ fun H5b e5b => ?_
    refine Evl.ev_var (i := 4) (v := .int b) rfl H5b (Ex.refl _) _ fun H6b e6b => ?_
    refine Evl.ev_c H6b (Ex.refl _) _ fun H6 e6c => ?_
    have e6 : Ex H5 H6 := (e5b.trans e6b).trans e6c
    have h1q : H6 p = some (.lst (cs.map V.int)) := e6 _ _ (e5 _ _ (Eu _ _ (E4 _ _ h1')))
    refine el_var (ys := [V.int (71 * k + 61)]) rfl h1q (Evl.el_lst (Evl.ea_cons (ev_add (ev_mulR Evl.ev_c (Evl.ev_var rfl) ⟨by omega, by omega⟩) Evl.ev_c) Evl.ea_nil) (by show 1 ≤ 100000; omega)) (by rw [List.length_map]; show cs.length + 1 ≤ 100000; omega) H6 (Ex.refl _) _ fun t H7a ht e7a h7a => ?_
    refine Evl.ev_c H7a (Ex.refl _) _ fun H7b e7b => ?_
    refine Evl.ev_c H7b (Ex.refl _) _ fun H7 e7c => ?_
    have h7 := e7c _ _ (e7b _ _ h7a)
    have e7 : Ex H6 H7 := (e7a.trans e7b).trans e7c
    have E57 : Ex (upd H' m (.dK [])) H7 := (e5.trans e6).trans e7
    refine ⟨E57 _ _ upd_same, [(.inr "left", .int l), (.inr "seed", .int b), (.inr "cells", .ref t), (.inr "spot", .int 0)], rfl, by show 4 ≤ 15; omega, ?_⟩
    have tm : t ≠ m := fun z => by
      subst z
      have : H6 t = some (.dK []) := e6 _ _ (e5 _ _ upd_same)
      rw [this] at ht; cases ht
    refine q m _ ⟨l, b, t, 0, cs ++ [71 * k + 61], upd_same, .inl (.inl (by rw [upd_ne tm, h7, List.map_append]; rfl)), by rw [List.length_append]; show 0 < cs.length + 1; omega, hl0, b0, b1, Nat.le_refl _⟩ ?_
    intro bb o hbo
    have hb' : H' bb = some o := E4 _ _ (E3 _ _ hbo)
    have nb : bb ≠ m := fun z => by subst z; rw [hm] at hb'; cases hb'
    rw [upd_ne nb]
    exact E57 _ _ (Eu _ _ hb')
end
end K00
end

section
set_option Elab.async false
set_option linter.all false
set_option maxRecDepth 100000
set_option maxHeartbeats 4000000
/-! the law: one of several; fractions; by an AI agent -/
namespace K00
open PySem PySem.Spec PyProof.Rows L2 RX
open Evl (Ex Ev EvT EvA EvL EvU RV RC)
section
variable {K : PySem.W.Frag} {σ : L2.St} {H : Hp} {ta tb : TE}
/-- a draw -/
theorem m_draw {m : Addr} {b : Int} {k : Nat} {Q : VK} (ha : Ev ta σ H (.ref m)) (hb : Ev tb σ H (.int b)) (st : Mst K H m k) (h0 : 0 < b) (h2 : b.natAbs < 2 ^ 200) (hk : k < mostK)
    (q : ∀ (r : Int) H', 0 ≤ r → r < b → Mst K H' m (k + 1) → But m H H' → Q (.int r) H') : tCall (spDraw K) [] E0 (tCons ta (tCons tb tNil)) σ H Q :=
  ha H (Ex.refl H) _ fun H1 e1 => hb H1 e1 _ fun H2 e2 => ⟨m, b, k, rfl, st.ex (e1.trans e2), h0, h2, hk, fun r H' r0 r1 s' bt => q r H' r0 r1 s' ((But.of (e1.trans e2)).trans bt)⟩
end
/-- one of several -/
def spOf (K : PySem.W.Frag) : Sp := fun vs H Q _ => ∃ (m a : Addr) (xs : List V) (k : Nat), vs = [.ref m, .ref a] ∧ Mst K H m k ∧ SqL K H a xs ∧ 0 < xs.length ∧ xs.length ≤ 1000 ∧ k < mostK ∧
  ∀ (i : Nat) v H', xs[i]? = some v → Mst K H' m (k + 1) → But m H H' → Q v H'
abbrev pLow (K : PySem.W.Frag) : Sp := spD K 2 (fun ds => ∃ n d : Int, ds = [.int n, .int d] ∧ 0 < d ∧ d.natAbs < 2 ^ 8000) fun ds => match ds with | [.int n, .int d] => lowD n d | _ => .none
abbrev pSum (K : PySem.W.Frag) : Sp := spD K 2 (fun ds => ∃ x y, ds = [x, y] ∧ FB 3999 x ∧ FB 3999 y) fun ds => match ds with | [x, y] => sumD x y | _ => .none
section
variable {P : Program} {w : World} {K : PySem.W.Frag} {mg : Str → Option Value} {base : Heap}
abbrev s__law_of : Stmt := topS 24
theorem sc__law_of : FnScope ["m", "some"] ["m", "some"] (defScope s__law_of) := ⟨rfl, rfl, rfl, by decide +kernel, rfl, by decide +kernel, by decide +kernel⟩
theorem has_law_of (T : Txt K mg) (D : DefAt K mg "_law_of" s__law_of ["m", "some"]) (h_law_draw : Has P w K mg base 1 "_law_draw" ["m", "below"] (spDraw K)) : Has P w K mg base 2 "_law_of" ["m", "some"] (spOf K) := by
  refine mk D sc__law_of (fun vs H Q E h => ?_) (fun f cdv A outer s H vs Q E hr h => ?_)
  · obtain ⟨m, a, xs, k, rfl, _⟩ := h
    rfl
  obtain ⟨m, a, xs, k, rfl, st, hs, l0, l1, hk, q⟩ := h
  refine ⟨_, (pss_one (ps_ret (pe_ix ix_list (pv 1) (ph h_law_draw (hr.mono (by decide)) (pa_cons (pv 0) (pa_cons (pe_callB call_len_seq (by rfl) T.len (by decide +kernel) (pa_cons (pv 1) pa_nil)) pa_nil))) (fun _ _ => rfl)))), ?_⟩
  dsimp only [tRet, tOp]
  refine Evl.ev_var (i := 1) (v := .ref a) rfl H (Ex.refl H) _ fun H1 e1 => ?_
  refine m_draw (Evl.ev_var rfl) (ev_lenQ (Evl.ev_var rfl) (sq_mono e1 hs)) (st.ex e1) (by omega) ?_ hk fun r H2 r0 r1 st2 bt => ?_
  · exact Nat.lt_of_lt_of_le (m := 1001) (by omega) (by decide)
  · have hlt : r.toNat < xs.length := by omega
    have er : r = ((r.toNat : Nat) : Int) := by omega
    have hg : xs[r.toNat]? = some xs[r.toNat] := List.getElem?_eq_getElem hlt
    refine ⟨a, xs, r, xs[r.toNat], rfl, rfl, sq_but (st.ex e1).noSeq bt (sq_mono e1 hs), ?_, q _ _ _ hg st2 ((But.of e1).trans bt)⟩
    have h := atI_nat hg
    rw [← er] at h
    exact h
abbrev s__law_frac : Stmt := topS 26
theorem sc__law_frac : FnScope ["n", "d", "part"] ["n", "d"] (defScope s__law_frac) := ⟨rfl, rfl, rfl, by decide +kernel, rfl, by decide +kernel, by decide +kernel⟩
theorem has_law_frac (T : Txt K mg) (D : DefAt K mg "_law_frac" s__law_frac ["n", "d"]) (h_law_gcd : Has P w K mg base 1 "_law_gcd" ["a", "b"] (pGcd K)) : Has P w K mg base 2 "_law_frac" ["n", "d"] (pLow K) := by
  refine mk D sc__law_frac (fun vs H Q E h => spD_len h) (fun f cdv A outer s H vs Q E hr h => ?_)
  obtain ⟨ds, hd, hl, ⟨n, d, rfl, d0, d1⟩, q⟩ := h
  obtain ⟨v, v', rfl, hv, hv'⟩ := dpAll2 hd
  cases dp_int hv
  cases dp_int hv'
  refine ⟨_, (pss_cons (ps_set (i := 2) sc__law_frac.nd rfl (Or.inl rfl) (pe_op op_mul (ph h_law_gcd (hr.mono (by decide)) (pa_cons (pv 0) (pa_cons (pv 1) pa_nil))) (pe_ifExp (pt_cmpR op_gt (pv 1) pe_int (nomark _)) pe_int (pe_un un_neg pe_int))))
  (pss_one (ps_ret (pe_tup (pa_cons (pe_op op_fdivW (pv 0) (pv 2)) (pa_cons (pe_op op_fdivW (pv 1) (pv 2)) pa_nil)))))), ?_⟩
  try dsimp only [tNext, tSeq]
  have g0 := gcd_pos (n := n) d0
  have gl : Nat.gcd n.natAbs d.natAbs ≤ d.natAbs := Nat.gcd_le_right _ (by omega)
  refine Evl.s_asg (v := .int (((Nat.gcd n.natAbs d.natAbs : Nat) : Int) * 1)) (ev_mulR (ev_int (evd_callD (ds := [.int n, .int d]) (ead_cons (evd_of (Evl.ev_var rfl) fun _ => .int _) (ead_cons (evd_of (Evl.ev_var rfl) fun _ => .int _) ead_nil)) rfl ⟨n, d, rfl⟩))
    (Evl.ev_if (b := true) (Evl.et_test (Evl.ev_is (ev_I (g := fun i j => .bl (decide (j < i))) (Evl.ev_var rfl) Evl.ev_c) (congrArg V.bl (decide_eq_true d0)))) (fun _ => Evl.ev_c) (fun z => nomatch z)) ⟨by omega, by omega⟩) fun H1 e1 => ?_
  rw [Int.mul_one]
  try dsimp only [tNext, tSeq, List.set]
  have hc : ∀ x : Int, CDivW x ((Nat.gcd n.natAbs d.natAbs : Nat) : Int) := fun x => wide_div (by omega) (Nat.lt_of_le_of_lt (by omega) d1) (by decide) (by decide)
  refine s_retD (d := lowD n d) (evd_tup (ead_cons (evd_of (ev_IC (C := CDivW) (g := fun i j => .int (i / j)) (Evl.ev_var rfl) (Evl.ev_var rfl) (hc n)) fun _ => .int _) (ead_cons (evd_of (ev_IC (C := CDivW) (g := fun i j => .int (i / j)) (Evl.ev_var rfl) (Evl.ev_var rfl) (hc d)) fun _ => .int _) ead_nil)) (by show 2 ≤ 100000; omega)) fun v H2 e2 hv => q v H2 (e1.trans e2) hv
abbrev s__law_fsum : Stmt := topS 27
theorem sc__law_fsum : FnScope ["x", "y"] ["x", "y"] (defScope s__law_fsum) := ⟨rfl, rfl, rfl, by decide +kernel, rfl, by decide +kernel, by decide +kernel⟩
theorem has_law_fsum (T : Txt K mg) (D : DefAt K mg "_law_fsum" s__law_fsum ["x", "y"]) (h_law_frac : Has P w K mg base 2 "_law_frac" ["n", "d"] (pLow K)) : Has P w K mg base 3 "_law_fsum" ["x", "y"] (pSum K) := by
  refine mk D sc__law_fsum (fun vs H Q E h => spD_len h) (fun f cdv A outer s H vs Q E hr h => ?_)
  obtain ⟨ds, hd, hl, ⟨x, y, rfl, ⟨n, d, rfl, d1, _, n2, d2⟩, ⟨m, e, rfl, e1, _, m2, e2⟩⟩, q⟩ := h
  obtain ⟨v, v', rfl, hv, hv'⟩ := dpAll2 hd
  refine ⟨_, (pss_one (ps_ret (ph h_law_frac (hr.mono (by decide)) (pa_cons (pe_op op_add (pe_op op_mulW (pe_ix ix_tup (pv 0) pe_int (fun _ _ => rfl)) (pe_ix ix_tup (pv 1) pe_int (fun _ _ => rfl))) (pe_op op_mulW (pe_ix ix_tup (pv 1) pe_int (fun _ _ => rfl)) (pe_ix ix_tup (pv 0) pe_int (fun _ _ => rfl)))) (pa_cons (pe_op op_mulW (pe_ix ix_tup (pv 0) pe_int (fun _ _ => rfl)) (pe_ix ix_tup (pv 1) pe_int (fun _ _ => rfl))) pa_nil))))), ?_⟩
  have X : ∀ {σ' : L2.St} {H1 : Hp}, σ'[0]? = some (some v) → Ex H H1 → EvD K (tVar 0) σ' H1 (.tuple [.int n, .int d]) := fun h0 e => evd_var h0 (dp_ex e hv)
  have Y : ∀ {σ' : L2.St} {H1 : Hp}, σ'[1]? = some (some v') → Ex H H1 → EvD K (tVar 1) σ' H1 (.tuple [.int m, .int e]) := fun h0 e => evd_var h0 (dp_ex e hv')
  have W : ∀ {i j : Int}, i.natAbs < 2 ^ 3999 → j.natAbs < 2 ^ 3999 → CMulW i j := fun hi hj => wide_mul hi hj (by decide) (by decide) (by decide)
  have c := wide_lt d2 e2
  refine s_retD (d := lowD (n * e + m * d) (d * e)) (evd_callD (ds := [.int (n * e + m * d), .int (d * e)]) (ead_cons (evd_of (ev_add (ev_IC (C := CMulW) (g := fun i j => .int (i * j)) (ev_int (evd_ixT (i := 0) (X rfl (Ex.refl H)) Evl.ev_c rfl)) (ev_int (evd_ixT (i := 1) (Y rfl (Ex.refl H)) Evl.ev_c rfl)) (W n2 e2))
      (ev_IC (C := CMulW) (g := fun i j => .int (i * j)) (ev_int (evd_ixT (i := 0) (Y rfl (Ex.refl H)) Evl.ev_c rfl)) (ev_int (evd_ixT (i := 1) (X rfl (Ex.refl H)) Evl.ev_c rfl)) (W m2 d2))) fun _ => .int _)
    (ead_cons (evd_of (ev_IC (C := CMulW) (g := fun i j => .int (i * j)) (ev_int (evd_ixT (i := 1) (X rfl (Ex.refl H)) Evl.ev_c rfl)) (ev_int (evd_ixT (i := 1) (Y rfl (Ex.refl H)) Evl.ev_c rfl)) (W d2 e2)) fun _ => .int _) ead_nil)) rfl ⟨_, _, rfl, Int.mul_pos (by omega) (by omega), by omega⟩) fun v H2 e2 hv => q v H2 e2 hv
end
end K00
end

section
set_option Elab.async false
set_option linter.all false
set_option maxRecDepth 100000
set_option maxHeartbeats 4000000
/-! tables of a polynomial; by an AI agent -/
namespace K00
open PySem PySem.Spec L2 RX
open Evl (Ex Ev EvT EvA EvL EvU RV RC)
/-- a small letter -/
def LB (l : PyData) : Prop := ∃ (s : Str) (i : Int), l = .tuple [.str s, .int i] ∧ isNameL s.cps.toList = true ∧ 0 ≤ i ∧ i ≤ 20
theorem LB.letter {l : PyData} (h : LB l) : isLetterD l = true := by
  obtain ⟨s, i, rfl, h1, h2, _⟩ := h
  show (isNameL s.cps.toList && decide (0 ≤ i)) = true
  rw [h1, decide_eq_true h2]; rfl
/-- a small monomial -/
def MB (n : Nat) (x : PyData) : Prop := isMonoD x = true ∧ ∃ ds, x = .tuple ds ∧ ds.length ≤ n ∧ ∀ p ∈ ds, LB (firstD p) ∧ ∃ e : Int, p = .tuple [firstD p, .int e] ∧ e ≤ 3 * 4 ^ n
theorem keyAll_parts : ∀ {ds : List PyData}, ds.all partOkD = true → keyAllD ds = true
  | [], _ => by rw [keyAllD]
  | d :: ds, h => by
    rw [List.all_cons, Bool.and_eq_true] at h
    obtain ⟨s, i, x, rfl, _⟩ := part_shape h.1
    rw [keyAllD, keyAll_parts h.2]
    simp [keyD, keyAllD]
theorem key_mono {d : PyData} (h : isMonoD d = true) : keyD d = true := by
  obtain ⟨ds, rfl, hd⟩ := mono_shape h
  rw [keyD]
  exact keyAll_parts hd
theorem key_letter {d : PyData} (h : isLetterD d = true) : keyD d = true := by
  obtain ⟨s, i, rfl, _⟩ := letter_shape h
  simp [keyD, keyAllD]
theorem MB.le {n m : Nat} {x : PyData} (h : MB n x) (le : n ≤ m) : MB m x := by
  obtain ⟨h1, ds, rfl, h2, h3⟩ := h
  refine ⟨h1, ds, rfl, by omega, fun p hp => ⟨(h3 p hp).1, ?_⟩⟩
  obtain ⟨_, e, he, hb⟩ := h3 p hp
  have hp : (4 : Int) ^ n ≤ 4 ^ m := by
    have h := Nat.pow_le_pow_right (show 0 < 4 by decide) le
    have e1 : (4 : Int) ^ n = ((4 ^ n : Nat) : Int) := by simp
    have e2 : (4 : Int) ^ m = ((4 ^ m : Nat) : Int) := by simp
    rw [e1, e2]
    exact Int.ofNat_le.mpr h
  exact ⟨e, he, by omega⟩
/-- a value of the table -/
def FV (K : PySem.W.Frag) (H : Hp) (kb : Nat) (v : V) : Prop := ∃ x, Dp K H v x ∧ FB kb x ∧ isZeroD x = false
/-- the entries of a polynomial -/
structure PE' (K : PySem.W.Frag) (H : Hp) (kvs : List Ent) (kb n : Nat) : Prop where
  ko : KeysOk K H kvs
  nd : (kvs.map (·.1)).Nodup
  len : kvs.length ≤ n
  mono : ∀ e ∈ kvs, MB 3 e.1.data
  val : ∀ e ∈ kvs, FV K H kb e.2.2
theorem PE'.ds {K : PySem.W.Frag} {H H' : Hp} {kvs : List Ent} {kb n : Nat} (s : DS K H H') (h : PE' K H kvs kb n) : PE' K H' kvs kb n :=
  ⟨keysOk_ds s h.ko, h.nd, h.len, h.mono, fun e he => by obtain ⟨x, a, b⟩ := h.val e he; exact ⟨x, s.dp a, b⟩⟩
theorem PE'.le {K : PySem.W.Frag} {H : Hp} {kvs : List Ent} {kb n kc m : Nat} (h : PE' K H kvs kb n) (l1 : kb ≤ kc) (l2 : n ≤ m) : PE' K H kvs kc m :=
  ⟨h.ko, h.nd, by have := h.len; omega, h.mono, fun e he => by obtain ⟨x, a, b, c⟩ := h.val e he; exact ⟨x, a, b.mono l1, c⟩⟩
theorem PE'.nil {K : PySem.W.Frag} {H : Hp} {kb : Nat} : PE' K H [] kb 0 := ⟨(fun _ h => nomatch h), List.nodup_nil, Nat.le_refl _, (fun _ h => nomatch h), (fun _ h => nomatch h)⟩
theorem PE'.put {K : PySem.W.Frag} {H : Hp} {kvs : List Ent} {kb n : Nat} {k : NestedKey} {b : Addr} {v : V} (h : PE' K H kvs kb n) (hb : Dp K H (.ref b) k.data) (hd : k.depth ≤ 8) (hm : MB 3 k.data) (hv : FV K H kb v) : PE' K H (entPut kvs k b v) kb (n + 1) := by
  have A := entPut_all (kφ := fun k b => (Dp K H (.ref b) k.data ∧ k.depth ≤ 8) ∧ MB 3 k.data) (vφ := FV K H kb) (k := k) (b := b) (v := v) (fun e he => ⟨⟨h.ko e he, h.mono e he⟩, h.val e he⟩) ⟨⟨hb, hd⟩, hm⟩ hv
  exact ⟨fun e he => (A e he).1.1, entPut_keys h.nd, by have := entPut_len kvs k b v; have := h.len; omega, fun e he => (A e he).1.2, fun e he => (A e he).2⟩
theorem PE'.drop {K : PySem.W.Frag} {H : Hp} {kvs : List Ent} {kb n : Nat} (k : NestedKey) (h : PE' K H kvs kb n) : PE' K H (entDrop kvs k) kb n :=
  ⟨fun e he => h.ko e (List.mem_filter.mp he).1, entDrop_keys h.nd, by have := entDrop_len kvs k; have := h.len; omega, fun e he => h.mono e (List.mem_filter.mp he).1, fun e he => h.val e (List.mem_filter.mp he).1⟩
/-- a monomial as a key -/
theorem MB.tup {n : Nat} {k : NestedKey} (h : MB n k.data) : ∃ ds, k.data = .tuple ds := by
  obtain ⟨_, ds, e, _⟩ := h
  exact ⟨ds, e⟩
/-- p + q, where q has one pair -/
def spPlus (P : Program) (w : World) (K : PySem.W.Frag) : Sp := fun vs H Q _ => ∃ (p q : Addr) (kp kq n : Nat) (kvs : List Ent) (e : Ent), vs = [.ref p, .ref q] ∧ H p = some (HD P w p kvs) ∧ PE' K H kvs kp n ∧ H q = some (HD P w q [e]) ∧ PE' K H [e] kq 1 ∧ kp ≤ 3000 ∧ kq ≤ 900 ∧ n ≤ 1000 ∧
  ∀ a kvs' H', Ex H H' → H a = none → H' a = some (HD P w a kvs') → PE' K H' kvs' (kp + kq + 1) (n + 1) → Q (.ref a) H'
end K00
end

section
set_option Elab.async false
set_option linter.all false
set_option maxRecDepth 100000
set_option maxHeartbeats 4000000
/-! the law: sums; by an AI agent -/
namespace K00
open PySem PySem.Spec PyProof.Rows L2 RX
open Evl (Ex Ev EvT EvA EvL EvU RV RC)
section
variable {P : Program} {w : World} {K : PySem.W.Frag} {mg : Str → Option Value} {base : Heap}
theorem fv_ds {H H' : Hp} {kb : Nat} {v : V} (s : DS K H H') (h : FV K H kb v) : FV K H' kb v := by
  obtain ⟨x, a, b⟩ := h
  exact ⟨x, s.dp a, b⟩
theorem fb_zero {kb : Nat} {x : PyData} (h : FB kb x) : ∃ n m : Int, x = .tuple [.int n, .int m] ∧ isZeroD x = decide (n = 0) := by
  obtain ⟨n, m, rfl, _⟩ := h
  exact ⟨n, m, rfl, rfl⟩
abbrev s__law_plus : Stmt := topS 28
theorem sc__law_plus : FnScope ["p", "q", "out", "mono", "found"] ["p", "q"] (defScope s__law_plus) := ⟨rfl, rfl, rfl, by decide +kernel, rfl, by decide +kernel, by decide +kernel⟩
theorem has_law_plus (T : Txt K mg) (D : DefAt K mg "_law_plus" s__law_plus ["p", "q"]) (h_law_fsum : Has P w K mg base 3 "_law_fsum" ["x", "y"] (pSum K)) : Has P w K mg base 4 "_law_plus" ["p", "q"] (spPlus P w K) := by
  refine mk D sc__law_plus (fun vs H Q E h => ?_) (fun f cdv A outer s H vs Q E hr h => ?_)
  · obtain ⟨p, q, kp, kq, n, kvs, e, rfl, _⟩ := h
    rfl
  obtain ⟨p, q, kp, kq, n, kvs, e, rfl, hp, pp, hq, pq, lp, lq, ln, fin⟩ := h
  refine ⟨_, (pss_cons (ps_set (i := 2) sc__law_plus.nd rfl (Or.inl rfl) pe_nnew)
  (pss_cons (ps_lock (ps_for PassesOwn.never rfl (pi_keysN (pv 0)) (pg_name (i := 3) sc__law_plus.nd rfl (Or.inl rfl))
  (pss_one (ps_nput (u9 hr) (pv 2) (pv 3) (pe_nget (u9 hr) (pv 0) (pv 3) (fun _ _ => rfl)) rfl))))
  (pss_cons (ps_lock (ps_for PassesOwn.never rfl (pi_keysN (pv 1)) (pg_name (i := 3) sc__law_plus.nd rfl (Or.inl rfl))
  (pss_cons (ps_set (i := 4) sc__law_plus.nd rfl (Or.inl rfl) (pe_ifExp (pt_cmp (pc_nin (u9 hr) (pv 3) (pv 2))) (ph h_law_fsum (hr.mono (by decide)) (pa_cons (pe_nget (u9 hr) (pv 2) (pv 3) (fun _ _ => rfl)) (pa_cons (pe_nget (u9 hr) (pv 1) (pv 3) (fun _ _ => rfl)) pa_nil))) (pe_nget (u9 hr) (pv 1) (pv 3) (fun _ _ => rfl))))
  (pss_one (ps_if (pt_cmpR op_eq (pe_ix ix_tup (pv 4) pe_int (fun _ _ => rfl)) pe_int (nomark _))
  (pss_one (ps_expr (pe_npop (u9 hr) (pv 2) (pv 3) ⟨rfl, rfl, rfl, rfl⟩)))
  (pss_one (ps_nput (u9 hr) (pv 2) (pv 3) (pv 4) rfl)))))))
  (pss_one (ps_ret (pv 2)))))), ?_⟩
  try dsimp only [tNext, tSeq]
  intro out ho
  have npo : p ≠ out := fun z => by subst z; rw [hp] at ho; cases ho
  have nqo : q ≠ out := fun z => by subst z; rw [hq] at ho; cases ho
  have np : NoSeq H p := .ext hp
  have nq : NoSeq H q := .ext hq
  have no : NoSeq H out := .none ho
  try dsimp only [tNext, tSeq, gName, List.set]
  have hp1 : upd H out (HD P w out []) p = some (HD P w p kvs) := by rw [upd_ne npo]; exact hp
  have pp1 : PE' K H kvs kp n := pp
  refine s_forKN hp1 (fun H1 => Evl.ev_var rfl) (fun o i σ' H' => ∃ (ws : List Ent) (y : Option V), σ' = [some (.ref p), some (.ref q), some (.ref out), y, none] ∧ H' p = some (.frz o (HD P w p kvs)) ∧ H' out = some (HD P w out ws) ∧ Buts [p, out] H H' ∧ PE' K H' ws kp i)
    (fun o H1 e1 => ⟨[], none, rfl, e1 _ _ upd_same, e1 _ _ (by rw [upd_ne npo.symm]; exact upd_same), ?_, PE'.nil⟩) (fun o i σ' H' h => ?_) (fun o i x σ' H' hx h => ?_) (fun o σ' H' h => ?_)
  · intro b u nb hb
    have n1 : b ≠ p := fun z => nb (by rw [z]; exact List.mem_cons_self)
    have n2 : b ≠ out := fun z => nb (by rw [z]; exact List.mem_cons_of_mem _ List.mem_cons_self)
    exact e1 _ _ (by rw [upd_ne n1, upd_ne n2]; exact hb)
  · obtain ⟨ws, y, _, h1, _⟩ := h
    exact h1
  · obtain ⟨ws, y, rfl, h1, h2, h3, h4⟩ := h
    dsimp only [gName, List.set]
    have mx : x ∈ kvs := List.mem_of_getElem? hx
    have ds1 : DS K H H' := h3.ds (fun m hm => by
      rcases List.mem_cons.mp hm with rfl | hm
      · exact np
      · rw [List.mem_singleton.mp hm]; exact no)
    obtain ⟨dk, hdk⟩ := (pp.mono x mx).tup
    have kx := pp.ko x mx
    obtain ⟨fx, fx1, fx2, fx3⟩ := pp.val x mx
    have Km : EvD K (tVar 3) [some (.ref p), some (.ref q), some (.ref out), some (.ref x.2.1), none] H' (.tuple dk) := evd_var rfl (by rw [← hdk]; exact ds1.dp kx.1)
    have li : i < kvs.length := (List.getElem?_eq_some_iff.mp hx).1
    have lk := pp.len
    refine s_nput (x := fx) (evd_at (ev_nget (k := x.1) (Evl.ev_var rfl) Km (.inr ⟨o, h1⟩) (keysOk_ds ds1 pp.ko) hdk kx.2 (entAt_get pp.nd mx)) (ds1.dp fx1)) (Evl.ev_var rfl) Km h2 h4.ko hdk kx.2 (by have := h4.len; omega) fun v b H1 e1 hv hb => ?_
    have n1 : NoSeq H1 out := .ext (e1 _ _ h2)
    have s1 : DS K H1 (upd H1 out (HD P w out (entPut ws x.1 b v))) := DS.upd n1 _
    refine ⟨_, _, rfl, by rw [upd_ne npo]; exact e1 _ _ h1, upd_same, (h3.trans (Buts.of e1)).upd (List.mem_cons_of_mem _ List.mem_cons_self) _, ((h4.ds (DS.of e1)).ds s1).put (s1.dp hb) kx.2 (pp.mono x mx) ⟨fx, s1.dp hv, fx2, fx3⟩⟩
  · obtain ⟨ws, y, rfl, h1, h2, h3, h4⟩ := h
    have lk := pp.len
    have h4 := h4.le (Nat.le_refl _) lk
    -- p is as it was
    have b1 : Buts [out] H (upd H' p (HD P w p kvs)) := by
      intro b u nb hb
      by_cases z : b = p
      · subst z; rw [upd_same, ← hp, hb]
      · rw [upd_ne z]
        exact h3 _ _ (fun m => by
          rcases List.mem_cons.mp m with m | m
          · exact z m
          · exact nb m) hb
    have h2' : upd H' p (HD P w p kvs) out = some (HD P w out ws) := by rw [upd_ne npo.symm]; exact h2
    have h4' : PE' K (upd H' p (HD P w p kvs)) ws kp n := h4.ds (DS.upd (.frz h1) _)
    clear h4 h2 h1 h3
    dsimp only [cxOf, Cx.nox]
    generalize upd H' p (HD P w p kvs) = H2 at b1 h2' h4'
    have hq2 : H2 q = some (HD P w q [e]) := b1 _ _ (fun m => nqo (List.mem_singleton.mp m)) hq
    try dsimp only [tNext, tSeq]
    refine s_forKN hq2 (fun H1 => Evl.ev_var rfl) (fun o i σ' H' => ∃ (ws : List Ent) (y z : Option V), σ' = [some (.ref p), some (.ref q), some (.ref out), y, z] ∧ H' q = some (.frz o (HD P w q [e])) ∧ H' out = some (HD P w out ws) ∧ Buts [q, out] H H' ∧ PE' K H' ws (if i = 0 then kp else kp + kq + 1) (n + i))
      (fun o H1 e1 => ⟨ws, y, none, rfl, e1 _ _ upd_same, e1 _ _ (by rw [upd_ne nqo.symm]; exact h2'), ?_, ((h4'.ds (DS.upd (.ext hq2) _)).ds (DS.of e1))⟩) (fun o i σ' H' h => ?_) (fun o i x σ' H' hx h => ?_) (fun o σ' H' h => ?_)
    · intro b u nb hb
      have n1 : b ≠ q := fun z => nb (by rw [z]; exact List.mem_cons_self)
      exact e1 _ _ (by rw [upd_ne n1]; exact b1 _ _ (fun m => nb (List.mem_cons_of_mem _ m)) hb)
    · obtain ⟨ws, y, z, _, h1, _⟩ := h
      exact h1
    · have i0 : i = 0 := by
        have := (List.getElem?_eq_some_iff.mp hx).1
        have e1 : [e].length = 1 := rfl
        omega
      subst i0
      have ex : e = x := by simpa using hx
      subst ex
      obtain ⟨ws, y, z, rfl, h1, h2, h3, h4⟩ := h
      have h4 : PE' K H' ws kp n := h4
      dsimp only [gName, List.set]
      have mx : e ∈ [e] := List.mem_singleton.mpr rfl
      have ds1 : DS K H H' := h3.ds (fun m hm => by
        rcases List.mem_cons.mp hm with rfl | hm
        · exact nq
        · rw [List.mem_singleton.mp hm]; exact no)
      obtain ⟨dk, hdk⟩ := (pq.mono e mx).tup
      have kx := pq.ko e mx
      obtain ⟨fx, fx1, fx2, fx3⟩ := pq.val e mx
      have Km : ∀ {H2 : Hp} {z : Option V}, Ex H' H2 → EvD K (tVar 3) [some (.ref p), some (.ref q), some (.ref out), some (.ref e.2.1), z] H2 (.tuple dk) := fun e2 => evd_var rfl (dp_ex e2 (by rw [← hdk]; exact ds1.dp kx.1))
      -- what is found
      have found : ∃ x, FB (kp + kq + 1) x ∧ EvD K (tIf (tTest (tNIn P w K (tVar 3) (tVar 2))) (tCall (pSum K) [] E0 (tCons (tNGet P w K (tVar 2) (tVar 3)) (tCons (tNGet P w K (tVar 1) (tVar 3)) tNil))) (tNGet P w K (tVar 1) (tVar 3))) [some (.ref p), some (.ref q), some (.ref out), some (.ref e.2.1), z] H' x ∧ (isZeroD x = true → (entAt ws e.1).isSome = true) := by
        have gq : EvD K (tNGet P w K (tVar 1) (tVar 3)) [some (.ref p), some (.ref q), some (.ref out), some (.ref e.2.1), z] H' fx := evd_at (ev_nget (k := e.1) (Evl.ev_var rfl) (Km (Ex.refl _)) (.inr ⟨o, h1⟩) (keysOk_ds ds1 pq.ko) hdk kx.2 (entAt_get pq.nd mx)) (ds1.dp fx1)
        have tin := Evl.et_test (ev_nin (P := P) (w := w) (K := K) (k := e.1) (σ := [some (.ref p), some (.ref q), some (.ref out), some (.ref e.2.1), z]) (ty := tVar 3) (td := tVar 2) (Km (Ex.refl _)) (Evl.ev_var rfl) (.inl h2) h4.ko hdk kx.2)
        cases hc : entAt ws e.1 with
        | none =>
          rw [hc] at tin
          exact ⟨fx, fx2.mono (by omega), evd_if (b := false) tin (fun z => nomatch z) (fun _ => gq), fun z => by rw [fx3] at z; cases z⟩
        | some cv =>
          rw [hc] at tin
          obtain ⟨fy, fy1, fy2, fy3⟩ := h4.val _ (entAt_mem hc)
          have go : EvD K (tNGet P w K (tVar 2) (tVar 3)) [some (.ref p), some (.ref q), some (.ref out), some (.ref e.2.1), z] H' fy := evd_at (ev_nget (k := e.1) (Evl.ev_var rfl) (Km (Ex.refl _)) (.inl h2) h4.ko hdk kx.2 hc) fy1
          exact ⟨sumD fy fx, sum_ok fy2 fx2, evd_if (b := true) tin (fun _ => evd_callD (ds := [fy, fx]) (ead_cons go (ead_cons gq ead_nil)) rfl ⟨fy, fx, rfl, fy2.mono (by omega), fx2.mono (by omega)⟩) (fun z => nomatch z), fun _ => rfl⟩
      obtain ⟨x, hx1, hx2, hx3⟩ := found
      try dsimp only [tNext, tSeq]
      refine s_asgD hx2 fun vx H1 e1 hvx => ?_
      obtain ⟨nn, mm, rfl, hz⟩ := fb_zero hx1
      try dsimp only [tNext, tSeq, List.set]
      have ds2 : DS K H' H1 := DS.of e1
      have h2' := e1 _ _ h2
      refine Evl.s_if (b := decide (V.int nn = V.int 0)) (Evl.et_test (Evl.ev_op (ev_int (evd_ixT (i := 0) (evd_var rfl hvx) Evl.ev_c rfl)) Evl.ev_c (Evl.rv_eq rfl))) (fun hb H2 e2 => ?_) (fun hb H2 e2 => ?_)
      · have n0 : nn = 0 := V.int.inj (of_decide_eq_true hb)
        have z1 : isZeroD (.tuple [.int nn, .int mm]) = true := by rw [hz, n0]; rfl
        obtain ⟨cv, hc⟩ := Option.isSome_iff_exists.mp (hx3 z1)
        have h2q := e2 _ _ h2'
        refine m_npop (c := cv.1) (v := cv.2) (Evl.ev_var rfl) (Km (e1.trans e2)) h2q (h4.ds (DS.of (e1.trans e2))).ko hdk kx.2 hc fun H3 e3 => ?_
        have E := (e1.trans e2).trans e3
        have n1 : NoSeq H3 out := .ext (E _ _ h2)
        refine ⟨_, _, _, rfl, by rw [upd_ne nqo]; exact E _ _ h1, upd_same, (h3.trans (Buts.of E)).upd (List.mem_cons_of_mem _ List.mem_cons_self) _, (((h4.ds (DS.of E)).ds (DS.upd n1 _)).drop _).le ?_ (by omega)⟩
        rw [if_neg (by omega)]
        omega
      · have n0 : nn ≠ 0 := fun z => by rw [z] at hb; simp at hb
        have z1 : isZeroD (.tuple [.int nn, .int mm]) = false := by rw [hz]; exact decide_eq_false n0
        have h2q := e2 _ _ h2'
        refine s_nput (x := .tuple [.int nn, .int mm]) (evd_var rfl (dp_ex e2 hvx)) (Evl.ev_var rfl) (Km (e1.trans e2)) h2q (h4.ds (DS.of (e1.trans e2))).ko hdk kx.2 (by have := h4.len; omega) fun v b H3 e3 hv hb' => ?_
        have E := (e1.trans e2).trans e3
        have n1 : NoSeq H3 out := .ext (E _ _ h2)
        have s1 : DS K H3 (upd H3 out (HD P w out (entPut ws e.1 b v))) := DS.upd n1 _
        refine ⟨_, _, _, rfl, by rw [upd_ne nqo]; exact E _ _ h1, upd_same, (h3.trans (Buts.of E)).upd (List.mem_cons_of_mem _ List.mem_cons_self) _, ?_⟩
        rw [if_neg (by omega)]
        exact (((h4.ds (DS.of E)).ds s1).le (by omega) (Nat.le_refl _)).put (s1.dp hb') kx.2 (pq.mono e mx) ⟨_, s1.dp hv, hx1, z1⟩
    · obtain ⟨ws, y, z, rfl, h1, h2, h3, h4⟩ := h
      have b2 : Buts [out] H (upd H' q (HD P w q [e])) := by
        intro b u nb hb
        by_cases z : b = q
        · subst z; rw [upd_same, ← hq, hb]
        · rw [upd_ne z]
          exact h3 _ _ (fun m => by
            rcases List.mem_cons.mp m with m | m
            · exact z m
            · exact nb m) hb
      have h2' : upd H' q (HD P w q [e]) out = some (HD P w out ws) := by rw [upd_ne nqo.symm]; exact h2
      have h4' : PE' K (upd H' q (HD P w q [e])) ws (kp + kq + 1) (n + 1) := h4.ds (DS.upd (.frz h1) _)
      refine Evl.s_ret (v := .ref out) (Evl.ev_var rfl) fun H2 e2 => fin out ws H2 (fun b u hb => e2 _ _ (b2 _ _ (fun m => ?_) hb)) ho (e2 _ _ h2') (h4'.ds (DS.of e2))
      rw [List.mem_singleton.mp m, ho] at hb
      cases hb
end
end K00
end

section
set_option Elab.async false
set_option linter.all false
set_option maxRecDepth 100000
set_option maxHeartbeats 4000000
/-! monomials and polynomials from tables; by an AI agent -/
namespace K00
open PySem PySem.Spec L2 RX
open Evl (Ex)
theorem asc_strict {l : List PyData} (h : Strict l) : ascD l = true := by
  refine asc_true fun k hk => ?_
  have e1 : l.getD k .none = l[k]'(by omega) := by rw [List.getD_eq_getElem?_getD, List.getElem?_eq_getElem (by omega)]; rfl
  have e2 : l.getD (k + 1) .none = l[k + 1]'hk := by rw [List.getD_eq_getElem?_getD, List.getElem?_eq_getElem hk]; rfl
  rw [e1, e2]
  exact List.pairwise_iff_getElem.mp h k (k + 1) (by omega) hk (by omega)
theorem strict_asc : ∀ {l : List PyData}, ascD l = true → Strict l := by
  intro l h
  unfold Strict
  rw [List.pairwise_iff_getElem]
  have step : ∀ k (h1 : k + 1 < l.length), PySem.W.dataLt (l[k]'(by omega)) (l[k + 1]'h1) = true := by
    intro k h1
    unfold ascD at h
    rw [List.all_eq_true] at h
    have q := h k (List.mem_range.mpr (by omega))
    have e1 : l.getD k .none = l[k]'(by omega) := by rw [List.getD_eq_getElem?_getD, List.getElem?_eq_getElem (by omega)]; rfl
    have e2 : l.getD (k + 1) .none = l[k + 1]'h1 := by rw [List.getD_eq_getElem?_getD, List.getElem?_eq_getElem h1]; rfl
    rw [e1, e2] at q
    exact q
  intro i j hi hj hij
  induction j with
  | zero => omega
  | succ j ih =>
    by_cases e : i = j
    · subst e; exact step i hj
    · exact dataLt_trans (ih (by omega) (by omega)) (step j hj)
theorem LB.key {l : PyData} (h : LB l) : ∃ ds, l = .tuple ds ∧ keyD l = true ∧ l.depth = 1 := by
  obtain ⟨s, i, rfl, h1, h2, h3⟩ := h
  exact ⟨_, rfl, by simp [keyD, keyAllD], by simp [PyData.depth, PyData.depthAll]⟩
theorem sorts_letters {ds : List PyData} (h : ∀ d ∈ ds, isLetterD d = true) : SortsD ds := by
  refine ⟨fun d hd e he => alike_letters (h d hd) (h e he), .inl fun d hd => ?_, fun d hd => by rw [depth_letter (h d hd)]; omega⟩
  obtain ⟨s, i, rfl, _⟩ := letter_shape (h d hd)
  exact ⟨_, rfl⟩
theorem sorts_monos {ds : List PyData} (h : ∀ d ∈ ds, isMonoD d = true) : SortsD ds := by
  refine ⟨fun d hd e he => alike_monos (h d hd) (h e he), .inl fun d hd => ?_, fun d hd => by have := depth_mono (h d hd); omega⟩
  obtain ⟨r, rfl, _⟩ := mono_shape (h d hd)
  exact ⟨_, rfl⟩
/-- a monomial from letters in strict order -/
theorem mono_of {ls : List PyData} {f : PyData → Int} {n : Nat} (hs : Strict ls) (hl : ∀ l ∈ ls, LB l) (hf : ∀ l ∈ ls, 1 ≤ f l ∧ f l ≤ 3 * 4 ^ n) (hn : ls.length ≤ n) : MB n (.tuple (ls.map fun l => .tuple [l, .int (f l)])) := by
  refine ⟨?_, _, rfl, by rw [List.length_map]; exact hn, fun p hp => ?_⟩
  · show (List.all _ partOkD && ascD _) = true
    rw [Bool.and_eq_true]
    refine ⟨List.all_eq_true.mpr fun p hp => ?_, ?_⟩
    · obtain ⟨l, hl', rfl⟩ := List.mem_map.mp hp
      show (isLetterD l && isCountD 1 (.int (f l))) = true
      rw [(hl l hl').letter]
      exact decide_eq_true (hf l hl').1
    · rw [List.map_map]
      have : (firstD ∘ fun l => PyData.tuple [l, .int (f l)]) = id := rfl
      rw [this, List.map_id]
      exact asc_strict hs
  · obtain ⟨l, hl', rfl⟩ := List.mem_map.mp hp
    exact ⟨hl l hl', f l, rfl, (hf l hl').2⟩
/-- a polynomial from monomials in strict order -/
theorem poly_of {ms : List PyData} {f : PyData → PyData} (hs : Strict ms) (hm : ∀ m ∈ ms, isMonoD m = true) (hf : ∀ m ∈ ms, isFracD (f m) = true ∧ isZeroD (f m) = false) : isPolyD (.tuple (ms.map fun m => .tuple [m, f m])) = true := by
  show (List.all _ termOkD && ascD _) = true
  rw [Bool.and_eq_true]
  refine ⟨List.all_eq_true.mpr fun p hp => ?_, ?_⟩
  · obtain ⟨m, hm', rfl⟩ := List.mem_map.mp hp
    show (isMonoD m && isFracD (f m) && !isZeroD (f m)) = true
    rw [hm m hm', (hf m hm').1, (hf m hm').2]; rfl
  · rw [List.map_map]
    have : (firstD ∘ fun m => PyData.tuple [m, f m]) = id := rfl
    rw [this, List.map_id]
    exact asc_strict hs
/-- the entries of a table of letters -/
structure LE' (K : PySem.W.Frag) (H : Hp) (kvs : List Ent) (n : Nat) : Prop where
  ko : KeysOk K H kvs
  nd : (kvs.map (·.1)).Nodup
  len : kvs.length ≤ n
  lets : ∀ e ∈ kvs, LB e.1.data
theorem LE'.ds {K : PySem.W.Frag} {H H' : Hp} {kvs : List Ent} {n : Nat} (s : DS K H H') (h : LE' K H kvs n) : LE' K H' kvs n := ⟨keysOk_ds s h.ko, h.nd, h.len, h.lets⟩
theorem LE'.nil {K : PySem.W.Frag} {H : Hp} : LE' K H [] 0 := ⟨(fun _ h => nomatch h), List.nodup_nil, Nat.le_refl _, (fun _ h => nomatch h)⟩
theorem LE'.put {K : PySem.W.Frag} {H : Hp} {kvs : List Ent} {n : Nat} {k : NestedKey} {b : Addr} {v : V} (h : LE' K H kvs n) (hb : Dp K H (.ref b) k.data) (hd : k.depth ≤ 8) (hm : LB k.data) : LE' K H (entPut kvs k b v) (n + 1) := by
  have A := entPut_all (kφ := fun k b => (Dp K H (.ref b) k.data ∧ k.depth ≤ 8) ∧ LB k.data) (vφ := fun _ => True) (k := k) (b := b) (v := v) (fun e he => ⟨⟨h.ko e he, h.lets e he⟩, trivial⟩) ⟨⟨hb, hd⟩, hm⟩ trivial
  exact ⟨fun e he => (A e he).1.1, entPut_keys h.nd, by have := entPut_len kvs k b v; have := h.len; omega, fun e he => (A e he).1.2⟩
theorem keyData_nodup {kvs : List Ent} (h : (kvs.map (·.1)).Nodup) : (keyData kvs).Nodup := by
  have e : keyData kvs = (kvs.map (·.1)).map NestedKey.data := by rw [List.map_map]; rfl
  rw [e]
  exact List.Pairwise.map _ (fun a b n z => n (data_inj z)) h
end K00
end

section
set_option Elab.async false
set_option linter.all false
set_option maxRecDepth 100000
set_option maxHeartbeats 4000000
/-! the law: monomials, forms; by an AI agent -/
namespace K00
open PySem PySem.Spec PyProof.Rows L2 RX
open Evl (Ex Ev EvT EvA EvL EvU RV RC)
section
variable {K : PySem.W.Frag} {σ : L2.St} {H : Hp} {tl : TE} {ds : List PyData} {g : TG} {tb : TS} {D : Ends}
/-- for x in t, t data -/
theorem s_forTD (h : EvD K tl σ H (.tuple ds)) (Pv : Hp → Nat → L2.St → Hp → Prop) (h0 : ∀ H1, Ex H H1 → Pv H1 0 σ H1) (hd : ∀ H1 i σ' H', Pv H1 i σ' H' → DS K H1 H')
    (hs : ∀ H1 i x d σ' H', Ex H H1 → ds[i]? = some d → Dp K H' x d → Pv H1 i σ' H' → g x σ' H' fun σ2 H2 => tb { D with nx := Pv H1 (i + 1), ct := Pv H1 (i + 1), bk := D.nx } σ2 H2) (he : ∀ H1 σ' H', Ex H H1 → Pv H1 ds.length σ' H' → D.nx σ' H') :
    tFor (iTup K tl) g tb D σ H := h H (Ex.refl H) _ fun v H1 e1 hv => by
  obtain ⟨a, xs, rfl, sa, da⟩ := dp_tup hv
  refine ⟨a, rfl, ⟨xs, sa⟩, for_tup (Pv H1) (h0 H1 e1) (fun i σ' H' _ p => (hd _ _ _ _ p).t _ _ sa) (fun i x σ' H' hx p => ?_) (fun σ' H' p => he H1 σ' H' e1 (by rw [← dpAll_len da]; exact p))⟩
  obtain ⟨d, g1, g2⟩ := dpAll_getV da hx
  exact hs H1 i x d σ' H' e1 g1 ((hd _ _ _ _ p).dp g2) p
/-- a, b = pair -/
theorem g_pair {i j : Nat} {v : V} {a b : PyData} {Q : L2.St → Hp → Prop} (hv : Dp K H v (.tuple [a, b])) (q : ∀ x y, Dp K H x a → Dp K H y b → Q ((σ.set i (some x)).set j (some y)) H) : gTup K 2 (gCons (gName i) (gCons (gName j) gNil)) v σ H Q := by
  obtain ⟨p, xs, rfl, sa, da⟩ := dp_tup hv
  obtain ⟨x, y, rfl, hx, hy⟩ := dpAll2 da
  exact ⟨p, _, rfl, sa, rfl, x, _, rfl, y, _, rfl, rfl, q x y hx hy⟩
end
def vI : V → Int
  | .int i => i
  | _ => 0
def valI (kvs : List Ent) (d : PyData) : Int := match entAt kvs (nk d) with | some p => vI p.2 | none => 0
/-- a * l ^ e -/
def spMono (K : PySem.W.Frag) : Sp := fun vs H Q _ => ∃ (n : Nat) (a l : PyData) (e : Int), DpAll K H vs [a, .tuple [.tuple [l, .int e]]] ∧ n ≤ 2 ∧ MB n a ∧ LB l ∧ 1 ≤ e ∧ e ≤ 3 ∧ ∀ v x H', Ex H H' → Dp K H' v x → MB (n + 1) x → Q v H'
def formD (kvs : List Ent) (g : PyData → PyData) : PyData := .tuple ((sortD (keyData kvs)).map fun m => .tuple [m, g m])
/-- the polynomial of a table -/
def spForm (P : Program) (w : World) (K : PySem.W.Frag) : Sp := fun vs H Q _ => ∃ (p : Addr) (kvs : List Ent) (kb n : Nat) (g : PyData → PyData), vs = [.ref p] ∧ H p = some (HD P w p kvs) ∧ PE' K H kvs kb n ∧ n ≤ 1000 ∧ (∀ e ∈ kvs, Dp K H e.2.2 (g e.1.data) ∧ keyD (g e.1.data) = true) ∧
  ∀ v H', Ex H H' → Dp K H' v (formD kvs g) → Q v H'
section
variable {P : Program} {w : World} {K : PySem.W.Frag} {mg : Str → Option Value} {base : Heap}
abbrev s__law_mono : Stmt := topS 29
theorem sc__law_mono : FnScope ["a", "b", "table", "one", "e"] ["a", "b"] (defScope s__law_mono) := ⟨rfl, rfl, rfl, by decide +kernel, rfl, by decide +kernel, by decide +kernel⟩
theorem has_law_mono (T : Txt K mg) (D : DefAt K mg "_law_mono" s__law_mono ["a", "b"]) : Has P w K mg base 1 "_law_mono" ["a", "b"] (spMono K) := by
  refine mk D sc__law_mono (fun vs H Q E h => ?_) (fun f cdv A outer s H vs Q E hr h => ?_)
  · obtain ⟨n, a, l, e, h, _⟩ := h
    rw [dpAll_len h]; rfl
  obtain ⟨n, a, l, ex, hd, hn, ⟨ma, da, rfl, la, lba⟩, hl, he, he3, fin⟩ := h
  have hB : (3 : Int) ≤ 3 * 4 ^ n := by
    have : (0 : Int) < 4 ^ n := Int.pow_pos (by decide)
    omega
  generalize hBe : (3 : Int) * 4 ^ n = B at hB lba
  obtain ⟨v1, v2, rfl, hv1, hv2⟩ := dpAll2 hd
  refine ⟨_, (pss_cons (ps_set (i := 2) sc__law_mono.nd rfl (Or.inr rfl) pe_nnew)
  (pss_cons (ps_for PassesOwn.never rfl (pi_tup (pe_op op_catA (pv 0) (pv 1))) (pg_tup rfl (pgs_cons (pg_name (i := 3) sc__law_mono.nd rfl (Or.inl rfl)) (pgs_cons (pg_name (i := 4) sc__law_mono.nd rfl (Or.inl rfl)) pgs_nil)))
  (pss_one (ps_nput (u9 hr) (pv 2) (pv 3) (pe_op op_add (pe_nget2 (u9 hr) (pv 2) (pv 3) pe_int ⟨rfl, rfl, rfl, rfl⟩) (pv 4)) rfl)))
  (pss_one (ps_ret (pe_callTy call_tuple_of (by rfl) T.tuple (by decide +kernel) (pa_cons (pe_lc (own := [("one", 3)]) (g := gName 3) (tt := tYes) rfl sc__law_mono.nd (pi_list (pe_callB (call_sortedN (u45 hr)) (by rfl) T.sorted (by decide +kernel) (pa_cons (pe_callTy (call_listN rfl) (by rfl) T.list (by decide +kernel) (pa_cons (pv 2) pa_nil)) pa_nil))) (blkOk_by (own := [("one", 3)]) (N := ["a", "b", "table", "one", "e"]) (sc := defScope s__law_mono) (by decide +kernel)) (fun _ _ _ _ _ => (pg_name (i := 3) sc__law_mono.nd rfl (Or.inl rfl))) (fun _ _ _ _ _ => pts_nil) (fun _ _ _ _ _ => (pe_tup (pa_cons (pv 3) (pa_cons (pe_ngetK P w K rfl rfl rfl (u9 hr) (pv 2) (pv 3) (fun _ _ => rfl)) pa_nil))))) pa_nil)))))), ?_⟩
  dsimp only [cxOf, Cx.nox]
  try dsimp only [tNext, tSeq]
  intro tab ht
  have E0 : Ex H (upd H tab (HD P w tab [])) := Ex.new ht
  try dsimp only [tNext, tSeq, gName, List.set]
  have pda : ∀ p ∈ da, ∃ l, ∃ e : Int, p = .tuple [l, .int e] ∧ LB l ∧ 1 ≤ e ∧ e ≤ B := by
    intro p hp
    have h1 : (List.all da partOkD && ascD (da.map firstD)) = true := ma
    rw [Bool.and_eq_true, List.all_eq_true] at h1
    obtain ⟨s, i, e, rfl, _, he⟩ := part_shape (h1.1 p hp)
    obtain ⟨hl1, e', hl2, hl3⟩ := lba _ hp
    have : e = e' := by simpa [firstD] using hl2
    exact ⟨_, e, rfl, hl1, he, by rw [this]; exact hl3⟩
  refine s_forTD (ds := da ++ [.tuple [l, .int ex]]) (evd_cat (evd_var rfl (dp_ex E0 hv1)) (evd_var rfl (dp_ex E0 hv2)) (by show da.length + 1 ≤ 100000; omega))
    (fun H1 i σ' H' => ∃ (ws : List Ent) (y z : Option V), σ' = [some v1, some v2, some (.ref tab), y, z] ∧ DS K H1 H' ∧ H' tab = some (HD P w tab ws) ∧ Buts [tab] H H' ∧ LE' K H' ws i ∧ ∀ e ∈ ws, ∃ j : Int, e.2.2 = .int j ∧ 1 ≤ j ∧ j ≤ i * B)
    (fun H1 e1 => ⟨[], none, none, rfl, DS.refl, e1 _ _ upd_same, Buts.of (E0.trans e1), LE'.nil, fun _ z => nomatch z⟩) (fun H1 i σ' H' h => ?_) (fun H1 i x d σ' H' e1 hx hv h => ?_) (fun H1 σ' H' e1 h => ?_)
  · obtain ⟨ws, y, z, _, h, _⟩ := h
    exact h
  · obtain ⟨ws, y, z, rfl, h1, h2, h3, h4, h5⟩ := h
    have lx : i < da.length + 1 := by
      have := (List.getElem?_eq_some_iff.mp hx).1
      rw [List.length_append] at this
      exact this
    have hp : ∃ l, ∃ e : Int, d = .tuple [l, .int e] ∧ LB l ∧ 1 ≤ e ∧ e ≤ B := by
      rcases List.mem_append.mp (List.mem_of_getElem? hx) with m | m
      · exact pda d m
      · rw [List.mem_singleton.mp m]; exact ⟨l, ex, rfl, hl, he, by omega⟩
    obtain ⟨l', e', rfl, hl', he', heB⟩ := hp
    have iB : (0 : Int) ≤ i * B := Int.mul_nonneg (by omega) (by omega)
    have iS : ((i + 1 : Nat) : Int) * B = i * B + B := by rw [Int.natCast_add, Int.add_mul]; simp
    refine g_pair hv fun x1 x2 hx1 hx2 => ?_
    cases dp_int hx2
    obtain ⟨dk, rfl, kk, kd⟩ := hl'.key
    have hk : (nk (.tuple dk)).data = .tuple dk := data_nk _ kk
    have hdp : (nk (.tuple dk)).depth ≤ 8 := by have := nk_depth (.tuple dk); omega
    dsimp only [gName, List.set]
    have Kx : EvD K (tVar 3) [some v1, some v2, some (.ref tab), some x1, some (.int e')] H' (.tuple dk) := evd_var rfl hx1
    have got : ∃ j : Int, ((entAt ws (nk (.tuple dk))).map (·.2)).getD (.int 0) = .int j ∧ 0 ≤ j ∧ j ≤ i * B := by
      cases hc : entAt ws (nk (.tuple dk)) with
      | none => exact ⟨0, rfl, by omega, iB⟩
      | some cv =>
        obtain ⟨j, hj, hj1, hj2⟩ := h5 _ (entAt_mem hc)
        exact ⟨j, hj, by omega, hj2⟩
    obtain ⟨j, hj, hj0, hjB⟩ := got
    have gv := ev_nget2 (P := P) (w := w) (K := K) (k := nk (.tuple dk)) (σ := [some v1, some v2, some (.ref tab), some x1, some (.int e')]) (td := tVar 2) (ty := tVar 3) (tx := tC (.int 0)) (z := .int 0) (Evl.ev_var rfl) Kx Evl.ev_c (.inl h2) h4.ko hk hdp
    rw [hj] at gv
    refine s_nput (x := .int (j + e')) (evd_of (ev_add gv (Evl.ev_var rfl)) fun _ => .int _) (Evl.ev_var rfl) Kx h2 h4.ko hk hdp (by have := h4.len; omega) fun v b H2 e2 hv' hb => ?_
    have n1 : NoSeq H2 tab := .ext (e2 _ _ h2)
    have s1 : DS K H2 (upd H2 tab (HD P w tab (entPut ws (nk (.tuple dk)) b v))) := DS.upd n1 _
    refine ⟨_, _, _, rfl, (h1.trans (DS.of e2)).trans s1, upd_same, (h3.trans (Buts.of e2)).upd (List.mem_singleton.mpr rfl) _, ((h4.ds (DS.of e2)).ds s1).put (s1.dp hb) hdp (by rw [hk]; exact hl'), ?_⟩
    have A := entPut_all (kφ := fun _ _ => True) (vφ := fun v => ∃ j : Int, v = .int j ∧ 1 ≤ j ∧ j ≤ ((i + 1 : Nat) : Int) * B) (k := nk (.tuple dk)) (b := b) (v := v) (fun e he => ⟨trivial, by obtain ⟨q, q1, q2, q3⟩ := h5 e he; exact ⟨q, q1, q2, by omega⟩⟩) trivial ⟨j + e', dp_int hv', by omega, by omega⟩
    exact fun e he => (A e he).2
  · obtain ⟨ws, y, z, rfl, h1, h2, h3, h4, h5⟩ := h
    have E3 : Ex H H' := fun b u hb => h3 b u (fun m => by rw [List.mem_singleton.mp m, ht] at hb; cases hb) hb
    have ll : ws.length ≤ n + 1 := by
      have := h4.len
      rw [List.length_append] at this
      exact Nat.le_trans this (Nat.add_le_add_right la 1)
    have lets : ∀ d ∈ keyData ws, LB d := fun d hd' => by
      obtain ⟨e, he, rfl⟩ := List.mem_map.mp hd'
      exact h4.lets e he
    have so := sorts_letters fun d hd' => (lets d hd').letter
    have vals : ∀ d ∈ keyData ws, ∃ c, entAt ws (nk d) = some (c, .int (valI ws d)) ∧ 1 ≤ valI ws d ∧ valI ws d ≤ 3 * 4 ^ (n + 1) := fun d hd' => by
      obtain ⟨e, he, rfl⟩ := List.mem_map.mp hd'
      have g1 := entAt_get h4.nd he
      obtain ⟨i, hi, hi1, hi2⟩ := h5 e he
      have hi3 : i ≤ 3 * 4 ^ (n + 1) := by
        have e1 : (3 : Int) * 4 ^ (n + 1) = 4 * B := by rw [Int.pow_succ, ← hBe]; omega
        rw [e1]
        have e2 : (((da ++ [PyData.tuple [l, .int ex]]).length : Nat) : Int) * B ≤ 4 * B := Int.mul_le_mul_of_nonneg_right (by rw [List.length_append]; show ((da.length + 1 : Nat) : Int) ≤ 4; omega) (by omega)
        omega
      have g2 : entAt ws (nk e.1.data) = some e.2 := by rw [nk_data]; exact g1
      have g3 : valI ws e.1.data = i := by
        unfold valI
        rw [g2]
        show vI e.2.2 = i
        rw [hi]; rfl
      exact ⟨e.2.1, by rw [g2, g3, ← hi], by rw [g3]; exact hi1, by rw [g3]; exact hi3⟩
    have res := mono_of (f := valI ws) (n := n + 1) (sortD_strict (keyData_nodup h4.nd) so.alike) (fun l hl => lets l (sortD_mem.mp hl)) (fun l hl => by obtain ⟨c, _, h⟩ := vals l (sortD_mem.mp hl); exact h) (by rw [sortD_len, List.length_map]; exact ll)
    try dsimp only [tNext, tSeq]
    refine s_retD (evd_tupOf (evd_lcL (f := fun l => .tuple [l, .int (valI ws l)]) (evd_sorted (evd_keys (Evl.ev_var rfl) (.inl h2) h4.ko) so) (by rw [sortD_len, List.length_map]; omega) (fun d hd' => ?_) (fun x => rfl) (fun x d H2 e2 hd' hx => ?_))) fun v H2 e2 hv => fin v _ H2 (E3.trans e2) hv res
    · obtain ⟨ds, _, hk, _⟩ := (lets d (sortD_mem.mp hd')).key
      simp [keyD, keyAllD, hk]
    · obtain ⟨dk, rfl, kk, kd⟩ := (lets d (sortD_mem.mp hd')).key
      obtain ⟨c, hc, _⟩ := vals _ (sortD_mem.mp hd')
      have hdp : (nk (.tuple dk)).depth ≤ 8 := by have := nk_depth (.tuple dk); omega
      exact evd_tup (ead_cons (evd_var rfl hx) (ead_cons (evd_of (ev_nget (Evl.ev_var rfl) (evd_var rfl hx) (.inl (e2 _ _ h2)) (keysOk_ds (DS.of e2) h4.ko) (data_nk _ kk) hdp hc) fun _ => .int _) ead_nil)) (by show 2 ≤ 100000; omega)
end
end K00
end

section
set_option Elab.async false
set_option linter.all false
set_option maxRecDepth 100000
set_option maxHeartbeats 4000000
/-! the law: forms, names, amounts, fractions; by an AI agent -/
namespace K00
open PySem PySem.Spec PyProof.Rows L2 RX
open Evl (Ex Ev EvT EvA EvL EvU RV RC)
/-- a def that draws at most c times -/
def spM (K : PySem.W.Frag) (c : Nat) (n : Nat) (pre : Hp → List V → Prop) (post : Hp → V → Prop) : Sp := fun vs H Q _ => ∃ (m : Addr) (k : Nat) (rest : List V), vs = .ref m :: rest ∧ rest.length = n ∧ Mst K H m k ∧ k + c ≤ mostK ∧ pre H rest ∧
  ∀ v H', Mst K H' m (k + c) → But m H H' → post H' v → Q v H'
theorem spM_len {K : PySem.W.Frag} {c n : Nat} {pre : Hp → List V → Prop} {post : Hp → V → Prop} {vs : List V} {H : Hp} {Q : VK} {E : XK} (h : spM K c n pre post vs H Q E) : vs.length = n + 1 := by
  obtain ⟨m, k, rest, rfl, hl, _⟩ := h
  rw [List.length_cons, hl]
section
variable {K : PySem.W.Frag} {σ : L2.St} {H : Hp} {ta tb : TE} {D : Ends} {tu : TS}
theorem m_call {c n k : Nat} {pre : Hp → List V → Prop} {post : Hp → V → Prop} {m : Addr} {rest : List V} {tA : TA} {Q : VK} (h : EvA tA σ H (.ref m :: rest)) (hl : rest.length = n) (st : Mst K H m k) (hk : k + c ≤ mostK) (hp : ∀ H1, Ex H H1 → pre H1 rest)
    (q : ∀ v H', Mst K H' m (k + c) → But m H H' → post H' v → Q v H') : tCall (spM K c n pre post) [] E0 tA σ H Q :=
  h H (Ex.refl H) _ fun H1 e1 => by
    rw [List.append_nil]
    exact ⟨m, k, rest, rfl, hl, st.ex e1, hk, hp H1 e1, fun v H' s bt p => q v H' s ((But.of e1).trans bt) p⟩
/-- for _ in range(draw) -/
theorem m_forR {j : Nat} {m : Addr} {b : Int} {k : Nat} (ha : Ev ta σ H (.ref m)) (hb : Ev tb σ H (.int b)) (st : Mst K H m k) (h0 : 0 < b) (h2 : b ≤ 1000) (hk : k < mostK) (Pv : Nat → L2.St → Hp → Prop)
    (hi : ∀ H', Mst K H' m (k + 1) → But m H H' → Pv 0 σ H') (hs : ∀ (i : Nat) σ' H', (i : Int) + 1 < b → Pv i σ' H' → tu { D with nx := Pv (i + 1), ct := Pv (i + 1), bk := D.nx } (σ'.set j (some (.int (i : Int)))) H') (hd : ∀ (i : Nat) σ' H', (i : Int) < b → Pv i σ' H' → D.nx σ' H') :
    tFor (iRng1 (tCons (tCall (spDraw K) [] E0 (tCons ta (tCons tb tNil))) tNil)) (gName j) tu D σ H := by
  refine m_draw ha hb st h0 (Nat.lt_of_le_of_lt (m := 1000) (by omega) (by decide)) hk fun r H1 r0 r1 s1 bt => ?_
  refine ⟨r, rfl, by omega, by omega, for_range (lo := 0) (n := r.toNat) Pv (hi H1 s1 bt) (fun i σ' H' hi' p => ?_) (fun σ' H' p => hd r.toNat σ' H' (by omega) p)⟩
  have e0 : (0 : Int) + (i : Int) = (i : Int) := Int.zero_add _
  show tu { D with nx := Pv (i + 1), ct := Pv (i + 1), bk := D.nx } (σ'.set j (some (.int ((0 : Int) + (i : Int))))) H'
  rw [e0]
  exact hs i σ' H' (by omega) p
end
def isNameV (v : V) : Prop := ∃ s : Str, v = .str s ∧ isNameL s.cps.toList = true
def noRest (_ : Hp) (_ : List V) : Prop := True
abbrev pNameM (K : PySem.W.Frag) : Sp := spM K 16 0 noRest fun _ v => isNameV v
abbrev pAmt (K : PySem.W.Frag) : Sp := spM K 2 0 noRest fun _ v => ∃ i : Int, v = .int i ∧ i.natAbs < 2 ^ 134
abbrev pFra (K : PySem.W.Frag) : Sp := spM K 8 0 noRest fun H v => FV K H 139 v
theorem rng_lt {r b : Int} {n : Nat} (h0 : 0 ≤ r) (h1 : r < b) (h : b = (n : Int)) : r.toNat < n := by omega
theorem small_at (r : Int) (h0 : 0 ≤ r) (h1 : r < 26) : ∃ c, atI smallS.cps.toList r = some c ∧ isSmall c = true := by
  have e : r = ((r.toNat : Nat) : Int) := by omega
  have hl : smallS.cps.toList.length = 26 := by decide +kernel
  have hlt : r.toNat < smallS.cps.toList.length := by omega
  refine ⟨smallS.cps.toList[r.toNat], ?_, decide_eq_true (List.getElem_mem hlt)⟩
  have h := atI_nat (List.getElem?_eq_getElem hlt)
  rw [← e] at h
  exact h
theorem both_at (r : Int) (h0 : 0 ≤ r) (h1 : r < 36) : ∃ c, atI (smallS ++ digS).cps.toList r = some c ∧ (isSmall c || isDig c) = true := by
  have e : r = ((r.toNat : Nat) : Int) := by omega
  have hl : (smallS ++ digS).cps.toList.length = 36 := by decide +kernel
  have hlt : r.toNat < (smallS ++ digS).cps.toList.length := by omega
  refine ⟨(smallS ++ digS).cps.toList[r.toNat], ?_, ?_⟩
  · have h := atI_nat (List.getElem?_eq_getElem hlt)
    rw [← e] at h
    exact h
  · rw [← sign_or]
    exact decide_eq_true (List.getElem_mem hlt)
theorem str_add (x y : Str) : (x ++ y).cps.toList = x.cps.toList ++ y.cps.toList := by
  show (x.cps ++ y.cps).toList = _
  simp
theorem str_len (x : Str) : x.length = x.cps.toList.length := by
  show x.cps.size = _
  simp
theorem name_grow {s : Str} {c : Nat} {n : Nat} (h : isNameL s.cps.toList = true) (hn : s.cps.toList.length ≤ n) (h8 : n < 8) (hc : (isSmall c || isDig c) = true) : isNameL (s ++ (⟨#[c]⟩ : Str)).cps.toList = true ∧ (s ++ (⟨#[c]⟩ : Str)).cps.toList.length ≤ n + 1 := by
  have e : (s ++ (⟨#[c]⟩ : Str)).cps.toList = s.cps.toList ++ [c] := str_add _ _
  rw [e]
  generalize s.cps.toList = l at h hn
  refine ⟨?_, by rw [List.length_append]; show l.length + 1 ≤ n + 1; omega⟩
  cases l with
  | nil => cases h
  | cons a r =>
    rw [isNameL_cons, Bool.and_eq_true, Bool.and_eq_true] at h
    show isNameL (a :: (r ++ [c])) = true
    rw [isNameL_cons, Bool.and_eq_true, Bool.and_eq_true]
    refine ⟨⟨decide_eq_true ?_, h.1.2⟩, ?_⟩
    · rw [List.length_cons] at hn ⊢
      rw [List.length_append]
      show r.length + 1 + 1 ≤ 8
      omega
    · have e2 : a :: (r ++ [c]) = (a :: r) ++ [c] := rfl
      rw [e2, List.all_append, h.2]
      simp [hc]
theorem small_len : smallS.length ≤ 100000 ∧ (smallS ++ digS).length ≤ 100000 ∧ smallS.length + digS.length ≤ 100000 := by decide +kernel
section
variable {P : Program} {w : World} {K : PySem.W.Frag} {mg : Str → Option Value} {base : Heap}
abbrev s__law_form : Stmt := topS 30
theorem sc__law_form : FnScope ["p", "mono"] ["p"] (defScope s__law_form) := ⟨rfl, rfl, rfl, by decide +kernel, rfl, by decide +kernel, by decide +kernel⟩
theorem has_law_form (T : Txt K mg) (D : DefAt K mg "_law_form" s__law_form ["p"]) : Has P w K mg base 1 "_law_form" ["p"] (spForm P w K) := by
  refine mk D sc__law_form (fun vs H Q E h => ?_) (fun f cdv A outer s H vs Q E hr h => ?_)
  · obtain ⟨p, kvs, kb, n, g, rfl, _⟩ := h
    rfl
  obtain ⟨p, kvs, kb, n, g, rfl, hp, pp, hn, hg, fin⟩ := h
  refine ⟨_, (pss_one (ps_ret (pe_callTy call_tuple_of (by rfl) T.tuple (by decide +kernel) (pa_cons (pe_lc (own := [("mono", 1)]) (g := gName 1) (tt := tYes) rfl sc__law_form.nd (pi_list (pe_callB (call_sortedN (u45 hr)) (by rfl) T.sorted (by decide +kernel) (pa_cons (pe_callTy (call_listN rfl) (by rfl) T.list (by decide +kernel) (pa_cons (pv 0) pa_nil)) pa_nil))) (blkOk_by (own := [("mono", 1)]) (N := ["p", "mono"]) (sc := defScope s__law_form) (by decide +kernel)) (fun _ _ _ _ _ => (pg_name (i := 1) sc__law_form.nd rfl (Or.inl rfl))) (fun _ _ _ _ _ => pts_nil) (fun _ _ _ _ _ => (pe_tup (pa_cons (pv 1) (pa_cons (pe_ngetK P w K rfl rfl rfl (u9 hr) (pv 0) (pv 1) (fun _ _ => rfl)) pa_nil))))) pa_nil)))), ?_⟩
  try dsimp only [cxOf, Cx.nox]
  have lm : ∀ d ∈ keyData kvs, ∃ e ∈ kvs, e.1.data = d := fun d hd => by
    obtain ⟨e, he, rfl⟩ := List.mem_map.mp hd
    exact ⟨e, he, rfl⟩
  have so : SortsD (keyData kvs) := sorts_monos fun d hd => by
    obtain ⟨e, he, rfl⟩ := lm d hd
    exact (pp.mono e he).1
  have ll := pp.len
  refine s_retD (evd_tupOf (evd_lcL (f := fun m => .tuple [m, g m]) (evd_sorted (evd_keys (Evl.ev_var rfl) (.inl hp) pp.ko) so) (by rw [sortD_len, List.length_map]; omega) (fun d hd => ?_) (fun x => rfl) (fun x d H2 e2 hd hx => ?_))) fun v H2 e2 hv => fin v H2 e2 hv
  · obtain ⟨e, he, rfl⟩ := lm d (sortD_mem.mp hd)
    have k1 := key_mono (pp.mono e he).1
    simp [keyD, keyAllD, k1, (hg e he).2]
  · obtain ⟨e, he, rfl⟩ := lm d (sortD_mem.mp hd)
    obtain ⟨ds, hds⟩ := (pp.mono e he).tup
    refine evd_tup (ead_cons (evd_var rfl hx) (ead_cons ?_ ead_nil)) (by show 2 ≤ 100000; omega)
    rw [hds] at hx
    exact evd_at (ev_nget (Evl.ev_var rfl) (evd_var rfl hx) (.inl (e2 _ _ hp)) (keysOk_ds (DS.of e2) pp.ko) hds (pp.ko e he).2 (entAt_get pp.nd he)) (dp_ex e2 (hg e he).1)
abbrev s__law_name : Stmt := topS 37
theorem sc__law_name : FnScope ["m", "small", "name", "turn"] ["m"] (defScope s__law_name) := ⟨rfl, rfl, rfl, by decide +kernel, rfl, by decide +kernel, by decide +kernel⟩
theorem has_law_name (T : Txt K mg) (D : DefAt K mg "_law_name" s__law_name ["m"]) (h_law_draw : Has P w K mg base 1 "_law_draw" ["m", "below"] (spDraw K)) : Has P w K mg base 2 "_law_name" ["m"] (pNameM K) := by
  refine mk D sc__law_name (fun vs H Q E h => spM_len h) (fun f cdv A outer s H vs Q E hr h => ?_)
  obtain ⟨m, k, rest, rfl, hl, st, hk, _, fin⟩ := h
  obtain rfl := List.length_eq_zero_iff.mp hl
  refine ⟨_, (pss_cons (ps_set (i := 1) sc__law_name.nd rfl (Or.inl rfl) pe_str)
  (pss_cons (ps_set (i := 2) sc__law_name.nd rfl (Or.inl rfl) (pe_ix ix_str (pv 1) (ph h_law_draw (hr.mono (by decide)) (pa_cons (pv 0) (pa_cons pe_int pa_nil))) (fun _ _ => rfl)))
  (pss_cons (ps_for PassesOwn.never rfl (pi_range1 (by rfl) T.range (pa_cons (ph h_law_draw (hr.mono (by decide)) (pa_cons (pv 0) (pa_cons pe_int pa_nil))) pa_nil)) (pg_name (i := 3) sc__law_name.nd rfl (Or.inl rfl))
  (pss_one (ps_set (i := 2) sc__law_name.nd rfl (Or.inl rfl) (pe_op op_add_str (pv 2) (pe_ix ix_str (pe_op op_add_str (pv 1) pe_str) (ph h_law_draw (hr.mono (by decide)) (pa_cons (pv 0) (pa_cons pe_int pa_nil))) (fun _ _ => rfl))))))
  (pss_one (ps_ret (pv 2)))))), ?_⟩
  try dsimp only [cxOf, Cx.nox]
  try dsimp only [tNext, tSeq]
  refine Evl.s_asg (v := .str smallS) Evl.ev_c fun H1 e1 => ?_
  try dsimp only [tNext, tSeq, List.set]
  dsimp only [tAsg, tOp]
  refine Evl.ev_var (i := 1) (v := .str smallS) rfl H1 (Ex.refl H1) _ fun H2 e2 => ?_
  have E2 := e1.trans e2
  refine m_draw (Evl.ev_var rfl) Evl.ev_c (st.ex E2) (by omega) (by decide) (by omega) fun r H3 r0 r1 st3 b3 => ?_
  obtain ⟨c, hc, hs⟩ := small_at r r0 r1
  refine ⟨smallS, r, c, rfl, rfl, Evl.sz_of small_len.1, hc, ?_⟩
  dsimp only [gName, List.set]
  refine m_forR (Evl.ev_var rfl) Evl.ev_c st3 (by omega) (by omega) (by omega) (fun i σ' H' => ∃ (x : Str) (y : Option V), σ' = [some (.ref m), some (.str smallS), some (.str x), y] ∧ Mst K H' m (k + 2 + i) ∧ But m H H' ∧ isNameL x.cps.toList = true ∧ x.cps.toList.length ≤ 1 + i)
    (fun H4 s4 b4 => ⟨_, none, rfl, s4, ((But.of E2).trans b3).trans b4, ?_, Nat.le_refl _⟩) (fun i σ' H' hi h => ?_) (fun i σ' H' hi h => ?_)
  · show (decide (1 ≤ 8) && isSmall c && [c].all fun x => isSmall x || isDig x) = true
    simp [hs]
  · obtain ⟨x, y, rfl, s4, b4, hx, hxl⟩ := h
    dsimp only [List.set, tAsg, tOp]
    refine Evl.ev_var (i := 2) (v := .str x) rfl H' (Ex.refl H') _ fun H5 e5 => ?_
    refine Evl.ev_var (i := 1) (v := .str smallS) rfl H5 (Ex.refl H5) _ fun H5b e5b => ?_
    refine Evl.ev_c H5b (Ex.refl H5b) _ fun H6 e6b => ?_
    have e6 := e5b.trans e6b
    refine ⟨smallS, digS, rfl, rfl, Evl.sz_of small_len.2.2, ?_⟩
    have E6 := e5.trans e6
    refine m_draw (Evl.ev_var rfl) Evl.ev_c (s4.ex E6) (by omega) (by decide) (by omega) fun r' H7 r0' r1' st7 b7 => ?_
    obtain ⟨c', hc', hs'⟩ := both_at r' r0' r1'
    refine ⟨smallS ++ digS, r', c', rfl, rfl, Evl.sz_of small_len.2.1, hc', ?_⟩
    have g := name_grow (n := 1 + i) hx hxl (by omega) hs'
    refine ⟨x, ⟨#[c']⟩, rfl, rfl, Evl.sz_of ?_, _, _, rfl, st7, (b4.trans (But.of E6)).trans b7, g.1, by have := g.2; omega⟩
    rw [str_len]
    show x.cps.toList.length + 1 ≤ 100000
    omega
  · obtain ⟨x, y, rfl, s4, b4, hx, hxl⟩ := h
    refine Evl.s_ret (v := .str x) (Evl.ev_var rfl) fun H5 e5 => fin _ H5 ((s4.ex e5).mono (by omega)) (b4.trans (But.of e5)) ⟨x, rfl, hx⟩
end
end K00
end

section
set_option Elab.async false
set_option linter.all false
set_option maxRecDepth 100000
set_option maxHeartbeats 4000000
/-! the law: amounts, fractions, monomials drawn; by an AI agent -/
namespace K00
open PySem PySem.Spec PyProof.Rows L2 RX
open Evl (Ex Ev EvT EvA EvL EvU RV RC)
section
variable {K : PySem.W.Frag} {σ : L2.St} {H : Hp} {ta tb te : TE} {D : Ends} {Q : VK} {r : R2} {sp : Sp} {E : XK}
theorem m_op (h : ta σ H fun x H1 => tb σ H1 fun y H2 => r x y H2 Q) : tOp r ta tb σ H Q := h
theorem m_if {t : TT} (h : t σ H fun c H1 => if c = true then ta σ H1 Q else tb σ H1 Q) : tIf t ta tb σ H Q := h
theorem m_test {Q : Bool → Hp → Prop} (h : te σ H fun x H' => ∃ k, x = .bl k ∧ Q k H') : tTest te σ H Q := h
theorem m_call1 (h : ta σ H fun x H1 => sp [x] H1 Q E) : tCall sp [] E (tCons ta tNil) σ H Q := h
theorem m_call2 (h : ta σ H fun x H1 => tb σ H1 fun y H2 => sp [x, y] H2 Q E) : tCall sp [] E (tCons ta (tCons tb tNil)) σ H Q := h
theorem m_tup1 (h : ta σ H fun x H1 => ∀ p, H1 p = none → Q (.ref p) (upd H1 p (.tup [x]))) : tTup (tCons ta tNil) σ H Q := by
  show ta σ H fun x H1 => [x].length ≤ sizeLine ∧ ∀ p, H1 p = none → Q (.ref p) (upd H1 p (.tup [x]))
  have e : (fun x H1 => [x].length ≤ sizeLine ∧ ∀ p, H1 p = none → Q (.ref p) (upd H1 p (.tup [x]))) = fun x H1 => ∀ p, H1 p = none → Q (.ref p) (upd H1 p (.tup [x])) := by
    funext x H1
    exact propext ⟨fun h => h.2, fun h => ⟨Evl.sz_of (by show 1 ≤ 100000; omega), h⟩⟩
  rw [e]
  exact h
theorem m_tup2 (h : ta σ H fun x H1 => tb σ H1 fun y H2 => ∀ p, H2 p = none → Q (.ref p) (upd H2 p (.tup [x, y]))) : tTup (tCons ta (tCons tb tNil)) σ H Q := by
  show ta σ H fun x H1 => tb σ H1 fun y H2 => [x, y].length ≤ sizeLine ∧ ∀ p, H2 p = none → Q (.ref p) (upd H2 p (.tup [x, y]))
  have e : (fun x H1 => tb σ H1 fun y H2 => [x, y].length ≤ sizeLine ∧ ∀ p, H2 p = none → Q (.ref p) (upd H2 p (.tup [x, y]))) = fun x H1 => tb σ H1 fun y H2 => ∀ p, H2 p = none → Q (.ref p) (upd H2 p (.tup [x, y])) := by
    funext x H1
    refine congrArg (tb σ H1) ?_
    funext y H2
    exact propext ⟨fun h => h.2, fun h => ⟨Evl.sz_of (by show 2 ≤ 100000; omega), h⟩⟩
  rw [e]
  exact h
theorem m_of {m a : Addr} {xs : List V} {k : Nat} (ha : Ev ta σ H (.ref m)) (hb : Ev tb σ H (.ref a)) (st : Mst K H m k) (hs : SqL K H a xs) (h0 : 0 < xs.length) (h1 : xs.length ≤ 1000) (hk : k < mostK)
    (q : ∀ (i : Nat) v H', xs[i]? = some v → Mst K H' m (k + 1) → But m H H' → Q v H') : tCall (spOf K) [] E0 (tCons ta (tCons tb tNil)) σ H Q :=
  ha H (Ex.refl H) _ fun H1 e1 => hb H1 e1 _ fun H2 e2 => ⟨m, a, xs, k, rfl, st.ex (e1.trans e2), sq_mono (e1.trans e2) hs, h0, h1, hk, fun i v H' hi s' bt => q i v H' hi s' ((But.of (e1.trans e2)).trans bt)⟩
end
theorem amt0 (r : Int) (h0 : 0 ≤ r) (h1 : r < 10 ^ (40 : Int).toNat) : (r - 5 * 10 ^ (39 : Int).toNat).natAbs < 2 ^ 134 := by
  have e1 : (10 : Int) ^ (40 : Int).toNat = 10000000000000000000000000000000000000000 := by decide
  have e2 : (10 : Int) ^ (39 : Int).toNat = 1000000000000000000000000000000000000000 := by decide
  have e3 : (2 : Nat) ^ 134 = 21778071482940061661655974875633165533184 := by decide
  rw [e1] at h1
  rw [e2, e3]
  omega
section
variable {P : Program} {w : World} {K : PySem.W.Frag} {mg : Str → Option Value} {base : Heap}
abbrev s__law_amount : Stmt := topS 38
theorem sc__law_amount : FnScope ["m", "way"] ["m"] (defScope s__law_amount) := ⟨rfl, rfl, rfl, by decide +kernel, rfl, by decide +kernel, by decide +kernel⟩
theorem has_law_amount (T : Txt K mg) (D : DefAt K mg "_law_amount" s__law_amount ["m"]) (h_law_draw : Has P w K mg base 1 "_law_draw" ["m", "below"] (spDraw K)) : Has P w K mg base 2 "_law_amount" ["m"] (pAmt K) := by
  refine mk D sc__law_amount (fun vs H Q E h => spM_len h) (fun f cdv A outer s H vs Q E hr h => ?_)
  obtain ⟨m, k, rest, rfl, hl, st, hk, _, fin⟩ := h
  obtain rfl := List.length_eq_zero_iff.mp hl
  refine ⟨_, (pss_cons (ps_set (i := 1) sc__law_amount.nd rfl (Or.inl rfl) (ph h_law_draw (hr.mono (by decide)) (pa_cons (pv 0) (pa_cons pe_int pa_nil))))
  (pss_cons (ps_if (pt_cmpR op_eq (pv 1) pe_int (nomark _))
  (pss_one (ps_ret (pe_op op_sub (ph h_law_draw (hr.mono (by decide)) (pa_cons (pv 0) (pa_cons (pe_op op_pow pe_int pe_int) pa_nil))) (pe_op op_mul pe_int (pe_op op_pow pe_int pe_int)))))
  pss_nil)
  (pss_one (ps_ret (pe_ifExp (pt_cmpR op_lt (pv 1) pe_int (nomark _)) (pe_op op_sub (ph h_law_draw (hr.mono (by decide)) (pa_cons (pv 0) (pa_cons pe_int pa_nil))) pe_int) (pe_op op_sub (ph h_law_draw (hr.mono (by decide)) (pa_cons (pv 0) (pa_cons pe_int pa_nil))) pe_int)))))), ?_⟩
  try dsimp only [cxOf, Cx.nox]
  try dsimp only [tNext, tSeq]
  dsimp only [tAsg]
  refine m_draw (Evl.ev_var rfl) Evl.ev_c st (by omega) (by decide) (by omega) fun r H1 r0 r1 s1 b1 => ?_
  dsimp only [gName, List.set]
  have c40 : ∀ {σ' : L2.St} {H' : Hp} {n : Int}, 0 ≤ n → n ≤ 1000 → Ev (tOp (rI CPow fun i j => .int (i ^ j.toNat)) (tC (.int 10)) (tC (.int n))) σ' H' (.int (10 ^ n.toNat)) := fun h1 h2 => ev_IC (C := CPow) (g := fun i j => .int (i ^ j.toNat)) Evl.ev_c Evl.ev_c ⟨h1, by omega, by decide⟩
  refine Evl.s_if (b := decide (V.int r = V.int 0)) (Evl.et_test (Evl.ev_op (Evl.ev_var rfl) Evl.ev_c (Evl.rv_eq rfl))) (fun _ H2 e2 => ?_) (fun _ H2 e2 => ?_)
  · dsimp only [tRet]
    refine m_op (m_draw (Evl.ev_var rfl) (c40 (by omega) (by omega)) (s1.ex e2) (by decide) (by decide) (by omega) fun x H3 x0 x1 s3 b3 => ?_)
    refine ev_IC (C := CMul) (g := fun i j => .int (i * j)) Evl.ev_c (c40 (by omega) (by omega)) (.inl ⟨by decide, by decide⟩) H3 (Ex.refl H3) _ fun H4 e4 => ?_
    exact ⟨x, _, rfl, rfl, fin _ H4 (s3.ex e4) (((b1.trans (But.of e2)).trans b3).trans (But.of e4)) ⟨_, rfl, amt0 x x0 x1⟩⟩
  · try dsimp only [tNext, tSeq]
    dsimp only [tRet]
    have e3 : (2 : Nat) ^ 134 = 21778071482940061661655974875633165533184 := by decide
    refine m_if (Evl.et_test (b := decide (r < 3)) (Evl.ev_is (ev_I (g := fun i j => .bl (decide (i < j))) (Evl.ev_var rfl) Evl.ev_c) rfl) H2 (Ex.refl H2) _ fun H3 e4 => ?_)
    by_cases h3 : r < 3
    · rw [if_pos (decide_eq_true h3)]
      refine m_op (m_draw (Evl.ev_var rfl) Evl.ev_c (s1.ex (e2.trans e4)) (by decide) (by decide) (by omega) fun x H4 x0 x1 s3 b3 => ?_)
      exact ⟨x, _, rfl, rfl, fin _ H4 s3 ((b1.trans (But.of (e2.trans e4))).trans b3) ⟨_, rfl, by rw [e3]; omega⟩⟩
    · rw [if_neg (by simp [h3])]
      refine m_op (m_draw (Evl.ev_var rfl) Evl.ev_c (s1.ex (e2.trans e4)) (by decide) (by decide) (by omega) fun x H4 x0 x1 s3 b3 => ?_)
      exact ⟨x, _, rfl, rfl, fin _ H4 s3 ((b1.trans (But.of (e2.trans e4))).trans b3) ⟨_, rfl, by rw [e3]; omega⟩⟩
end
end K00
end

section
set_option Elab.async false
set_option linter.all false
set_option maxRecDepth 100000
set_option exponentiation.threshold 10000
set_option maxHeartbeats 4000000
/-! the law: fractions, monomials drawn; by an AI agent -/
namespace K00
open PySem PySem.Spec PyProof.Rows L2 RX
open Evl (Ex Ev EvT EvA EvL EvU RV RC)
/-- a row of names -/
def namesAt (K : PySem.W.Frag) (H : Hp) (rest : List V) : Prop := ∃ (a : Addr) (xs : List V), rest = [.ref a] ∧ SqL K H a xs ∧ 0 < xs.length ∧ xs.length ≤ 1000 ∧ ∀ v ∈ xs, isNameV v
abbrev pMonom (K : PySem.W.Frag) : Sp := spM K 16 1 (namesAt K) fun H v => ∃ x, Dp K H v x ∧ MB 3 x
section
variable {P : Program} {w : World} {K : PySem.W.Frag} {mg : Str → Option Value} {base : Heap}
abbrev s__law_fraction : Stmt := topS 39
theorem sc__law_fraction : FnScope ["m", "n"] ["m"] (defScope s__law_fraction) := ⟨rfl, rfl, rfl, by decide +kernel, rfl, by decide +kernel, by decide +kernel⟩
theorem has_law_fraction (T : Txt K mg) (D : DefAt K mg "_law_fraction" s__law_fraction ["m"]) (h_law_draw : Has P w K mg base 1 "_law_draw" ["m", "below"] (spDraw K)) (h_law_amount : Has P w K mg base 2 "_law_amount" ["m"] (pAmt K))
    (h_law_frac : Has P w K mg base 2 "_law_frac" ["n", "d"] (pLow K)) : Has P w K mg base 3 "_law_fraction" ["m"] (pFra K) := by
  refine mk D sc__law_fraction (fun vs H Q E h => spM_len h) (fun f cdv A outer s H vs Q E hr h => ?_)
  obtain ⟨m, k, rest, rfl, hl, st, hk, _, fin⟩ := h
  obtain rfl := List.length_eq_zero_iff.mp hl
  refine ⟨_, (pss_cons (ps_set (i := 1) sc__law_fraction.nd rfl (Or.inl rfl) (ph h_law_amount (hr.mono (by decide)) (pa_cons (pv 0) pa_nil)))
  (pss_one (ps_ret (ph h_law_frac (hr.mono (by decide)) (pa_cons (pe_ifExp (pt_cmpR op_ne (pv 1) pe_int (nomark _)) (pv 1) pe_int) (pa_cons (pe_ifExp (pt_cmpR op_eq (ph h_law_draw (hr.mono (by decide)) (pa_cons (pv 0) (pa_cons pe_int pa_nil))) pe_int (nomark _)) (pe_op op_add pe_int (pe_callB call_abs (by rfl) T.abs (by decide +kernel) (pa_cons (ph h_law_amount (hr.mono (by decide)) (pa_cons (pv 0) pa_nil)) pa_nil))) pe_int) pa_nil)))))), ?_⟩
  try dsimp only [cxOf, Cx.nox]
  try dsimp only [tNext, tSeq]
  dsimp only [tAsg]
  refine m_call (Evl.ea_cons (Evl.ev_var rfl) Evl.ea_nil) rfl st (by omega) (fun _ _ => trivial) fun v1 H1 s1 b1 p1 => ?_
  obtain ⟨n, rfl, hn⟩ := p1
  dsimp only [gName, List.set, tRet]
  refine m_call2 ?_
  have bn : (if n = 0 then (1 : Int) else n).natAbs < 2 ^ 134 := by
    split
    · decide
    · exact hn
  have nz : (if n = 0 then (1 : Int) else n) ≠ 0 := by
    split
    · decide
    · assumption
  refine Evl.ev_if (v := .int (if n = 0 then 1 else n)) (b := !decide (V.int n = V.int 0)) (Evl.et_test (Evl.ev_op (Evl.ev_var rfl) Evl.ev_c (Evl.rv_ne rfl))) (fun z => ?_) (fun z => ?_) H1 (Ex.refl H1) _ fun H2 e2 => ?_
  · have : n ≠ 0 := fun y => by subst y; simp at z
    rw [if_neg this]
    exact Evl.ev_var rfl
  · have : n = 0 := by
      have y : decide (V.int n = V.int 0) = true := by simpa using z
      exact V.int.inj (of_decide_eq_true y)
    rw [if_pos this]
    exact Evl.ev_c
  generalize (if n = 0 then (1 : Int) else n) = nn at bn nz
  have done : ∀ (d : Int) (H' : Hp), 0 < d → d.natAbs < 2 ^ 139 → Mst K H' m (k + 5) → But m H H' → pLow K [.int nn, .int d] H' Q E0 := by
    intro d H' d0 d1 s' b'
    refine ⟨[.int nn, .int d], .cons (.int _) (.cons (.int _) .nil), rfl, ⟨nn, d, rfl, d0, Nat.lt_of_lt_of_le d1 (Nat.pow_le_pow_right (by decide) (by decide))⟩, fun v H'' e hv => fin v H'' ((s'.ex e).mono (by omega)) (b'.trans (But.of e)) ⟨_, hv, low_ok (k := 139) d0 (Nat.lt_of_lt_of_le bn (Nat.pow_le_pow_right (by decide) (by decide))) d1, ?_⟩⟩
    exact (low_zero d0).trans (decide_eq_false nz)
  refine m_if (m_test (m_op (m_draw (Evl.ev_var rfl) Evl.ev_c (s1.ex e2) (by decide) (by decide) (by omega) fun r H3 r0 r1 s3 b3 => ?_)))
  refine Evl.ev_c H3 (Ex.refl H3) _ fun H3b e3b => ?_
  refine Evl.rv_eq rfl H3b (Ex.refl H3b) _ fun H4 e4b => ?_
  have e4 := e3b.trans e4b
  refine ⟨_, rfl, ?_⟩
  have B4 : But m H H4 := ((b1.trans (But.of e2)).trans b3).trans (But.of e4)
  by_cases h0 : r = 0
  · subst h0
    rw [if_pos (decide_eq_true rfl)]
    refine m_op (Evl.ev_c H4 (Ex.refl H4) _ fun H5 e5 => ?_)
    refine m_call (Evl.ea_cons (Evl.ev_var rfl) Evl.ea_nil) rfl ((s3.ex e4).ex e5) (by omega) (fun _ _ => trivial) fun v2 H6 s6 b6 p6 => ?_
    obtain ⟨j, rfl, hj⟩ := p6
    refine ⟨j, rfl, ⟨1, _, rfl, rfl, ?_⟩⟩
    rw [abs_nat]
    refine done _ _ (by omega) ?_ (s6.mono (by omega)) ((B4.trans (But.of e5)).trans b6)
    have e3 : (2 : Nat) ^ 134 = 21778071482940061661655974875633165533184 := by decide
    have e9 : (2 : Nat) ^ 139 = 696898287454081973172991196020261297061888 := by decide
    rw [e3] at hj
    rw [e9]
    omega
  · rw [if_neg (by simp; exact h0)]
    refine Evl.ev_c H4 (Ex.refl H4) _ fun H5 e5 => ?_
    exact done 1 H5 (by omega) (by decide) (((s3.ex e4).ex e5).mono (by omega)) (B4.trans (But.of e5))
abbrev s__law_monomial : Stmt := topS 40
theorem sc__law_monomial : FnScope ["m", "names", "mono", "turn"] ["m", "names"] (defScope s__law_monomial) := ⟨rfl, rfl, rfl, by decide +kernel, rfl, by decide +kernel, by decide +kernel⟩
theorem has_law_monomial (T : Txt K mg) (D : DefAt K mg "_law_monomial" s__law_monomial ["m", "names"]) (h_law_draw : Has P w K mg base 1 "_law_draw" ["m", "below"] (spDraw K)) (h_law_of : Has P w K mg base 2 "_law_of" ["m", "some"] (spOf K))
    (h_law_mono : Has P w K mg base 1 "_law_mono" ["a", "b"] (spMono K)) : Has P w K mg base 3 "_law_monomial" ["m", "names"] (pMonom K) := by
  refine mk D sc__law_monomial (fun vs H Q E h => spM_len h) (fun f cdv A outer s H vs Q E hr h => ?_)
  obtain ⟨m, k, rest, rfl, hl, st, hk, ⟨a, xs, rfl, hs, x0, x1, hx⟩, fin⟩ := h
  refine ⟨_, (pss_cons (ps_set (i := 2) sc__law_monomial.nd rfl (Or.inl rfl) (pe_tup pa_nil))
  (pss_cons (ps_for PassesOwn.never rfl (pi_range1 (by rfl) T.range (pa_cons (ph h_law_draw (hr.mono (by decide)) (pa_cons (pv 0) (pa_cons pe_int pa_nil))) pa_nil)) (pg_name (i := 3) sc__law_monomial.nd rfl (Or.inl rfl))
  (pss_one (ps_set (i := 2) sc__law_monomial.nd rfl (Or.inl rfl) (ph h_law_mono (hr.mono (by decide)) (pa_cons (pv 2) (pa_cons (pe_tup (pa_cons (pe_tup (pa_cons (pe_tup (pa_cons (ph h_law_of (hr.mono (by decide)) (pa_cons (pv 0) (pa_cons (pv 1) pa_nil))) (pa_cons (ph h_law_draw (hr.mono (by decide)) (pa_cons (pv 0) (pa_cons pe_int pa_nil))) pa_nil))) (pa_cons (pe_op op_add pe_int (ph h_law_draw (hr.mono (by decide)) (pa_cons (pv 0) (pa_cons pe_int pa_nil)))) pa_nil))) pa_nil)) pa_nil))))))
  (pss_one (ps_ret (pv 2))))), ?_⟩
  try dsimp only [cxOf, Cx.nox]
  try dsimp only [tNext, tSeq]
  refine s_asgD (K := K) (d := .tuple []) (evd_tup ead_nil (by decide)) fun v H1 e1 hv => ?_
  try dsimp only [tNext, tSeq, gName, List.set]
  refine m_forR (Evl.ev_var rfl) Evl.ev_c (st.ex e1) (by omega) (by omega) (by omega) (fun i σ' H' => ∃ (u : V) (y : Option V) (x : PyData), σ' = [some (.ref m), some (.ref a), some u, y] ∧ Mst K H' m (k + 1 + 3 * i) ∧ But m H H' ∧ Dp K H' u x ∧ MB i x)
    (fun H4 s4 b4 => ⟨v, none, .tuple [], rfl, s4, (But.of e1).trans b4, dp_but (st.ex e1).noSeq b4 hv, by decide, [], rfl, Nat.le_refl _, fun _ z => nomatch z⟩) (fun i σ' H' hi h => ?_) (fun i σ' H' hi h => ?_)
  · obtain ⟨u, y, x, rfl, s4, b4, hu, hm⟩ := h
    dsimp only [List.set, tAsg]
    refine m_call2 (Evl.ev_var (i := 2) (v := u) rfl H' (Ex.refl H') _ fun H5 e5 => ?_)
    refine m_tup1 (m_tup2 (m_tup2 (m_of (Evl.ev_var rfl) (Evl.ev_var rfl) (s4.ex e5) (sq_mono e5 (sq_but st.noSeq b4 hs)) x0 x1 (by omega) fun j nm H6 hj s6 b6 => ?_)))
    obtain ⟨s, rfl, hsn⟩ := hx nm (List.mem_of_getElem? hj)
    refine m_draw (Evl.ev_var rfl) Evl.ev_c s6 (by decide) (by decide) (by omega) fun r H7 r0 r1 s7 b7 => ?_
    intro p hp
    refine m_op (Evl.ev_c _ (Ex.refl _) _ fun H8 e8 => ?_)
    have E8 : Ex H7 H8 := (Ex.new hp).trans e8
    refine m_draw (Evl.ev_var rfl) Evl.ev_c (s7.ex E8) (by decide) (by decide) (by omega) fun t H9 t0 t1 s9 b9 => ?_
    refine ⟨1, t, rfl, rfl, fun q hq q2 hq2 => ?_⟩
    have hp9 : H9 p = some (.tup [.str s, .int r]) := b9 _ _ (fun z => by
      subst z
      obtain ⟨l, sd, c, pp, cs, g, _⟩ := s7
      rw [g] at hp; cases hp) (e8 _ _ upd_same)
    have B9 : But m H H9 := (((((b4.trans (But.of e5)).trans b6).trans b7).trans (But.of E8)).trans b9)
    have E10 : Ex H9 (upd (upd H9 q (.tup [.ref p, .int (1 + t)])) q2 (.tup [.ref q])) := (Ex.new hq).trans (Ex.new hq2)
    have hu9 : Dp K H9 u x := by
      have h6 := dp_but (s4.ex e5).noSeq b6 (dp_ex e5 hu)
      have h7 := dp_but s6.noSeq b7 h6
      exact dp_but (s7.ex E8).noSeq b9 (dp_ex E8 h7)
    have dl : Dp K H9 (.ref p) (.tuple [.str s, .int r]) := .tup (.inl (.inl hp9)) (.cons (.str _) (.cons (.int _) .nil))
    have dq : Dp K (upd H9 q (.tup [.ref p, .int (1 + t)])) (.ref q) (.tuple [.tuple [.str s, .int r], .int (1 + t)]) := .tup (.inl (.inl upd_same)) (.cons (dp_ex (Ex.new hq) dl) (.cons (.int _) .nil))
    refine ⟨i, x, .tuple [.str s, .int r], 1 + t, .cons (dp_ex E10 hu9) (.cons (.tup (.inl (.inl upd_same)) (.cons (dp_ex (Ex.new hq2) dq) .nil)) .nil), by omega, hm, ⟨s, r, rfl, hsn, r0, by omega⟩, by omega, by omega, fun v x' H' e hv' hm' => ?_⟩
    exact ⟨_, _, x', rfl, ((s9.ex E10).ex e).mono (by omega), (B9.trans (But.of E10)).trans (But.of e), hv', hm'⟩
  · obtain ⟨u, y, x, rfl, s4, b4, hu, hm⟩ := h
    exact Evl.s_ret (v := u) (Evl.ev_var rfl) fun H5 e5 => fin _ H5 ((s4.ex e5).mono (by omega)) (b4.trans (But.of e5)) ⟨x, dp_ex e5 hu, hm.le (by omega)⟩
end
end K00
end

section
set_option Elab.async false
set_option linter.all false
set_option maxRecDepth 100000
set_option exponentiation.threshold 10000
set_option maxHeartbeats 4000000
/-! the law: polynomials drawn; by an AI agent -/
namespace K00
open PySem PySem.Spec PyProof.Rows L2 RX
open Evl (Ex Ev EvT EvA EvL EvU RV RC)
/-- a drawn polynomial -/
def PolyAt (P : Program) (w : World) (K : PySem.W.Frag) (H : Hp) (v : V) : Prop := ∃ (p : Addr) (kvs : List Ent), v = .ref p ∧ H p = some (HD P w p kvs) ∧ PE' K H kvs 900 5
abbrev pDrawn (P : Program) (w : World) (K : PySem.W.Frag) : Sp := spM K 200 0 noRest fun H v => PolyAt P w K H v
section
variable {K : PySem.W.Frag} {H H' H0 : Hp} {m d : Addr} {k : Nat}
theorem but_fresh (bt : But m H0 H) (hd : H d = none) (nd : d ≠ m) (b2 : But m H H') (o : HO) : But m H0 (upd H' d o) := by
  intro b u nb hb
  have h1 := bt b u nb hb
  have n : b ≠ d := fun z => by subst z; rw [h1] at hd; cases hd
  rw [upd_ne n]
  exact b2 b u nb h1
theorem Mst.at {H : Hp} (h : Mst K H m k) : ∃ kvs, H m = some (.dK kvs) := by
  obtain ⟨l, s, c, p, cs, hm, _⟩ := h
  exact ⟨_, hm⟩
theorem Mst.ne {H : Hp} (h : Mst K H m k) (hd : H d = none) : d ≠ m := fun z => by
  obtain ⟨kvs, g⟩ := h.at
  rw [z, g] at hd; cases hd
theorem Mst.updN (h : Mst K H m k) (n : NoSeq H d) (nd : d ≠ m) (o : HO) : Mst K (upd H d o) m k := by
  obtain ⟨l, s, c, p, cs, hm, hc, q⟩ := h
  exact ⟨l, s, c, p, cs, by rw [upd_ne nd.symm]; exact hm, (DS.upd n o).l _ _ hc, q⟩
theorem Mst.updL {acc : List V} (h : Mst K H m k) (hd : H d = some (.lst acc)) (ha : ∀ v ∈ acc, isNameV v) (o : HO) : Mst K (upd H d o) m k := by
  obtain ⟨l, s, c, p, cs, hm, hc, hl, q⟩ := h
  have nd : d ≠ m := fun z => by subst z; rw [hm] at hd; cases hd
  refine ⟨l, s, c, p, cs, by rw [upd_ne nd.symm]; exact hm, ?_, hl, q⟩
  rcases hc with hc | hc
  · have nc : c ≠ d := fun z => by
      subst z
      have e : acc = cs.map V.int := by
        rcases hc with hc | ⟨ob, hc⟩
        · rw [hd] at hc; cases hc; rfl
        · rw [hd] at hc; cases hc
      subst e
      cases cs with
      | nil => exact absurd hl (by show ¬ 0 < 0; omega)
      | cons x r =>
        obtain ⟨y, hy, _⟩ := ha (.int x) List.mem_cons_self
        cases hy
    rcases hc with hc | ⟨ob, hc⟩
    · exact .inl (.inl (by rw [upd_ne nc]; exact hc))
    · exact .inl (.inr ⟨ob, by rw [upd_ne nc]; exact hc⟩)
  · exact .inr hc
end
section
variable {P : Program} {w : World} {K : PySem.W.Frag} {mg : Str → Option Value} {base : Heap}
theorem PE'.one {H : Hp} {k : NestedKey} {b : Addr} {v : V} {x : PyData} (hb : Dp K H (.ref b) k.data) (hd : k.depth ≤ 8) (hm : MB 3 k.data) (hv : FV K H 139 v) : PE' K H [(k, b, v)] 139 1 :=
  ⟨fun e he => by rw [List.mem_singleton.mp he]; exact ⟨hb, hd⟩, by simp, Nat.le_refl _, fun e he => by rw [List.mem_singleton.mp he]; exact hm, fun e he => by rw [List.mem_singleton.mp he]; exact hv⟩
abbrev s__law_drawn : Stmt := topS 41
theorem sc__law_drawn : FnScope ["m", "names", "p", "turn", "k"] ["m"] (defScope s__law_drawn) := ⟨rfl, rfl, rfl, by decide +kernel, rfl, by decide +kernel, by decide +kernel⟩
theorem has_law_drawn (T : Txt K mg) (D : DefAt K mg "_law_drawn" s__law_drawn ["m"]) (h_law_draw : Has P w K mg base 1 "_law_draw" ["m", "below"] (spDraw K)) (h_law_name : Has P w K mg base 2 "_law_name" ["m"] (pNameM K))
    (h_law_plus : Has P w K mg base 4 "_law_plus" ["p", "q"] (spPlus P w K)) (h_law_monomial : Has P w K mg base 3 "_law_monomial" ["m", "names"] (pMonom K)) (h_law_fraction : Has P w K mg base 3 "_law_fraction" ["m"] (pFra K)) :
    Has P w K mg base 5 "_law_drawn" ["m"] (pDrawn P w K) := by
  refine mk D sc__law_drawn (fun vs H Q E h => spM_len h) (fun f cdv A outer s H vs Q E hr h => ?_)
  obtain ⟨m, k, rest, rfl, hl, st, hk, _, fin⟩ := h
  obtain rfl := List.length_eq_zero_iff.mp hl
  refine ⟨_, (pss_cons (ps_par (i := 1) (j := 2) (by rfl) sc__law_drawn.nd rfl rfl (by decide) rfl rfl (pa_cons (pe_lc (own := [("k", 4)]) (g := gName 4) (tt := tYes) rfl sc__law_drawn.nd (pi_range1 (by rfl) T.range (pa_cons pe_int pa_nil)) (blkOk_by (own := [("k", 4)]) (N := ["m", "names", "p", "turn", "k"]) (sc := defScope s__law_drawn) (by decide +kernel)) (fun _ _ _ _ _ => (pg_name (i := 4) sc__law_drawn.nd rfl (Or.inl rfl))) (fun _ _ _ _ _ => pts_nil) (fun _ _ _ _ _ => (ph h_law_name (hr.mono (by decide)) (pa_cons (pv 0) pa_nil)))) (pa_cons pe_nnew pa_nil)) (by rfl))
  (pss_cons (ps_for PassesOwn.never rfl (pi_range1 (by rfl) T.range (pa_cons (ph h_law_draw (hr.mono (by decide)) (pa_cons (pv 0) (pa_cons pe_int pa_nil))) pa_nil)) (pg_name (i := 3) sc__law_drawn.nd rfl (Or.inl rfl))
  (pss_one (ps_set (i := 2) sc__law_drawn.nd rfl (Or.inl rfl) (ph h_law_plus (hr.mono (by decide)) (pa_cons (pv 2) (pa_cons (pe_ndisp (u9 hr) (ph h_law_monomial (hr.mono (by decide)) (pa_cons (pv 0) (pa_cons (pv 1) pa_nil))) (ph h_law_fraction (hr.mono (by decide)) (pa_cons (pv 0) pa_nil))) pa_nil))))))
  (pss_one (ps_ret (pv 2))))), ?_⟩
  try dsimp only [cxOf, Cx.nox]
  try dsimp only [tNext, tSeq]
  dsimp only [tPar, tCons, tNil]
  -- the names
  refine ⟨3, rfl, by decide, by decide, fun N hN => ?_⟩
  have nNm : N ≠ m := st.ne hN
  refine lc_range (lo := 0) (n := 3) (fun i H' => Mst K H' m (k + 16 * i) ∧ But m H H' ∧ ∃ acc, H' N = some (.lst acc) ∧ acc.length = i ∧ ∀ v ∈ acc, isNameV v) ⟨st.updN (.none hN) nNm _, but_fresh (But.refl m H) hN nNm (But.refl m H) _, [], upd_same, rfl, fun _ z => nomatch z⟩ (fun i H' hi h => ?_) (fun H' h => ?_)
  · obtain ⟨s1, b1, acc, h1, h2, h3⟩ := h
    refine ⟨rfl, iteT (B := True) ?_⟩
    refine m_call (Evl.ea_cons (Evl.ev_var rfl) Evl.ea_nil) rfl s1 (by omega) (fun _ _ => trivial) fun v H2 s2 b2 p2 => ?_
    have h1' := b2 _ _ nNm h1
    refine ⟨acc, h1', Evl.sz_lt (by omega), (s2.updL h1' h3 _).mono (by omega), ?_, acc ++ [v], upd_same, by rw [List.length_append]; show acc.length + 1 = i + 1; omega, fun x hx => ?_⟩
    · exact but_fresh (H := H) (But.refl m H) hN nNm (b1.trans b2) _
    · rcases List.mem_append.mp hx with hx | hx
      · exact h3 x hx
      · rw [List.mem_singleton.mp hx]; exact p2
  obtain ⟨s1, b1, acc, h1, h2, h3⟩ := h
  intro p0 hp0
  have np0 : p0 ≠ m := s1.ne hp0
  refine ⟨_, _, rfl, ?_⟩
  have s2 : Mst K (upd H' p0 (HD P w p0 [])) m (k + 48) := s1.updN (.none hp0) np0 _
  have E2 : Ex H' (upd H' p0 (HD P w p0 [])) := Ex.new hp0
  have h1' := E2 _ _ h1
  try dsimp only [tNext, tSeq]
  refine m_forR (Evl.ev_var rfl) Evl.ev_c s2 (by omega) (by omega) (by omega) (fun i σ' H2 => ∃ (p : Addr) (kvs : List Ent) (y z : Option V), σ' = [some (.ref m), some (.ref N), some (.ref p), y, z] ∧ Mst K H2 m (k + 49 + 24 * i) ∧ But m H H2 ∧ H2 N = some (.lst acc) ∧ H2 p = some (HD P w p kvs) ∧ PE' K H2 kvs (139 + 140 * i) i)
    (fun H4 s4 b4 => ⟨p0, [], _, _, rfl, s4, (b1.trans (But.of E2)).trans b4, b4 _ _ nNm h1', b4 _ _ np0 upd_same, PE'.nil⟩) (fun i σ' H2 hi h => ?_) (fun i σ' H2 hi h => ?_)
  · obtain ⟨p, kvs, y, z, rfl, s4, b4, hN4, hp4, pp4⟩ := h
    dsimp only [List.set, tAsg]
    refine m_call2 (Evl.ev_var (i := 2) (v := .ref p) rfl H2 (Ex.refl H2) _ fun H5 e5 => ?_)
    intro d hd
    have s5 := s4.ex e5
    have ndm : d ≠ m := s5.ne hd
    have npm : p ≠ m := fun q => by
      obtain ⟨kv, g⟩ := s4.at
      rw [q, g] at hp4; cases hp4
    have hp5 := e5 _ _ hp4
    have ndp : d ≠ p := fun q => by rw [q, hp5] at hd; cases hd
    have s6 : Mst K (upd H5 d (HD P w d [])) m (k + 49 + 24 * i) := s5.updN (.none hd) ndm _
    have E6 : Ex H5 (upd H5 d (HD P w d [])) := Ex.new hd
    refine m_call (rest := [.ref N]) (Evl.ea_cons (Evl.ev_var rfl) (Evl.ea_cons (Evl.ev_var rfl) Evl.ea_nil)) rfl s6 (by omega) (fun H6 e6 => ⟨N, acc, rfl, .inl (.inl (e6 _ _ (E6 _ _ (e5 _ _ hN4)))), by omega, by omega, h3⟩) fun vm H7 s7 b7 p7 => ?_
    obtain ⟨x, hx, hm⟩ := p7
    refine m_call (Evl.ea_cons (Evl.ev_var rfl) Evl.ea_nil) rfl s7 (by omega) (fun _ _ => trivial) fun vf H8 s8 b8 p8 => ?_
    have hm' := hm
    obtain ⟨_, ds, rfl, _, _⟩ := hm'
    obtain ⟨b, rfl, hb⟩ := key_ref hx
    have hdk := data_nk _ (key_mono hm.1)
    have hdp : (nk (.tuple ds)).depth ≤ 8 := by
      have h1 := nk_depth (.tuple ds)
      have h2 := depth_mono hm.1
      omega
    have hb8 : Dp K H8 (.ref b) (nk (.tuple ds)).data := by
      rw [hdk]
      exact dp_but s7.noSeq b8 hb
    have hd8 : H8 d = some (HD P w d []) := b8 _ _ ndm (b7 _ _ ndm upd_same)
    refine ⟨b, nk (.tuple ds), rfl, hd8, hb8, hdp, ?_⟩
    -- all together
    have n8 : NoSeq H8 d := .ext hd8
    have d8 := DS.upd (K := K) n8 (HD P w d [(nk (.tuple ds), b, vf)])
    have hp8 : upd H8 d (HD P w d [(nk (.tuple ds), b, vf)]) p = some (HD P w p kvs) := by
      rw [upd_ne ndp.symm]
      exact b8 _ _ npm (b7 _ _ npm (E6 _ _ hp5))
    have dsH : DS K H2 H8 := (((DS.of e5).trans (DS.of E6)).trans (Buts.ds (ms := [m]) (fun q hq => by rw [List.mem_singleton.mp hq]; exact s6.noSeq) (Buts.ofBut b7 (List.mem_singleton.mpr rfl)))).trans (Buts.ds (ms := [m]) (fun q hq => by rw [List.mem_singleton.mp hq]; exact s7.noSeq) (Buts.ofBut b8 (List.mem_singleton.mpr rfl)))
    have s9 : Mst K (upd H8 d (HD P w d [(nk (.tuple ds), b, vf)])) m (k + 49 + 24 * i + 16 + 8) := s8.updN n8 ndm _
    refine ⟨p, d, 139 + 140 * i, 139, i, kvs, (nk (.tuple ds), b, vf), rfl, hp8, (pp4.ds dsH).ds d8, upd_same, PE'.one (x := .none) (d8.dp hb8) hdp (by rw [hdk]; exact hm) (fv_ds d8 p8), by omega, by omega, by omega, fun a kvs' H9 e9 ha hk9 pp9 => ?_⟩
    have b9 : But m H (upd H8 d (HD P w d [(nk (.tuple ds), b, vf)])) := but_fresh (b4.trans (But.of e5)) hd ndm (((But.of E6).trans b7).trans b8) _
    have hN8 : upd H8 d (HD P w d [(nk (.tuple ds), b, vf)]) N = some (.lst acc) := by
      have nNd : N ≠ d := fun q => by subst q; rw [e5 _ _ hN4] at hd; cases hd
      rw [upd_ne nNd]
      exact b8 _ _ nNm (b7 _ _ nNm (E6 _ _ (e5 _ _ hN4)))
    exact ⟨a, kvs', _, _, rfl, (s9.ex e9).mono (by omega), b9.trans (But.of e9), e9 _ _ hN8, hk9, pp9.le (by omega) (Nat.le_refl _)⟩
  · obtain ⟨p, kvs, y, z, rfl, s4, b4, hN4, hp4, pp4⟩ := h
    exact Evl.s_ret (v := .ref p) (Evl.ev_var rfl) fun H5 e5 => fin _ H5 ((s4.ex e5).mono (by omega)) (b4.trans (But.of e5)) ⟨p, kvs, rfl, e5 _ _ hp4, (pp4.ds (DS.of e5)).le (by omega) (by omega)⟩
end
end K00
end

section
set_option Elab.async false
set_option linter.all false
set_option maxRecDepth 100000
set_option exponentiation.threshold 10000
set_option maxHeartbeats 4000000
/-! numbers and letters as polynomials, what they come to; by an AI agent -/
namespace K00
open PySem PySem.Spec PyProof.Rows L2 RX
open Evl (Ex Ev EvT EvA EvL EvU RV RC)
section
variable {K : PySem.W.Frag} {σ : L2.St} {H : Hp} {ta : TE} {ds : List PyData}
theorem et_truthT (h : EvD K ta σ H (.tuple ds)) : EvT (fun σ H Q => ta σ H fun x H' => ∃ k, TruV K x H' k ∧ Q k H') σ H (!ds.isEmpty) := fun H1 m Q q =>
  h H1 m _ fun v H2 e2 hv => by
    obtain ⟨a, xs, rfl, sa, da⟩ := dp_tup hv
    refine ⟨!xs.isEmpty, .inr (.inl ⟨xs, sa, rfl⟩), ?_⟩
    have : xs.isEmpty = ds.isEmpty := by cases da <;> rfl
    rw [this]
    exact q H2 e2
end
theorem sz1 {a : PyData} : [a].length ≤ 100000 := by show 1 ≤ 100000; omega
theorem sz2 {a b : PyData} : [a, b].length ≤ 100000 := by show 2 ≤ 100000; omega
def oneF : PyData := .tuple [.int 1, .int 1]
def numD (x : PyData) : PyData := if isZeroD x = true then .tuple [] else .tuple [.tuple [.tuple [], x]]
def letD (n k : PyData) : PyData := .tuple [.tuple [.tuple [.tuple [.tuple [n, k], .int 1]], oneF]]
def asNumD : PyData → PyData
  | .tuple [] => zeroF
  | .tuple [.tuple [.tuple [], c]] => c
  | _ => .none
def termShape (d : PyData) : Prop := ∃ ps c, d = .tuple [.tuple ps, c]
abbrev pNumber (K : PySem.W.Frag) : Sp := spD K 1 (fun ds => isFracD (at0 ds) = true) fun ds => numD (at0 ds)
abbrev pLetD (K : PySem.W.Frag) : Sp := spD K 2 anyD fun ds => letD (at0 ds) (at1 ds)
abbrev pAsNum (K : PySem.W.Frag) : Sp := spD K 1 (fun ds => ∃ ts, at0 ds = .tuple ts ∧ ∀ t ∈ ts, termShape t) fun ds => asNumD (at0 ds)
section
variable {P : Program} {w : World} {K : PySem.W.Frag} {mg : Str → Option Value} {base : Heap}
abbrev s_number : Stmt := topS 16
theorem sc_number : FnScope ["f"] ["f"] (defScope s_number) := ⟨rfl, rfl, rfl, by decide +kernel, rfl, by decide +kernel, by decide +kernel⟩
theorem has_number (T : Txt K mg) (D : DefAt K mg "number" s_number ["f"]) : Has P w K mg base 1 "number" ["f"] (pNumber K) := by
  refine mk D sc_number (fun vs H Q E h => spD_len h) (fun f cdv A outer s H vs Q E hr h => ?_)
  obtain ⟨ds, hd, hl, hf, q⟩ := h
  obtain ⟨v, d, rfl, rfl, hv⟩ := args1 hd hl
  have hf : isFracD d = true := hf
  obtain ⟨aZERO, mZERO, hZ⟩ := T.zero
  refine ⟨_, (pss_cons (ps_if (pt_cmpR (op_eqD (u64 hr)) (pv 0) (pe_glob (v := .ref aZERO) rfl mZERO rfl) (nomark _))
  (pss_one (ps_ret (pe_tup pa_nil)))
  pss_nil)
  (pss_one (ps_ret (pe_tup (pa_cons (pe_tup (pa_cons (pe_tup pa_nil) (pa_cons (pv 0) pa_nil))) pa_nil))))), ?_⟩
  try dsimp only [cxOf, Cx.nox]
  try dsimp only [tNext, tSeq]
  have q' : ∀ v H', Ex H H' → Dp K H' v (numD d) → Q v H' := q
  refine Evl.s_if (b := isZeroD d) (Evl.et_test (Evl.ev_is (ev_eqD (K := K) (evd_var rfl hv) (evd_of (d := zeroF) Evl.ev_c fun H' => .tup (hZ H') (.cons (.int 0) (.cons (.int 1) .nil))) (frac_shaped hf) rfl) (congrArg V.bl (frac_zero hf)))) (fun hb H2 e2 => ?_) (fun hb H2 e2 => ?_)
  · refine s_retD (K := K) (d := .tuple []) (evd_tup ead_nil (by decide)) fun v H3 e3 hv3 => q' v H3 (e2.trans e3) ?_
    rw [numD, if_pos hb]; exact hv3
  · try dsimp only [tNext, tSeq]
    refine s_retD (K := K) (d := .tuple [.tuple [.tuple [], d]]) (evd_tup (ead_cons (evd_tup (ead_cons (evd_tup ead_nil (by decide)) (ead_cons (evd_var rfl (dp_ex e2 hv)) ead_nil)) sz2) ead_nil) sz1) fun v H3 e3 hv3 => q' v H3 (e2.trans e3) ?_
    rw [numD, if_neg (by rw [hb]; exact fun z => nomatch z)]; exact hv3
abbrev s_letter : Stmt := topS 17
theorem sc_letter : FnScope ["name", "k"] ["name", "k"] (defScope s_letter) := ⟨rfl, rfl, rfl, by decide +kernel, rfl, by decide +kernel, by decide +kernel⟩
theorem has_letter (T : Txt K mg) (D : DefAt K mg "letter" s_letter ["name", "k"]) : Has P w K mg base 1 "letter" ["name", "k"] (pLetD K) := by
  refine mk D sc_letter (fun vs H Q E h => spD_len h) (fun f cdv A outer s H vs Q E hr h => ?_)
  obtain ⟨ds, hd, hl, hf, q⟩ := h
  obtain ⟨v, u, d, e, rfl, rfl, hv, hu⟩ := args2 hd hl
  obtain ⟨aONE, mONE, hO⟩ := T.one
  refine ⟨_, (pss_one (ps_ret (pe_tup (pa_cons (pe_tup (pa_cons (pe_tup (pa_cons (pe_tup (pa_cons (pe_tup (pa_cons (pv 0) (pa_cons (pv 1) pa_nil))) (pa_cons pe_int pa_nil))) pa_nil)) (pa_cons (pe_glob (v := .ref aONE) rfl mONE rfl) pa_nil))) pa_nil)))), ?_⟩
  try dsimp only [cxOf, Cx.nox]
  refine s_retD (K := K) (d := letD d e) (evd_tup (ead_cons (evd_tup (ead_cons (evd_tup (ead_cons (evd_tup (ead_cons (evd_tup (ead_cons (evd_var rfl hv) (ead_cons (evd_var rfl hu) ead_nil)) sz2) (ead_cons (evd_of Evl.ev_c fun _ => .int 1) ead_nil)) sz2) ead_nil) sz1)
    (ead_cons (evd_of (d := oneF) Evl.ev_c fun H' => .tup (hO H') (.cons (.int 1) (.cons (.int 1) .nil))) ead_nil)) sz2) ead_nil) sz1) fun v H3 e3 hv3 => q v H3 e3 hv3
abbrev s_as_number : Stmt := topS 18
theorem sc_as_number : FnScope ["p"] ["p"] (defScope s_as_number) := ⟨rfl, rfl, rfl, by decide +kernel, rfl, by decide +kernel, by decide +kernel⟩
theorem has_as_number (T : Txt K mg) (D : DefAt K mg "as_number" s_as_number ["p"]) : Has P w K mg base 1 "as_number" ["p"] (pAsNum K) := by
  refine mk D sc_as_number (fun vs H Q E h => spD_len h) (fun f cdv A outer s H vs Q E hr h => ?_)
  obtain ⟨ds, hd, hl, hf, q⟩ := h
  obtain ⟨v, d, rfl, rfl, hv⟩ := args1 hd hl
  obtain ⟨ts, e, ht⟩ := hf
  obtain rfl : d = .tuple ts := e
  obtain ⟨aZERO, mZERO, hZ⟩ := T.zero
  have q' : ∀ v H', Ex H H' → Dp K H' v (asNumD (.tuple ts)) → Q v H' := q
  refine ⟨_, (pss_cons (ps_if (pt_not (pt_truth (pv 0) (by intro _; rfl)))
  (pss_one (ps_ret (pe_glob (v := .ref aZERO) rfl mZERO rfl)))
  pss_nil)
  (pss_cons (ps_if (PW.pt (pw_and (pt_cmpR op_eq (pe_callB call_len_seq (by rfl) T.len (by decide +kernel) (pa_cons (pv 0) pa_nil)) pe_int (nomark _)) (pw_and1 (pt_not (pt_truth (pe_ix ix_tup (pe_ix ix_tup (pv 0) pe_int (fun _ _ => rfl)) pe_int (fun _ _ => rfl)) (by intro _; rfl))))))
  (pss_one (ps_ret (pe_ix ix_tup (pe_ix ix_tup (pv 0) pe_int (fun _ _ => rfl)) pe_int (fun _ _ => rfl))))
  pss_nil)
  (pss_one (ps_ret pe_non)))), ?_⟩
  try dsimp only [cxOf, Cx.nox]
  try dsimp only [tNext, tSeq]
  refine Evl.s_if (b := !(!ts.isEmpty)) (Evl.et_not (et_truthT (K := K) (evd_var rfl hv))) (fun hb H2 e2 => ?_) (fun hb H2 e2 => ?_)
  · have : ts = [] := by
      cases ts with
      | nil => rfl
      | cons a r => simp at hb
    subst this
    exact s_retD (K := K) (d := zeroF) (evd_of Evl.ev_c fun H' => .tup (hZ H') (.cons (.int 0) (.cons (.int 1) .nil))) fun v H3 e3 hv3 => q' v H3 (e2.trans e3) hv3
  · try dsimp only [tNext, tSeq]
    cases ts with
    | nil => simp at hb
    | cons t r =>
      obtain ⟨ps, c, rfl⟩ := ht t List.mem_cons_self
      have hv2 := dp_ex e2 hv
      have hlen := Evl.et_test (Evl.ev_op (ev_lenT (K := K) (evd_var (σ := start ["p"] [v]) (i := 0) rfl hv2)) (Evl.ev_c (v := .int 1)) (Evl.rv_eq rfl))
      have hnot := Evl.et_not (et_truthT (K := K) (evd_ixT (i := 0) (evd_ixT (i := 0) (evd_var (σ := start ["p"] [v]) (i := 0) rfl hv2) Evl.ev_c rfl) Evl.ev_c rfl))
      refine Evl.s_if (b := decide (r = [] ∧ ps = [])) (Evl.et_is (Evl.et_and hlen fun _ => hnot) ?_) (fun hb H3 e3 => ?_) (fun hb H3 e3 => ?_)
      · by_cases h1 : r = []
        · subst h1
          cases ps with
          | nil => rfl
          | cons a b => rfl
        · have : decide (V.int (((PyData.tuple [PyData.tuple ps, c] :: r).length : Nat) : Int) = V.int 1) = false := decide_eq_false fun z => h1 (by
            have z1 := V.int.inj z
            rw [List.length_cons] at z1
            exact List.length_eq_zero_iff.mp (by omega))
          rw [this, Bool.false_and]
          exact (decide_eq_false fun z => h1 z.1).symm
      · obtain ⟨rfl, rfl⟩ := of_decide_eq_true hb
        exact s_retD (K := K) (d := c) (evd_ixT (i := 1) (evd_ixT (i := 0) (evd_var rfl (dp_ex e3 hv2)) Evl.ev_c rfl) Evl.ev_c rfl) fun v H4 e4 hv4 => q' v H4 ((e2.trans e3).trans e4) hv4
      · have hn := of_decide_eq_false hb
        try dsimp only [tNext, tSeq]
        refine s_retD (K := K) (d := .none) (evd_of Evl.ev_c fun _ => .non) fun v H4 e4 hv4 => q' v H4 ((e2.trans e3).trans e4) ?_
        have : asNumD (.tuple (.tuple [.tuple ps, c] :: r)) = .none := by
          cases r with
          | cons a b => cases ps <;> rfl
          | nil =>
            cases ps with
            | nil => exact absurd ⟨rfl, rfl⟩ hn
            | cons a b => rfl
        rw [this]; exact hv4
end
end K00
end

section
set_option Elab.async false
set_option linter.all false
set_option maxRecDepth 100000
set_option exponentiation.threshold 10000
set_option maxHeartbeats 4000000
/-! letters seen; by an AI agent -/
namespace K00
open PySem PySem.Spec PyProof.Rows L2 RX
open Evl (Ex Ev EvT EvA EvL EvU RV RC)
def itemsD : PyData → List PyData
  | .tuple l => l
  | _ => []
/-- a letter of the terms -/
def LetIn (ds : List PyData) (l : PyData) : Prop := ∃ d ∈ ds, ∃ p ∈ itemsD (firstD d), firstD p = l
def okTerm (d : PyData) : Prop := ∃ m c, d = .tuple [m, c] ∧ MB 3 m
def okPart (p : PyData) : Prop := ∃ l, ∃ e : Int, p = .tuple [l, .int e] ∧ LB l
theorem mb_parts {n : Nat} {m : PyData} (h : MB n m) : ∃ ps, m = .tuple ps ∧ ps.length ≤ n ∧ ∀ p ∈ ps, okPart p := by
  obtain ⟨h1, ps, rfl, h2, h3⟩ := h
  refine ⟨ps, rfl, h2, fun p hp => ?_⟩
  have h4 : (List.all ps partOkD && ascD (ps.map firstD)) = true := h1
  rw [Bool.and_eq_true, List.all_eq_true] at h4
  obtain ⟨s, i, e, rfl, _, _⟩ := part_shape (h4.1 p hp)
  exact ⟨_, e, rfl, (h3 _ hp).1⟩
theorem keyData_put {kvs : List Ent} {k : NestedKey} {b : Addr} {v : V} {d : PyData} : d ∈ keyData (entPut kvs k b v) ↔ d = k.data ∨ d ∈ keyData kvs := by
  unfold entPut
  split
  · rename_i h
    have e : keyData (kvs.map fun e => if e.1 = k then (e.1, e.2.1, v) else e) = keyData kvs := by
      show List.map _ (List.map _ kvs) = List.map _ kvs
      rw [List.map_map]
      refine List.map_congr_left fun e _ => ?_
      show (if e.1 = k then (e.1, e.2.1, v) else e).1.data = e.1.data
      split <;> rfl
    rw [e]
    constructor
    · exact .inr
    · rintro (rfl | h')
      · obtain ⟨e0, he0, hk0⟩ := List.mem_map.mp (entAt_isSome.mp h)
        exact List.mem_map.mpr ⟨e0, he0, by rw [← hk0]⟩
      · exact h'
  · show d ∈ List.map _ (kvs ++ [(k, b, v)]) ↔ _
    rw [List.map_append, List.mem_append]
    constructor
    · rintro (h | h)
      · exact .inr h
      · exact .inl (List.mem_singleton.mp h)
    · rintro (h | h)
      · exact .inr (List.mem_singleton.mpr h)
      · exact .inl h
theorem take_mem {α : Type} {l : List α} {i : Nat} {x y : α} (h : l[i]? = some x) : y ∈ l.take (i + 1) ↔ y ∈ l.take i ∨ y = x := by
  rw [List.take_succ, h, List.mem_append]
  show _ ∨ y ∈ [x] ↔ _
  rw [List.mem_singleton]
section
variable {P : Program} {w : World} {K : PySem.W.Frag} {H : Hp} {D : Ends} {σ0 : L2.St} {a b c : Nat} {tab : Addr} {kvs : List Ent} {n : Nat} {tl : TE} {parts : List PyData} {x0 y0 : Option V}
theorem set2 (hab : a ≠ b) (x y x' y' : Option V) : ((((σ0.set a x).set b y).set a x').set b y') = (σ0.set a x').set b y' := by
  rw [List.set_comm _ _ hab.symm, List.set_set, List.set_set]
/-- for l, e in parts: d[l] = True -/
theorem s_lets (hab : a ≠ b) (hca : c ≠ a) (hcb : c ≠ b) (hc : σ0[c]? = some (some (.ref tab))) (hla : a < σ0.length) (h : EvD K tl ((σ0.set a x0).set b y0) H (.tuple parts)) (ht : H tab = some (HD P w tab kvs)) (le : LE' K H kvs n) (hn : n + parts.length ≤ 90000)
    (hp : ∀ p ∈ parts, okPart p)
    (q : ∀ x y kvs' H', Buts [tab] H H' → H' tab = some (HD P w tab kvs') → LE' K H' kvs' (n + parts.length) → (∀ l, l ∈ keyData kvs' ↔ l ∈ keyData kvs ∨ ∃ p ∈ parts, firstD p = l) → D.nx ((σ0.set a x).set b y) H') :
    tFor (iTup K tl) (gTup K 2 (gCons (gName a) (gCons (gName b) gNil))) (sNPut P w K (tVar c) (tVar a) (tC (.bl true))) D ((σ0.set a x0).set b y0) H := by
  refine s_forTD h (fun H1 i σ' H' => ∃ (x y : Option V) (ws : List Ent), σ' = (σ0.set a x).set b y ∧ DS K H1 H' ∧ Buts [tab] H H' ∧ H' tab = some (HD P w tab ws) ∧ LE' K H' ws (n + i) ∧ ∀ l, l ∈ keyData ws ↔ l ∈ keyData kvs ∨ ∃ p ∈ parts.take i, firstD p = l)
    (fun H1 e1 => ⟨x0, y0, kvs, rfl, DS.refl, Buts.of e1, e1 _ _ ht, le.ds (DS.of e1), fun l => by simp⟩) (fun H1 i σ' H' h => ?_) (fun H1 i v d σ' H' e1 hd hv h => ?_) (fun H1 σ' H' e1 h => ?_)
  · obtain ⟨x, y, ws, _, h, _⟩ := h
    exact h
  · obtain ⟨x, y, ws, rfl, h1, h2, h3, h4, h5⟩ := h
    obtain ⟨l, e, rfl, hl⟩ := hp d (List.mem_of_getElem? hd)
    refine g_pair hv fun u1 u2 hu1 hu2 => ?_
    rw [set2 hab]
    obtain ⟨dk, rfl, kk, kd⟩ := hl.key
    have hk : (nk (.tuple dk)).data = .tuple dk := data_nk _ kk
    have hdp : (nk (.tuple dk)).depth ≤ 8 := by have := nk_depth (.tuple dk); omega
    have g1 : ((σ0.set a (some u1)).set b (some u2))[c]? = some (some (.ref tab)) := by
      rw [List.getElem?_set_ne hcb.symm, List.getElem?_set_ne hca.symm]; exact hc
    have g2 : ((σ0.set a (some u1)).set b (some u2))[a]? = some (some u1) := by
      rw [List.getElem?_set_ne hab.symm, List.getElem?_set_self hla]
    have li := (List.getElem?_eq_some_iff.mp hd).1
    refine s_nput (x := .bool true) (evd_of (v := .bl true) Evl.ev_c fun _ => .bl _) (Evl.ev_var g1) (evd_var g2 hu1) h3 h4.ko hk hdp (by have := h4.len; omega) fun v' b' H2 e2 hv' hb => ?_
    have n1 : NoSeq H2 tab := .ext (e2 _ _ h3)
    have s1 : DS K H2 (upd H2 tab (HD P w tab (entPut ws (nk (.tuple dk)) b' v'))) := DS.upd n1 _
    refine ⟨_, _, _, rfl, (h1.trans (DS.of e2)).trans s1, (h2.trans (Buts.of e2)).upd (List.mem_singleton.mpr rfl) _, upd_same, ((h4.ds (DS.of e2)).ds s1).put (s1.dp hb) hdp (by rw [hk]; exact hl), fun l => ?_⟩
    rw [keyData_put, hk, h5]
    constructor
    · rintro (h | h | ⟨p, hp', hl'⟩)
      · exact .inr ⟨_, (take_mem hd).mpr (.inr rfl), h.symm⟩
      · exact .inl h
      · exact .inr ⟨p, (take_mem hd).mpr (.inl hp'), hl'⟩
    · rintro (h | ⟨p, hp', hl'⟩)
      · exact .inr (.inl h)
      · rcases (take_mem hd).mp hp' with hp' | rfl
        · exact .inr (.inr ⟨p, hp', hl'⟩)
        · exact .inl hl'.symm
  · obtain ⟨x, y, ws, rfl, h1, h2, h3, h4, h5⟩ := h
    refine q x y ws H' h2 h3 h4 fun l => ?_
    have := h5 l
    rw [List.take_length] at this
    exact this
end
end K00
end

section
set_option Elab.async false
set_option linter.all false
set_option maxRecDepth 100000
set_option exponentiation.threshold 10000
set_option maxHeartbeats 4000000
/-! the letters of a polynomial; by an AI agent -/
namespace K00
open PySem PySem.Spec PyProof.Rows L2 RX
open Evl (Ex Ev EvT EvA EvL EvU RV RC)
def spLetters (K : PySem.W.Frag) : Sp := fun vs H Q _ => ∃ ts, DpAll K H vs [.tuple ts] ∧ ts.length ≤ 1000 ∧ (∀ t ∈ ts, okTerm t) ∧ ∀ v ls H', Ex H H' → Dp K H' v (.tuple ls) → Strict ls → (∀ l, l ∈ ls ↔ LetIn ts l) → Q v H'
theorem letIn_take {ts : List PyData} {i : Nat} {t m c : PyData} {ps : List PyData} {l : PyData} (h : ts[i]? = some t) (ht : t = .tuple [m, c]) (hm : m = .tuple ps) : LetIn (ts.take (i + 1)) l ↔ LetIn (ts.take i) l ∨ ∃ p ∈ ps, firstD p = l := by
  subst hm ht
  constructor
  · rintro ⟨d, hd, p, hp, hl⟩
    rcases (take_mem h).mp hd with hd | rfl
    · exact .inl ⟨d, hd, p, hp, hl⟩
    · exact .inr ⟨p, hp, hl⟩
  · rintro (⟨d, hd, p, hp, hl⟩ | ⟨p, hp, hl⟩)
    · exact ⟨d, (take_mem h).mpr (.inl hd), p, hp, hl⟩
    · exact ⟨_, (take_mem h).mpr (.inr rfl), p, hp, hl⟩
section
variable {P : Program} {w : World} {K : PySem.W.Frag} {mg : Str → Option Value} {base : Heap}
abbrev s_letters_of : Stmt := topS 19
theorem sc_letters_of : FnScope ["p", "seen", "monomial", "_", "v"] ["p"] (defScope s_letters_of) := ⟨rfl, rfl, rfl, by decide +kernel, rfl, by decide +kernel, by decide +kernel⟩
theorem has_letters_of (T : Txt K mg) (D : DefAt K mg "letters_of" s_letters_of ["p"]) : Has P w K mg base 1 "letters_of" ["p"] (spLetters K) := by
  refine mk D sc_letters_of (fun vs H Q E h => ?_) (fun f cdv A outer s H vs Q E hr h => ?_)
  · obtain ⟨ts, h, _⟩ := h
    rw [dpAll_len h]; rfl
  obtain ⟨ts, hd, hn, hok, q⟩ := h
  obtain ⟨v, d, rfl, e, hv⟩ := args1 hd rfl
  obtain rfl : PyData.tuple ts = d := (List.cons.inj e).1
  refine ⟨_, (pss_cons (ps_set (i := 1) sc_letters_of.nd rfl (Or.inl rfl) pe_nnew)
  (pss_cons (ps_for PassesOwn.never rfl (pi_tup (pv 0)) (pg_tup rfl (pgs_cons (pg_name (i := 2) sc_letters_of.nd rfl (Or.inl rfl)) (pgs_cons (pg_name (i := 3) sc_letters_of.nd rfl (Or.inl rfl)) pgs_nil)))
  (pss_one (ps_for PassesOwn.never rfl (pi_tup (pv 2)) (pg_tup rfl (pgs_cons (pg_name (i := 4) sc_letters_of.nd rfl (Or.inl rfl)) (pgs_cons (pg_name (i := 3) sc_letters_of.nd rfl (Or.inl rfl)) pgs_nil)))
  (pss_one (ps_nput (u9 hr) (pv 1) (pv 4) pe_bl rfl)))))
  (pss_one (ps_ret (pe_callTy call_tuple_of (by rfl) T.tuple (by decide +kernel) (pa_cons (pe_callB (call_sortedDN rfl (u45 hr)) (by rfl) T.sorted (by decide +kernel) (pa_cons (pv 1) pa_nil)) pa_nil)))))), ?_⟩
  try dsimp only [cxOf, Cx.nox]
  try dsimp only [tNext, tSeq]
  intro tab ht
  have E0 : Ex H (upd H tab (HD P w tab [])) := Ex.new ht
  try dsimp only [tNext, tSeq, gName, List.set]
  refine s_forTD (ds := ts) (evd_var rfl (dp_ex E0 hv)) (fun H1 i σ' H' => ∃ (x y z : Option V) (ws : List Ent), σ' = [some v, some (.ref tab), x, y, z] ∧ DS K H1 H' ∧ Buts [tab] H H' ∧ H' tab = some (HD P w tab ws) ∧ LE' K H' ws (3 * i) ∧ ∀ l, l ∈ keyData ws ↔ LetIn (ts.take i) l)
    (fun H1 e1 => ⟨none, none, none, [], rfl, DS.refl, Buts.of (E0.trans e1), e1 _ _ upd_same, LE'.nil, fun l => ⟨fun h => (nomatch h), fun ⟨d, hd, _⟩ => by simp at hd⟩⟩) (fun H1 i σ' H' h => ?_) (fun H1 i x d σ' H' e1 hd hx h => ?_) (fun H1 σ' H' e1 h => ?_)
  · obtain ⟨x, y, z, ws, _, h, _⟩ := h
    exact h
  · obtain ⟨x', y, z, ws, rfl, h1, h2, h3, h4, h5⟩ := h
    obtain ⟨m, c, rfl, hm⟩ := hok d (List.mem_of_getElem? hd)
    obtain ⟨ps, rfl, hpl, hps⟩ := mb_parts hm
    have li := (List.getElem?_eq_some_iff.mp hd).1
    refine g_pair hx fun u1 u2 hu1 hu2 => ?_
    refine s_lets (a := 4) (b := 3) (c := 1) (σ0 := [some v, some (.ref tab), some u1, none, none]) (x0 := z) (y0 := some u2) (tab := tab) (n := 3 * i) (parts := ps) (by decide) (by decide) (by decide) rfl (by show 4 < 5; omega) (evd_var rfl hu1) h3 h4 (by omega) hps fun x y kvs' H2 b2 t2 l2 k2 => ?_
    have n2 : NoSeq H' tab := .ext h3
    refine ⟨_, _, _, kvs', rfl, h1.trans (Buts.ds (fun q hq => by rw [List.mem_singleton.mp hq]; exact n2) b2), h2.trans b2, t2, ⟨l2.ko, l2.nd, by have := l2.len; omega, l2.lets⟩, fun l => ?_⟩
    rw [k2, h5, letIn_take hd rfl rfl]
  · obtain ⟨x', y, z, ws, rfl, h1, h2, h3, h4, h5⟩ := h
    rw [List.take_length] at h5
    have E3 : Ex H H' := fun b u hb => h2 b u (fun m => by rw [List.mem_singleton.mp m, ht] at hb; cases hb) hb
    have so : SortsD (keyData ws) := sorts_letters fun d hd' => by
      obtain ⟨e, he, rfl⟩ := List.mem_map.mp hd'
      exact (h4.lets e he).letter
    try dsimp only [tNext, tSeq]
    refine s_retD (K := K) (evd_tupOf (evd_sortedKeys (P := P) (w := w) (Evl.ev_var rfl) (.inl h3) h4.ko so)) fun v H2 e2 hv => q v _ H2 (E3.trans e2) hv (sortD_strict (keyData_nodup h4.nd) so.alike) fun l => ?_
    rw [sortD_mem, h5]
end
end K00
end

section
set_option Elab.async false
set_option linter.all false
set_option maxRecDepth 100000
set_option exponentiation.threshold 10000
set_option maxHeartbeats 4000000
/-! the names of a polynomial; by an AI agent -/
namespace K00
open PySem PySem.Spec PyProof.Rows L2 RX
open Evl (Ex Ev EvT EvA EvL EvU RV RC)
theorem alike_strs (a b : Str) : PySem.W.alike (.str a) (.str b) = true := by simp [PySem.W.alike]
theorem not_less {a b : Str} (h : ltCps a.cps.toList b.cps.toList = false) : PySem.W.dataLt (.str a) (.str b) = false := by
  rw [PySem.W.dataLt_str, ← ltCps_eq]; exact h
theorem strict_rise : ∀ (r : List Str) (p : Str), risingS p r = true → (p :: r).Nodup → Strict ((p :: r).map PyData.str)
  | [], p, _, _ => by unfold Strict; simp
  | x :: r, p, h, n => by
    have h' : (!ltCps x.cps.toList p.cps.toList && risingS x r) = true := h
    rw [Bool.and_eq_true, Bool.not_eq_true'] at h'
    have n2 := List.nodup_cons.mp n
    have ih := strict_rise r x h'.2 n2.2
    have px : PySem.W.dataLt (.str p) (.str x) = true := dataLt_tri (alike_strs _ _) (fun z => n2.1 (by cases z; exact List.mem_cons_self)) (not_less h'.1)
    have ih' := List.pairwise_cons.mp (show List.Pairwise _ (PyData.str x :: r.map PyData.str) from ih)
    refine List.pairwise_cons.mpr ⟨fun d hd => ?_, ih⟩
    rcases List.mem_cons.mp (show d ∈ PyData.str x :: r.map PyData.str from hd) with rfl | hd
    · exact px
    · exact dataLt_trans px (ih'.1 d hd)
theorem strict_strs {ss : List Str} (h : sortedS ss = true) (n : ss.Nodup) : Strict (ss.map PyData.str) := by
  cases ss with
  | nil => exact List.Pairwise.nil
  | cons p r => exact strict_rise r p h n
/-- keys of a table of names -/
def NmK (kvs : List (L2.Key × V)) (ns : List Str) : Prop := kvs.map (·.1) = ns.map Sum.inr ∧ ns.Nodup
theorem NmK.put {kvs : List (L2.Key × V)} {ns : List Str} (h : NmK kvs ns) (s : Str) (v : V) : ∃ ms, NmK (putK kvs (.inr s) v) ms ∧ ms.length ≤ ns.length + 1 ∧ ∀ t, t ∈ ms ↔ t = s ∨ t ∈ ns := by
  obtain ⟨h1, h2⟩ := h
  have mem : ∀ t : Str, (Sum.inr t : L2.Key) ∈ kvs.map (·.1) ↔ t ∈ ns := fun t => by
    rw [h1]
    constructor
    · intro h
      obtain ⟨x, hx, hx2⟩ := List.mem_map.mp h
      cases hx2; exact hx
    · exact fun h => List.mem_map.mpr ⟨t, h, rfl⟩
  unfold putK
  split
  · rename_i h
    have hs : s ∈ ns := by
      obtain ⟨kv, hk, hk2⟩ := List.any_eq_true.mp h
      exact (mem s).mp (List.mem_map.mpr ⟨kv, hk, of_decide_eq_true hk2⟩)
    refine ⟨ns, ⟨?_, h2⟩, by omega, fun t => ⟨.inr, fun z => z.elim (fun z => z ▸ hs) id⟩⟩
    rw [← h1, List.map_map]
    refine List.map_congr_left fun kv _ => ?_
    show (if kv.1 = .inr s then (kv.1, v) else kv).1 = kv.1
    split <;> rfl
  · rename_i h
    have hs : s ∉ ns := fun z => h (by
      obtain ⟨kv, hk, hk2⟩ := List.mem_map.mp ((mem s).mpr z)
      exact List.any_eq_true.mpr ⟨kv, hk, decide_eq_true hk2⟩)
    refine ⟨ns ++ [s], ⟨?_, ?_⟩, by rw [List.length_append]; exact Nat.le_refl _, fun t => ?_⟩
    · rw [List.map_append, List.map_append, h1]; rfl
    · rw [List.nodup_append]
      refine ⟨h2, by simp, fun x hx y hy z => hs ?_⟩
      rw [List.mem_singleton.mp hy] at z
      exact z ▸ hx
    · rw [List.mem_append, List.mem_singleton]
      exact Or.comm
/-- a name of the terms -/
def NameIn (ts : List PyData) (s : Str) : Prop := ∃ i : Int, LetIn ts (.tuple [.str s, .int i])
def spNames (K : PySem.W.Frag) : Sp := fun vs H Q _ => ∃ ts, DpAll K H vs [.tuple ts] ∧ ts.length ≤ 20 ∧ (∀ t ∈ ts, okTerm t) ∧ ∀ v (ss : List Str) H', Ex H H' → Dp K H' v (.tuple (ss.map PyData.str)) → Strict (ss.map PyData.str) → (∀ s, s ∈ ss ↔ NameIn ts s) → Q v H'
theorem firstD_at {ps : List PyData} {p : PyData} {s : Str} (hp : p ∈ ps) (e : ∃ i : Int, firstD p = .tuple [.str s, .int i]) : ∃ p ∈ ps, ∃ i : Int, firstD p = .tuple [.str s, .int i] := ⟨p, hp, e⟩
theorem nameIn_take {ts : List PyData} {i : Nat} {c : PyData} {ps : List PyData} {s : Str} (h : ts[i]? = some (.tuple [.tuple ps, c])) : NameIn (ts.take (i + 1)) s ↔ NameIn (ts.take i) s ∨ ∃ p ∈ ps, ∃ i : Int, firstD p = .tuple [.str s, .int i] := by
  constructor
  · rintro ⟨j, hj⟩
    rcases (letIn_take h rfl rfl).mp hj with hj | ⟨p, hp, hl⟩
    · exact .inl ⟨j, hj⟩
    · exact .inr ⟨p, hp, j, hl⟩
  · rintro (⟨j, hj⟩ | ⟨p, hp, j, hl⟩)
    · exact ⟨j, (letIn_take h rfl rfl).mpr (.inl hj)⟩
    · exact ⟨j, (letIn_take h rfl rfl).mpr (.inr ⟨p, hp, hl⟩)⟩
theorem hu_of {A : Around} {k : Nat} (hr : Room k A) : A.units + 1 < cLine := by have := hr.un; omega
section
variable {P : Program} {w : World} {K : PySem.W.Frag} {mg : Str → Option Value} {base : Heap}
theorem dp_strs {H : Hp} : ∀ ys : List Str, DpAll K H (ys.map V.str) (ys.map PyData.str)
  | [] => .nil
  | y :: r => .cons (.str y) (dp_strs r)
abbrev s_names_of : Stmt := topS 20
theorem sc_names_of : FnScope ["p", "seen", "monomial", "_", "v"] ["p"] (defScope s_names_of) := ⟨rfl, rfl, rfl, by decide +kernel, rfl, by decide +kernel, by decide +kernel⟩
theorem has_names_of (T : Txt K mg) (D : DefAt K mg "names_of" s_names_of ["p"]) : Has P w K mg base 1 "names_of" ["p"] (spNames K) := by
  refine mk D sc_names_of (fun vs H Q E h => ?_) (fun f cdv A outer s H vs Q E hr h => ?_)
  · obtain ⟨ts, h, _⟩ := h
    rw [dpAll_len h]; rfl
  obtain ⟨ts, hd, hn, hok, q⟩ := h
  obtain ⟨v, d, rfl, e, hv⟩ := args1 hd rfl
  obtain rfl : PyData.tuple ts = d := (List.cons.inj e).1
  refine ⟨_, (pss_cons (ps_set (i := 1) sc_names_of.nd rfl (Or.inl rfl) pe_dnewK)
  (pss_cons (ps_for PassesOwn.never rfl (pi_tup (pv 0)) (pg_tup rfl (pgs_cons (pg_name (i := 2) sc_names_of.nd rfl (Or.inl rfl)) (pgs_cons (pg_name (i := 3) sc_names_of.nd rfl (Or.inl rfl)) pgs_nil)))
  (pss_one (ps_for PassesOwn.never rfl (pi_tup (pv 2)) (pg_tup rfl (pgs_cons (pg_name (i := 4) sc_names_of.nd rfl (Or.inl rfl)) (pgs_cons (pg_name (i := 3) sc_names_of.nd rfl (Or.inl rfl)) pgs_nil)))
  (pss_one (ps_dput (hu_of hr) (pv 1) (pe_ix ix_tup (pv 4) pe_int (fun _ _ => rfl)) pe_bl rfl)))))
  (pss_one (ps_ret (pe_callTy call_tuple_of (by rfl) T.tuple (by decide +kernel) (pa_cons (pe_callB (call_sortedD rfl) (by rfl) T.sorted (by decide +kernel) (pa_cons (pv 1) pa_nil)) pa_nil)))))), ?_⟩
  try dsimp only [cxOf, Cx.nox]
  try dsimp only [tNext, tSeq]
  intro tab ht
  have E0 : Ex H (upd H tab (.dK [])) := Ex.new ht
  try dsimp only [tNext, tSeq, gName, List.set]
  have nsK : ∀ {H' : Hp} {kvs : List (L2.Key × V)}, H' tab = some (.dK kvs) → NoSeq H' tab := fun h => .of h (fun _ z => nomatch z) (fun _ z => nomatch z) (fun _ _ z => nomatch z)
  refine s_forTD (ds := ts) (evd_var rfl (dp_ex E0 hv)) (fun H1 i σ' H' => ∃ (x y z : Option V) (ws : List (L2.Key × V)) (ns : List Str), σ' = [some v, some (.ref tab), x, y, z] ∧ DS K H1 H' ∧ Buts [tab] H H' ∧ H' tab = some (.dK ws) ∧ NmK ws ns ∧ ns.length ≤ 3 * i ∧ ∀ s, s ∈ ns ↔ NameIn (ts.take i) s)
    (fun H1 e1 => ⟨none, none, none, [], [], rfl, DS.refl, Buts.of (E0.trans e1), e1 _ _ upd_same, ⟨rfl, List.nodup_nil⟩, Nat.zero_le _, fun l => ⟨fun h => (nomatch h), fun ⟨_, d, hd, _⟩ => by simp at hd⟩⟩) (fun H1 i σ' H' h => ?_) (fun H1 i x d σ' H' e1 hd hx h => ?_) (fun H1 σ' H' e1 h => ?_)
  · obtain ⟨x, y, z, ws, ns, _, h, _⟩ := h
    exact h
  · obtain ⟨x', y, z, ws, ns, rfl, h1, h2, h3, h4, h5, h6⟩ := h
    obtain ⟨m, c, rfl, hm⟩ := hok d (List.mem_of_getElem? hd)
    obtain ⟨ps, rfl, hpl, hps⟩ := mb_parts hm
    have li := (List.getElem?_eq_some_iff.mp hd).1
    refine g_pair hx fun u1 u2 hu1 hu2 => ?_
    dsimp only [List.set]
    refine s_forTD (ds := ps) (evd_var rfl hu1) (fun H2 j σ' H3 => ∃ (y z : Option V) (ws : List (L2.Key × V)) (ms : List Str), σ' = [some v, some (.ref tab), some u1, y, z] ∧ DS K H2 H3 ∧ DS K H1 H3 ∧ Buts [tab] H H3 ∧ H3 tab = some (.dK ws) ∧ NmK ws ms ∧ ms.length ≤ 3 * i + j ∧ ∀ s, s ∈ ms ↔ NameIn (ts.take i) s ∨ ∃ p ∈ ps.take j, ∃ i : Int, firstD p = .tuple [.str s, .int i])
      (fun H2 e2 => ⟨_, _, ws, ns, rfl, DS.refl, h1.trans (DS.of e2), h2.trans (Buts.of e2), e2 _ _ h3, h4, h5, fun s => by rw [h6]; simp⟩) (fun H2 j σ' H3 h => ?_) (fun H2 j y1 d σ' H3 e2 hd2 hy1 h => ?_) (fun H2 σ' H3 e2 h => ?_)
    · obtain ⟨_, _, _, _, _, h, _⟩ := h
      exact h
    · obtain ⟨y', z', ws', ms, rfl, g0, g1, g2, g3, g4, g5, g6⟩ := h
      obtain ⟨l, ee, rfl, s, k, rfl, hs, _⟩ := hps d (List.mem_of_getElem? hd2)
      refine g_pair hy1 fun w1 w2 hw1 hw2 => ?_
      dsimp only [List.set]
      have lj := (List.getElem?_eq_some_iff.mp hd2).1
      have lk : ws'.length = ms.length := by
        have := congrArg List.length g4.1
        rw [List.length_map, List.length_map] at this
        exact this
      refine s_dput (v := .bl true) Evl.ev_c (Evl.ev_var rfl) (ev_str (evd_ixT (K := K) (i := 0) (evd_var rfl hw1) Evl.ev_c rfl)) g3 (by omega) fun H4 e4 => ?_
      obtain ⟨ms', p1, p2, p3⟩ := g4.put s (.bl true)
      have n4 := nsK (e4 _ _ g3)
      have s4 : DS K H3 (upd H4 tab (.dK (putK ws' (.inr s) (.bl true)))) := (DS.of e4).trans (DS.upd n4 _)
      refine ⟨_, _, _, ms', rfl, g0.trans s4, g1.trans s4, (g2.trans (Buts.of e4)).upd (List.mem_singleton.mpr rfl) _, upd_same, p1, by omega, fun t => ?_⟩
      rw [p3, g6]
      constructor
      · rintro (rfl | h | ⟨p, hp, h⟩)
        · exact .inr ⟨_, (take_mem hd2).mpr (.inr rfl), k, rfl⟩
        · exact .inl h
        · exact .inr ⟨p, (take_mem hd2).mpr (.inl hp), h⟩
      · rintro (h | ⟨p, hp, k', h⟩)
        · exact .inr (.inl h)
        · rcases (take_mem hd2).mp hp with hp | rfl
          · exact .inr (.inr ⟨p, hp, k', h⟩)
          · have h' : PyData.tuple [.str s, .int k] = .tuple [.str t, .int k'] := h
            simp at h'
            exact .inl h'.1.symm
    · obtain ⟨y', z', ws', ms, rfl, g0, g1, g2, g3, g4, g5, g6⟩ := h
      rw [List.take_length] at g6
      exact ⟨_, _, _, ws', ms, rfl, g1, g2, g3, g4, by omega, fun s => by rw [g6, nameIn_take hd]⟩
  · obtain ⟨x', y, z, ws, ns, rfl, h1, h2, h3, h4, h5, h6⟩ := h
    rw [List.take_length] at h6
    have E3 : Ex H H' := fun b u hb => h2 b u (fun m => by rw [List.mem_singleton.mp m, ht] at hb; cases hb) hb
    try dsimp only [tNext, tSeq]
    dsimp only [tRet, tCB, tCons, tNil]
    refine Evl.ev_var (i := 1) (v := .ref tab) rfl H' (Ex.refl H') _ fun H2 e2 => ?_
    refine ⟨tab, ws, ns, rfl, .inl (e2 _ _ h3), h4.1, by omega, fun ys p hpm hso hp => ?_⟩
    refine ⟨p, ys.map V.str, rfl, .inl ⟨.inl (.inl upd_same), fun l hl => ?_⟩⟩
    refine q _ ys _ (((E3.trans e2).trans (Ex.new hp)).trans (Ex.new hl)) (.tup (.inl (.inl upd_same)) (dp_strs ys)) (strict_strs hso (hpm.nodup_iff.mpr h4.2)) fun s => ?_
    rw [hpm.mem_iff, h6]
end
end K00
end

section
set_option Elab.async false
set_option linter.all false
set_option maxRecDepth 100000
set_option exponentiation.threshold 10000
set_option maxHeartbeats 4000000
/-! data of polynomials and their pieces; by an AI agent -/
namespace K00
open PySem L2 RX
mutual
def goodD : PyData → Prop
  | .int i => i.natAbs < 2 ^ 990
  | .str s => isNameL s.cps.toList = true
  | .tuple l => l.length ≤ 100 ∧ goodAll l
  | _ => False
def goodAll : List PyData → Prop
  | [] => True
  | d :: r => goodD d ∧ goodAll r
end
theorem goodAll_iff : ∀ {l : List PyData}, goodAll l ↔ ∀ d ∈ l, goodD d
  | [] => by simp [goodAll]
  | d :: r => by rw [goodAll, goodAll_iff]; simp
theorem good_tup {l : List PyData} : goodD (.tuple l) ↔ l.length ≤ 100 ∧ ∀ d ∈ l, goodD d := by rw [goodD, goodAll_iff]
theorem name_len {s : Str} (h : isNameL s.cps.toList = true) : s.length ≤ 8 := by
  rw [str_len]
  generalize s.cps.toList = l at h
  cases l with
  | nil => show 0 ≤ 8; omega
  | cons a r =>
    rw [isNameL_cons, Bool.and_eq_true, Bool.and_eq_true] at h
    exact of_decide_eq_true h.1.1
theorem sign_ok : (∀ c ∈ smallS.cps.toList, c < 0x110000) ∧ ∀ c ∈ digS.cps.toList, c < 0x110000 := by decide +kernel
theorem name_ok {s : Str} (h : isNameL s.cps.toList = true) : PyData.canLay0 (.str s) = true := by
  have e : PyData.canLay0 (.str s) = s.cps.all (· < 0x110000) := by simp only [PyData.canLay0]; rfl
  rw [e, ← Array.all_toList]
  generalize s.cps.toList = l at h
  cases l with
  | nil => rfl
  | cons a r =>
    rw [isNameL_cons, Bool.and_eq_true, Bool.and_eq_true] at h
    rw [List.all_eq_true] at h ⊢
    intro x hx
    have hs := h.2 x hx
    refine decide_eq_true ?_
    rw [Bool.or_eq_true] at hs
    rcases hs with hs | hs
    · exact sign_ok.1 x (of_decide_eq_true hs)
    · exact sign_ok.2 x (of_decide_eq_true hs)
theorem shortAll_iff : ∀ {l : List PyData}, shortAll l ↔ ∀ d ∈ l, shortD d
  | [] => by simp [shortAll]
  | d :: r => by rw [shortAll, shortAll_iff]; simp
mutual
theorem good_short : ∀ {d : PyData}, goodD d → shortD d
  | .int i, _ => by simp [shortD]
  | .str s, h => by
    rw [goodD] at h
    rw [shortD]
    have := name_len h
    omega
  | .tuple l, h => by
    rw [goodD] at h
    rw [shortD]
    exact ⟨by have := h.1; omega, goodAll_short h.2⟩
  | .none, h => by simp [goodD] at h
  | .bool b, h => by simp [goodD] at h
  | .list l, h => by simp [goodD] at h
  | .dict l, h => by simp [goodD] at h
theorem goodAll_short : ∀ {l : List PyData}, goodAll l → shortAll l
  | [], _ => by rw [shortAll]; trivial
  | d :: r, h => by
    rw [goodAll] at h
    rw [shortAll]
    exact ⟨good_short h.1, goodAll_short h.2⟩
end
mutual
theorem good_key : ∀ {d : PyData}, goodD d → keyD d = true
  | .int i, _ => by simp [keyD]
  | .str s, h => by simp [keyD]
  | .tuple l, h => by
    rw [goodD] at h
    rw [keyD]
    exact goodAll_key h.2
  | .none, h => by simp [goodD] at h
  | .bool b, h => by simp [goodD] at h
  | .list l, h => by simp [goodD] at h
  | .dict l, h => by simp [goodD] at h
theorem goodAll_key : ∀ {l : List PyData}, goodAll l → keyAllD l = true
  | [], _ => by rw [keyAllD]
  | d :: r, h => by
    rw [goodAll] at h
    rw [keyAllD, good_key h.1, goodAll_key h.2]; rfl
end
mutual
theorem good_lay : ∀ {d : PyData}, goodD d → d.canLay0 = true
  | .int i, _ => by simp [PyData.canLay0]
  | .str s, h => by
    rw [goodD] at h
    exact name_ok h
  | .tuple l, h => by
    rw [goodD] at h
    rw [PyData.canLay0]
    exact goodAll_lay h.2
  | .none, h => by simp [goodD] at h
  | .bool b, h => by simp [goodD] at h
  | .list l, h => by simp [goodD] at h
  | .dict l, h => by simp [goodD] at h
theorem goodAll_lay : ∀ {l : List PyData}, goodAll l → PyData.canLayAll0 l = true
  | [], _ => by rw [PyData.canLayAll0]
  | d :: r, h => by
    rw [goodAll] at h
    rw [PyData.canLayAll0, good_lay h.1, goodAll_lay h.2]; rfl
end
theorem good_shaped {d : PyData} (h : goodD d) (hd : d.depth ≤ 64) : SeqAt.shaped d = true := by
  unfold SeqAt.shaped
  rw [good_lay h, decide_eq_true hd]; rfl
end K00
end

section
set_option Elab.async false
set_option linter.all false
set_option maxRecDepth 100000
set_option exponentiation.threshold 10000
set_option maxHeartbeats 4000000
/-! texts, lists of many kinds; by an AI agent -/
namespace K00
open PySem PySem.Spec PyProof.Rows L2 RX
open Evl (Ex Ev EvT EvA EvL EvU RV RC)
theorem len_add (x y : Str) : (x ++ y).length = x.length + y.length := by rw [str_len, str_len, str_len, str_add, List.length_append]
theorem len_cut (z : Str) (lo hi : Option Int) : (cutS z lo hi).length ≤ z.length := by
  rw [str_len, str_len]
  show ((List.take _ (List.drop _ z.cps.toList)).toArray.toList).length ≤ _
  rw [List.toList_toArray, List.length_take, List.length_drop]
  omega
theorem len_int {i : Int} (h : i.natAbs < 2 ^ 990) : (Str.ofString (toString i)).length ≤ 1000 := by
  have h1 := PySem.Flt.log2_lt_of (show 0 < 990 by omega) h
  rw [PySem.ofString_length]
  have h2 := PySem.int_text_length_le (a := i) (show 0 < 990 by omega) h1
  omega
section
variable {K : PySem.W.Frag} {σ : L2.St} {H : Hp} {ta tb : TE} {ds : List PyData}
theorem ev_slS {tl th : TO} {z : Str} {lo hi : Option Int} (ha : Ev ta σ H (.str z)) (h1 : Evl.EvO tl σ H lo) (h2 : Evl.EvO th σ H hi) (hz : z.length ≤ 100000) : Ev (L2.tSl rSlS ta tl th) σ H (.str (cutS z lo hi)) := fun H1 m Q q =>
  ha H1 m _ fun H2 e2 => h1 H2 (m.trans e2) _ fun H3 e3 => h2 H3 ((m.trans e2).trans e3) _ fun H4 e4 => ⟨z, rfl, Evl.sz_of hz, q H4 ((e2.trans e3).trans e4)⟩
theorem ev_upper {z : Str} (ha : Ev ta σ H (.str z)) (hz : z.length ≤ 100000) : Ev (tM0 (fun x xs H Q => ∃ a, x = .str a ∧ xs = [] ∧ a.length ≤ 5592405 ∧ Q (.str (Txt.upper a)) H) ta) σ H (.str (Txt.upper z)) := fun H1 m Q q =>
  ha H1 m _ fun H2 e2 => ⟨⟨z, rfl⟩, z, rfl, rfl, by omega, q H2 e2⟩
theorem ev_strI {i : Int} (ha : Ev ta σ H (.int i)) (hz : i.natAbs.log2 < 1920) : Ev (tCB (fun xs H Q => ∃ i, xs = [.int i] ∧ i.natAbs.log2 < 1920 ∧ Q (.str (Str.ofString (toString i))) H) (tCons ta tNil)) σ H (.str (Str.ofString (toString i))) := fun H1 m Q q =>
  ha H1 m _ fun H2 e2 => ⟨i, rfl, hz, q H2 e2⟩
theorem evd_ixLi {i : Int} {d : PyData} (ha : EvD K ta σ H (.list ds)) (hb : Ev tb σ H (.int i)) (h0 : 0 ≤ i) (hi : ds[i.toNat]? = some d) : EvD K (tOp (rIxL K) ta tb) σ H d := fun H1 m Q q =>
  ha H1 m _ fun v H2 e2 hv => hb H2 (m.trans e2) _ fun H3 e3 => by
    obtain ⟨a, xs, rfl, sa, da⟩ := dp_lst (dp_ex e3 hv)
    obtain ⟨u, hu, du⟩ := dpAll_get da hi
    have e : i = ((i.toNat : Nat) : Int) := by omega
    have h := atI_nat hu
    rw [← e] at h
    exact ⟨a, xs, i, u, rfl, rfl, sa, h, q u H3 (e2.trans e3) du⟩
theorem evd_ixTi {i : Int} {d : PyData} (ha : EvD K ta σ H (.tuple ds)) (hb : Ev tb σ H (.int i)) (h0 : 0 ≤ i) (hi : ds[i.toNat]? = some d) : EvD K (tOp (rIxT K) ta tb) σ H d := fun H1 m Q q =>
  ha H1 m _ fun v H2 e2 hv => hb H2 (m.trans e2) _ fun H3 e3 => by
    obtain ⟨a, xs, rfl, sa, da⟩ := dp_tup (dp_ex e3 hv)
    obtain ⟨u, hu, du⟩ := dpAll_get da hi
    have e : i = ((i.toNat : Nat) : Int) := by omega
    have h := atI_nat hu
    rw [← e] at h
    exact ⟨a, xs, i, u, rfl, rfl, sa, h, q u H3 (e2.trans e3) du⟩
theorem ev_neg {i : Int} (ha : Ev ta σ H (.int i)) : Ev (tUn (rU fun i => .int (-i)) ta) σ H (.int (-i)) := Evl.ev_un ha Evl.ru_neg
end
theorem call_len_seqK {X : Cx} (K : PySem.W.Frag) (h : X.K = K) : CallR X (.builtin "len") (fun xs H Q => ∃ p ys, xs = [.ref p] ∧ (SqL K H p ys ∨ SqT K H p ys) ∧ Q (.int ys.length) H) := by
  subst h
  exact call_len_seq
/-! [t[len(t) - 1 - k] for k in range(len(t))] -/
section
variable {K : PySem.W.Frag} {σ : L2.St} {H : Hp} {te : TE} {ta : TA} {vs : List Nat} {ds : List PyData}
theorem evd_lcR {j : Nat} {n : Nat} {f : Nat → PyData} (h : EvA ta σ H [.int (n : Int)]) (hn : n ≤ 40000) (hk : ∀ i, i < n → keyD (f i) = true) (hw : ∀ x, wipe ((wipe σ vs).set j (some x)) vs = wipe σ vs)
    (he : ∀ (i : Nat) H1, Ex H H1 → i < n → EvD K te ((wipe σ vs).set j (some (.int (i : Int)))) H1 (f i)) : EvD K (tLc (iRng1 ta) (gName j) tYes te vs) σ H (.list ((List.range n).map f)) := fun H0 e Q q => h H0 e _ fun H1 e1 => ⟨(n : Int), rfl, by omega, by omega, fun D hD => by
  have kk : keyAllD ((List.range n).map f) = true := keyAll_iff.mpr fun x hx => by
    obtain ⟨i, hi, rfl⟩ := List.mem_map.mp hx
    exact hk i (List.mem_range.mp hi)
  refine lc_range (lo := 0) (n := (n : Int).toNat) (LcD K H1 ((List.range n).map f) D) ⟨hD, Ex.new hD, [], upd_same, .nil⟩ (fun i H' hi p => ?_) (fun H' p => ?_)
  · have e0 : (0 : Int) + (i : Int) = (i : Int) := Int.zero_add _
    show wipe ((wipe σ vs).set j (some (.int ((0 : Int) + (i : Int))))) vs = wipe σ vs ∧ (if true = true then te ((wipe σ vs).set j (some (.int ((0 : Int) + (i : Int))))) H' fun y H4 => ∃ acc, H4 D = some (.lst acc) ∧ acc.length < sizeLine ∧ LcD K H1 ((List.range n).map f) D (i + 1) (upd H4 D (.lst (acc ++ [y]))) else LcD K H1 ((List.range n).map f) D (i + 1) H')
    rw [e0]
    refine ⟨hw _, iteT (he i H' ((e.trans e1).trans p.2.1) (by omega) H' (Ex.refl H') _ fun y H4 e4 hy => ?_)⟩
    refine lcd_turn (i := i) kk (by rw [List.length_map, List.length_range]; exact hn) (by rw [List.getElem?_map, List.getElem?_range (by omega)]; rfl) ?_ hy
    obtain ⟨p1, p2, acc, p3, p4⟩ := p
    exact ⟨p1, p2.trans e4, acc, e4 _ _ p3, dpAll_ex e4 p4⟩
  · obtain ⟨p1, p2, acc, p3, p4⟩ := p
    have : (n : Int).toNat = ((List.range n).map f).length := by rw [List.length_map, List.length_range]; omega
    rw [this, List.take_length] at p4
    exact q _ H' (e1.trans p2) (.lst (.inl (.inl p3)) p4)⟩
end
end K00
end

section
set_option Elab.async false
set_option linter.all false
set_option maxRecDepth 100000
set_option exponentiation.threshold 10000
set_option maxHeartbeats 4000000
/-! the law: odd values; by an AI agent -/
namespace K00
open PySem PySem.Spec PyProof.Rows L2 RX
open Evl (Ex Ev EvT EvA EvL EvU RV RC)
abbrev goodRest (K : PySem.W.Frag) (H : Hp) (rest : List V) : Prop := ∃ v x, rest = [v] ∧ Dp K H v x ∧ goodD x ∧ x.depth ≤ 10
abbrev shortV (K : PySem.W.Frag) (H : Hp) (v : V) : Prop := ∃ x, Dp K H v x ∧ shortD x
abbrev pOdd (K : PySem.W.Frag) : Sp := spM K 2 1 (goodRest K) (shortV K)
theorem cut_mem {ds : List PyData} {lo hi : Option Int} {d : PyData} (h : d ∈ cutD ds lo hi) : d ∈ ds := List.mem_of_mem_drop (List.mem_of_mem_take h)
theorem cut_length {ds : List PyData} {lo hi : Option Int} : (cutD ds lo hi).length ≤ ds.length := by
  unfold RX.cutD
  rw [List.length_take, List.length_drop]
  omega
theorem short_tupI {l : List PyData} (h1 : l.length ≤ 1000) (h2 : ∀ d ∈ l, shortD d) : shortD (.tuple l) := by rw [short_tup, shortAll_iff]; exact ⟨h1, h2⟩
theorem short_strI {s : Str} (h : s.length ≤ 1000) : shortD (.str s) := by rw [shortD]; exact h
theorem short_intI {i : Int} : shortD (.int i) := by simp [shortD]
theorem eqv_empty {ds : List PyData} : PyData.eqv (.tuple ds) (.tuple []) = ds.isEmpty := by
  cases ds <;> simp [PyData.eqv, PyData.eqvAll]
/-- a value that stands alone -/
def okS (v : V) : Prop := ∃ x, (∀ (K : PySem.W.Frag) (H : Hp), Dp K H v x) ∧ shortD x
theorem okS_str {s : Str} (h : s.length ≤ 1000) : okS (.str s) := ⟨.str s, fun _ _ => .str s, short_strI h⟩
theorem okS_non : okS .non := ⟨.none, fun _ _ => .non, by simp [shortD]⟩
theorem lens : (("abcdefgh" : Str).length = 8 ∧ ("" : Str).length = 0 ∧ ("1" : Str).length = 1 ∧ ("_" : Str).length = 1 ∧ (" " : Str).length = 1 ∧ ("\n" : Str).length = 1 ∧ ("Z" : Str).length = 1 ∧ ("\t" : Str).length = 1 ∧ ("-" : Str).length = 1) := by decide +kernel
section
variable {P : Program} {w : World} {K : PySem.W.Frag} {mg : Str → Option Value} {base : Heap}
abbrev s__law_odd : Stmt := topS 42
theorem sc__law_odd : FnScope ["m", "part", "way", "odds", "k"] ["m", "part"] (defScope s__law_odd) := ⟨rfl, rfl, rfl, by decide +kernel, rfl, by decide +kernel, by decide +kernel⟩
theorem has_law_odd (T : Txt K mg) (D : DefAt K mg "_law_odd" s__law_odd ["m", "part"]) (h_law_draw : Has P w K mg base 1 "_law_draw" ["m", "below"] (spDraw K)) (h_law_of : Has P w K mg base 2 "_law_of" ["m", "some"] (spOf K)) : Has P w K mg base 3 "_law_odd" ["m", "part"] (pOdd K) := by
  refine mk D sc__law_odd (fun vs H Q E h => spM_len h) (fun f cdv A outer s H vs Q E hr h => ?_)
  obtain ⟨m, k, rest, rfl, hl, st, hk, ⟨v, x, rfl, hv0, hg, hdp⟩, fin⟩ := h
  refine ⟨_, (pss_cons (ps_set (i := 2) sc__law_odd.nd rfl (Or.inl rfl) (ph h_law_draw (hr.mono (by decide)) (pa_cons (pv 0) (pa_cons pe_int pa_nil))))
  (pss_cons (ps_if (pt_val (pe_callB call_isi (by rfl) T.isinstance (by decide +kernel) (pa_cons (pv 1) (pa_cons (pe_bltn (v := .ty "tuple") (u := .type "tuple") (by rfl) T.tuple (by decide +kernel) rfl) pa_nil))))
  (pss_cons (ps_if (pt_cmpR op_lt (pv 2) pe_int (nomark _))
  (pss_one (ps_ret (pe_callTy call_list_of (by rfl) T.list (by decide +kernel) (pa_cons (pv 1) pa_nil))))
  pss_nil)
  (pss_cons (ps_if (pt_cmpR op_eq (pv 2) pe_int (nomark _))
  (pss_one (ps_ret (pe_op op_catA (pv 1) (pe_slice sl_tupA (pv 1) po_none (po_some pe_int)))))
  pss_nil)
  (pss_cons (ps_if (pt_cmpR op_eq (pv 2) pe_int (nomark _))
  (pss_one (ps_ret (pe_slice sl_tupA (pv 1) (po_some pe_int) po_none)))
  pss_nil)
  (pss_cons (ps_if (pt_cmpR op_eq (pv 2) pe_int (nomark _))
  (pss_one (ps_ret (pe_ifExp (pt_cmpR (op_neD (u64 hr)) (pv 1) (pe_tup pa_nil) (nomark _)) (pe_slice sl_tupA (pv 1) po_none (po_some (pe_op op_sub (pe_callB call_len_seq (by rfl) T.len (by decide +kernel) (pa_cons (pv 1) pa_nil)) pe_int))) (pe_tup (pa_cons (pe_tup pa_nil) pa_nil)))))
  pss_nil)
  (pss_one (ps_ret (pe_callTy call_tuple_of (by rfl) T.tuple (by decide +kernel) (pa_cons (pe_lc (own := [("k", 4)]) (g := gName 4) (tt := tYes) rfl sc__law_odd.nd (pi_range1 (by rfl) T.range (pa_cons (pe_callB call_len_seq (by rfl) T.len (by decide +kernel) (pa_cons (pv 1) pa_nil)) pa_nil)) (blkOk_by (own := [("k", 4)]) (N := ["m", "part", "way", "odds", "k"]) (sc := defScope s__law_odd) (by decide +kernel)) (fun _ _ _ _ _ => (pg_name (i := 4) sc__law_odd.nd rfl (Or.inl rfl))) (fun _ _ _ _ _ => pts_nil) (fun _ _ _ _ _ => (pe_ix (ix_tupK K rfl) (pv 1) (pe_op op_sub (pe_op op_sub (pe_callB (call_len_seqK K rfl) (by rfl) T.len (by decide +kernel) (pa_cons (pv 1) pa_nil)) pe_int) (pv 4)) (fun _ _ => rfl)))) pa_nil))))))))
  pss_nil)
  (pss_cons (ps_if (pt_val (pe_callB call_isi (by rfl) T.isinstance (by decide +kernel) (pa_cons (pv 1) (pa_cons (pe_bltn (v := .ty "str") (u := .type "str") (by rfl) T.str (by decide +kernel) rfl) pa_nil))))
  (pss_cons (ps_set (i := 3) sc__law_odd.nd rfl (Or.inl rfl) (pe_lst (pa_cons (pe_op op_add_str (pv 1) pe_str) (pa_cons pe_str (pa_cons (pe_upper (pv 1)) (pa_cons (pe_op op_add_str pe_str (pv 1)) (pa_cons (pe_op op_add_str (pv 1) pe_str) (pa_cons (pe_op op_add_str (pv 1) pe_str) (pa_cons (pe_slice sl_str (pv 1) po_none (po_some pe_int)) (pa_cons pe_non (pa_cons (pe_op op_add_str (pv 1) pe_str) pa_nil)))))))))))
  (pss_one (ps_ret (ph h_law_of (hr.mono (by decide)) (pa_cons (pv 0) (pa_cons (pe_op op_cat (pv 3) (pe_lst (pa_cons (pe_op op_add_str (pe_slice sl_str (pv 1) po_none (po_some pe_int)) pe_str) (pa_cons (pe_op op_add_str pe_str (pv 1)) (pa_cons (pe_op op_add_str (pe_op op_add_str (pe_slice sl_str (pv 1) po_none (po_some pe_int)) pe_str) (pe_slice sl_str (pv 1) (po_some pe_int) po_none)) (pa_cons (pe_op op_add_str (pe_slice sl_str (pv 1) po_none (po_some pe_int)) pe_str) pa_nil)))))) pa_nil))))))
  pss_nil)
  (pss_one (ps_ret (pe_ix ix_list (pe_lst (pa_cons (pe_op op_add (pv 1) pe_int) (pa_cons (pe_un un_neg (pv 1)) (pa_cons pe_int (pa_cons pe_bl (pa_cons pe_non (pa_cons (pe_callTy call_str_int (by rfl) T.str (by decide +kernel) (pa_cons (pv 1) pa_nil)) (pa_cons (pe_tup (pa_cons (pv 1) pa_nil)) (pa_cons (pe_op op_mul (pv 1) pe_int) pa_nil))))))))) (pv 2) (fun _ _ => rfl))))))), ?_⟩
  try dsimp only [cxOf, Cx.nox]
  try dsimp only [tNext, tSeq]
  dsimp only [tAsg]
  refine m_draw (Evl.ev_var rfl) Evl.ev_c st (by omega) (by decide) (by omega) fun r H1 r0 r1 s1 b1 => ?_
  have hv : Dp K H1 v x := dp_but st.noSeq b1 hv0
  dsimp only [gName, List.set]
  have fin1 : ∀ v' x' H', Ex H1 H' → Dp K H' v' x' → shortD x' → Q v' H' := fun v' x' H' e h1 h2 => fin v' H' ((s1.ex e).mono (by omega)) (b1.trans (But.of e)) ⟨x', h1, h2⟩
  have cmp : ∀ (n : Int) {σ' : L2.St} {H' : Hp}, σ'[2]? = some (some (.int r)) → EvT (tTest (tOp rEq (tVar 2) (tC (.int n)))) σ' H' (decide (V.int r = V.int n)) := fun n {σ' H'} h => Evl.et_test (Evl.ev_op (Evl.ev_var h) Evl.ev_c (Evl.rv_eq rfl))
  match x, hg, hdp, hv with
  | .none, hg, _, _ => simp [goodD] at hg
  | .bool b, hg, _, _ => simp [goodD] at hg
  | .list l, hg, _, _ => simp [goodD] at hg
  | .dict l, hg, _, _ => simp [goodD] at hg
  | .tuple ds, hg, hdp, hv =>
    have sh := good_shaped hg (by omega)
    have hg' := good_tup.mp hg
    refine Evl.s_if (b := true) (Evl.et_is (Evl.et_B (ev_isi_tuple (K := K) (evd_var rfl hv) Evl.ev_c)) rfl) (fun _ H2 e2 => ?_) (fun z => nomatch z)
    try dsimp only [tNext, tSeq]
    refine Evl.s_if (b := decide (r < 2)) (Evl.et_test (Evl.ev_is (ev_I (g := fun i j => .bl (decide (i < j))) (Evl.ev_var rfl) Evl.ev_c) rfl)) (fun _ H3 e3 => ?_) (fun _ H3 e3 => ?_)
    · refine s_retD (K := K) (evd_listOfT (evd_var rfl (dp_ex (e2.trans e3) hv))) fun v' H4 e4 h4 => fin1 v' _ H4 ((e2.trans e3).trans e4) h4 ?_
      rw [shortD, shortAll_iff]
      exact ⟨by omega, fun d hd => good_short (hg'.2 d hd)⟩
    try dsimp only [tNext, tSeq]
    refine Evl.s_if (cmp 2 rfl) (fun _ H4 e4 => ?_) (fun _ H4 e4 => ?_)
    · have E4 := (e2.trans e3).trans e4
      refine s_retD (K := K) (evd_cat (evd_var rfl (dp_ex E4 hv)) (evd_sl (evd_var rfl (dp_ex E4 hv)) Evl.eo_none (Evl.eo_some Evl.ev_c)) (by have := cut_length (ds := ds) (lo := none) (hi := some 1); omega)) fun v' H5 e5 h5 => fin1 v' _ H5 (E4.trans e5) h5 (short_tupI (by rw [List.length_append]; have := cut_length (ds := ds) (lo := none) (hi := some 1); omega) fun d hd => ?_)
      rcases List.mem_append.mp hd with hd | hd
      · exact good_short (hg'.2 d hd)
      · exact good_short (hg'.2 d (cut_mem hd))
    try dsimp only [tNext, tSeq]
    refine Evl.s_if (cmp 3 rfl) (fun _ H5 e5 => ?_) (fun _ H5 e5 => ?_)
    · have E5 := ((e2.trans e3).trans e4).trans e5
      exact s_retD (K := K) (evd_sl (evd_var rfl (dp_ex E5 hv)) (Evl.eo_some Evl.ev_c) Evl.eo_none) fun v' H6 e6 h6 => fin1 v' _ H6 (E5.trans e6) h6 (short_tupI (by have := cut_length (ds := ds) (lo := some 1) (hi := none); omega) fun d hd => good_short (hg'.2 d (cut_mem hd)))
    try dsimp only [tNext, tSeq]
    refine Evl.s_if (cmp 4 rfl) (fun _ H6 e6 => ?_) (fun _ H6 e6 => ?_)
    · have E6 := (((e2.trans e3).trans e4).trans e5).trans e6
      have tst := Evl.et_test (ev_neD (K := K) (evd_var (σ := [some (.ref m), some v, some (.int r), none, none]) (i := 1) rfl (dp_ex E6 hv)) (evd_tup (ta := tNil) ead_nil (by decide)) sh rfl)
      rw [eqv_empty] at tst
      cases ds with
      | nil =>
        refine s_retD (K := K) (d := .tuple [.tuple []]) (evd_if (b := false) tst (fun z => nomatch z) fun _ => evd_tup (ead_cons (evd_tup ead_nil (by decide)) ead_nil) sz1) fun v' H7 e7 h7 => fin1 v' _ H7 (E6.trans e7) h7 (short_tupI (by decide) fun d hd => ?_)
        rw [List.mem_singleton.mp hd]
        exact short_tupI (by decide) fun _ z => nomatch z
      | cons a rr =>
        exact s_retD (K := K) (d := .tuple (cutD (a :: rr) none (some (((a :: rr).length : Nat) - 1 : Int)))) (evd_if (b := true) tst (fun _ => evd_sl (evd_var rfl (dp_ex E6 hv)) Evl.eo_none (Evl.eo_some (ev_sub (ev_lenT (evd_var rfl (dp_ex E6 hv))) Evl.ev_c))) fun z => nomatch z) fun v' H7 e7 h7 => fin1 v' _ H7 (E6.trans e7) h7
          (short_tupI (by have := cut_length (ds := a :: rr) (lo := none) (hi := some (((a :: rr).length : Nat) - 1 : Int)); omega) fun d hd => good_short (hg'.2 d (cut_mem hd)))
    try dsimp only [tNext, tSeq]
    have E6 := (((e2.trans e3).trans e4).trans e5).trans e6
    have get : ∀ i, i < ds.length → ∃ d, ds[ds.length - 1 - i]? = some d ∧ ds.getD (ds.length - 1 - i) .none = d ∧ d ∈ ds := fun i hi => by
      have hlt : ds.length - 1 - i < ds.length := by omega
      refine ⟨ds[ds.length - 1 - i], List.getElem?_eq_getElem hlt, ?_, List.getElem_mem hlt⟩
      rw [List.getD_eq_getElem?_getD, List.getElem?_eq_getElem hlt]; rfl
    refine s_retD (K := K) (evd_tupOf (evd_lcR (n := ds.length) (f := fun i => ds.getD (ds.length - 1 - i) .none) (Evl.ea_cons (ev_lenT (evd_var rfl (dp_ex E6 hv))) Evl.ea_nil) (by omega) (fun i hi => ?_) (fun x => rfl) (fun i H7 e7 hi => ?_))) fun v' H7 e7 h7 => fin1 v' _ H7 (E6.trans e7) h7 (short_tupI (by rw [List.length_map, List.length_range]; omega) fun d hd => ?_)
    · obtain ⟨d, _, h2, h3⟩ := get i hi
      show keyD (ds.getD (ds.length - 1 - i) .none) = true
      rw [h2]; exact good_key (hg'.2 d h3)
    · obtain ⟨d, h1, h2, h3⟩ := get i hi
      show EvD K _ _ H7 (ds.getD (ds.length - 1 - i) .none)
      rw [h2]
      exact evd_ixTi (i := ((ds.length : Nat) : Int) - 1 - (i : Int)) (evd_var rfl (dp_ex (E6.trans e7) hv)) (ev_sub (ev_sub (ev_lenT (evd_var rfl (dp_ex (E6.trans e7) hv))) Evl.ev_c) (Evl.ev_var rfl)) (by omega) (by
        have : (((ds.length : Nat) : Int) - 1 - (i : Int)).toNat = ds.length - 1 - i := by omega
        rw [this]; exact h1)
    · obtain ⟨i, hi, rfl⟩ := List.mem_map.mp hd
      obtain ⟨d, h1, h2, h3⟩ := get i (List.mem_range.mp hi)
      rw [h2]; exact good_short (hg'.2 d h3)
  | .str s, hg, _, hv =>
    have hs : isNameL s.cps.toList = true := by rw [goodD] at hg; exact hg
    have hl8 := name_len hs
    obtain ⟨q1, q2, q3, q4, q5, q6, q7, q8, q9⟩ := lens
    cases dp_str hv
    refine Evl.s_if (b := false) (Evl.et_is (Evl.et_B (ev_isi_tuple (K := K) (evd_var rfl hv) Evl.ev_c)) rfl) (fun z => nomatch z) (fun _ H2 e2 => ?_)
    try dsimp only [tNext, tSeq]
    refine Evl.s_if (b := true) (Evl.et_is (Evl.et_B (ev_isi (K := K) (evd_var rfl (dp_ex e2 hv)) Evl.ev_c (kits_str "str" (by simp [tyNames])))) (by decide)) (fun _ H3 e3 => ?_) (fun z => nomatch z)
    try dsimp only [tNext, tSeq]
    have up := PyProof.Rows.len_upper s
    have A : ∀ {a b : Str} {n : Nat}, a.length + b.length ≤ n → (a ++ b).length ≤ n := fun h => by rw [len_add]; exact h
    have C1 := len_cut s none (some 1)
    have C2 := len_cut s (some 1) none
    have C7 := len_cut s none (some 7)
    have vS : ∀ {σ' : L2.St} {H' : Hp}, σ'[1]? = some (some (.str s)) → Ev (tVar 1) σ' H' (.str s) := fun h => Evl.ev_var h
    refine Evl.s_asgL (xs := [.str (s ++ ("abcdefgh" : Str)), .str "", .str (Txt.upper s), .str (("1" : Str) ++ s), .str (s ++ ("_" : Str)), .str (s ++ (" " : Str)), .str (cutS s none (some 1)), .non, .str (s ++ ("\n" : Str))]) (Evl.el_lst (Evl.ea_cons (ev_addS (vS rfl) Evl.ev_c (by omega)) (Evl.ea_cons Evl.ev_c (Evl.ea_cons (ev_upper (vS rfl) (by omega)) (Evl.ea_cons (ev_addS Evl.ev_c (vS rfl) (by omega)) (Evl.ea_cons (ev_addS (vS rfl) Evl.ev_c (by omega)) (Evl.ea_cons (ev_addS (vS rfl) Evl.ev_c (by omega))
      (Evl.ea_cons (ev_slS (vS rfl) Evl.eo_none (Evl.eo_some Evl.ev_c) (by omega)) (Evl.ea_cons Evl.ev_c (Evl.ea_cons (ev_addS (vS rfl) Evl.ev_c (by omega)) Evl.ea_nil))))))))) (by show 9 ≤ 100000; omega)) fun p H4 hp e4 h4 => ?_
    have ok1 : ∀ v ∈ ([.str (s ++ ("abcdefgh" : Str)), .str "", .str (Txt.upper s), .str (("1" : Str) ++ s), .str (s ++ ("_" : Str)), .str (s ++ (" " : Str)), .str (cutS s none (some 1)), .non, .str (s ++ ("\n" : Str))] : List V), okS v := by
      intro v hv
      simp only [List.mem_cons, List.not_mem_nil, or_false] at hv
      rcases hv with rfl | rfl | rfl | rfl | rfl | rfl | rfl | rfl | rfl
      · exact okS_str (A (by omega))
      · exact okS_str (by omega)
      · exact okS_str (by omega)
      · exact okS_str (A (by omega))
      · exact okS_str (A (by omega))
      · exact okS_str (A (by omega))
      · exact okS_str (by omega)
      · exact okS_non
      · exact okS_str (A (by omega))
    have len9 : ([.str (s ++ ("abcdefgh" : Str)), .str "", .str (Txt.upper s), .str (("1" : Str) ++ s), .str (s ++ ("_" : Str)), .str (s ++ (" " : Str)), .str (cutS s none (some 1)), .non, .str (s ++ ("\n" : Str))] : List V).length = 9 := rfl
    generalize ([.str (s ++ ("abcdefgh" : Str)), .str "", .str (Txt.upper s), .str (("1" : Str) ++ s), .str (s ++ ("_" : Str)), .str (s ++ (" " : Str)), .str (cutS s none (some 1)), .non, .str (s ++ ("\n" : Str))] : List V) = xs at h4 ok1 len9
    try dsimp only [tNext, tSeq, List.set]
    dsimp only [tRet]
    have E4 := (e2.trans e3).trans e4
    refine m_call2 (Evl.ev_var (i := 0) (v := .ref m) rfl H4 (Ex.refl H4) _ fun H5 e5 => ?_)
    refine el_var (a := p) (xs := xs) (ys := [.str (cutS s none (some 7) ++ ("Z" : Str)), .str (("\t" : Str) ++ s), .str ((cutS s none (some 1) ++ ("\t" : Str)) ++ cutS s (some 1) none), .str (cutS s none (some 7) ++ ("-" : Str))]) rfl (e5 _ _ h4)
      (Evl.el_lst (Evl.ea_cons (ev_addS (ev_slS (vS rfl) Evl.eo_none (Evl.eo_some Evl.ev_c) (by omega)) Evl.ev_c (by omega)) (Evl.ea_cons (ev_addS Evl.ev_c (vS rfl) (by omega)) (Evl.ea_cons (ev_addS (ev_addS (ev_slS (vS rfl) Evl.eo_none (Evl.eo_some Evl.ev_c) (by omega)) Evl.ev_c (by omega)) (ev_slS (vS rfl) (Evl.eo_some Evl.ev_c) Evl.eo_none (by omega)) (by rw [len_add]; omega))
        (Evl.ea_cons (ev_addS (ev_slS (vS rfl) Evl.eo_none (Evl.eo_some Evl.ev_c) (by omega)) Evl.ev_c (by omega)) Evl.ea_nil)))) (by show 4 ≤ 100000; omega)) (by rw [len9]; show 9 + 4 ≤ 100000; omega) H5 (Ex.refl H5) _ fun t H6 ht e6 h6 => ?_
    have ok2 : ∀ v ∈ ([.str (cutS s none (some 7) ++ ("Z" : Str)), .str (("\t" : Str) ++ s), .str ((cutS s none (some 1) ++ ("\t" : Str)) ++ cutS s (some 1) none), .str (cutS s none (some 7) ++ ("-" : Str))] : List V), okS v := by
      intro v hv
      simp only [List.mem_cons, List.not_mem_nil, or_false] at hv
      rcases hv with rfl | rfl | rfl | rfl
      · exact okS_str (A (by omega))
      · exact okS_str (A (by omega))
      · exact okS_str (A (by rw [len_add]; omega))
      · exact okS_str (A (by omega))
    have len4 : ([.str (cutS s none (some 7) ++ ("Z" : Str)), .str (("\t" : Str) ++ s), .str ((cutS s none (some 1) ++ ("\t" : Str)) ++ cutS s (some 1) none), .str (cutS s none (some 7) ++ ("-" : Str))] : List V).length = 4 := rfl
    generalize ([.str (cutS s none (some 7) ++ ("Z" : Str)), .str (("\t" : Str) ++ s), .str ((cutS s none (some 1) ++ ("\t" : Str)) ++ cutS s (some 1) none), .str (cutS s none (some 7) ++ ("-" : Str))] : List V) = ys at h6 ok2 len4
    have E6 := (E4.trans e5).trans e6
    refine ⟨m, t, xs ++ ys, k + 1, rfl, s1.ex E6, .inl (.inl h6), by rw [List.length_append]; omega, by rw [List.length_append]; omega, by omega, fun i u H' hi s' bt => ?_⟩
    have oku : okS u := by
      rcases List.mem_append.mp (List.mem_of_getElem? hi) with hm | hm
      · exact ok1 u hm
      · exact ok2 u hm
    obtain ⟨x', hx1, hx2⟩ := oku
    exact fin u H' (s'.mono (by omega)) ((b1.trans (But.of E6)).trans bt) ⟨x', hx1 K H', hx2⟩
  | .int i, hg, _, hv =>
    have hi : i.natAbs < 2 ^ 990 := by rw [goodD] at hg; exact hg
    have hlog := PySem.Flt.log2_lt_of (show 0 < 990 by omega) hi
    cases dp_int hv
    refine Evl.s_if (b := false) (Evl.et_is (Evl.et_B (ev_isi_tuple (K := K) (evd_var rfl hv) Evl.ev_c)) rfl) (fun z => nomatch z) (fun _ H2 e2 => ?_)
    try dsimp only [tNext, tSeq]
    refine Evl.s_if (b := false) (Evl.et_is (Evl.et_B (ev_isi (K := K) (evd_var rfl (dp_ex e2 hv)) Evl.ev_c (kits_str "int" (by simp [tyNames])))) (by decide)) (fun z => nomatch z) (fun _ H3 e3 => ?_)
    try dsimp only [tNext, tSeq]
    have vI : ∀ {σ' : L2.St} {H' : Hp}, σ'[1]? = some (some (.int i)) → Ev (tVar 1) σ' H' (.int i) := fun h => Evl.ev_var h
    have okd : ∀ d ∈ [PyData.int (i + 1), .int (-i), .int 0, .bool true, .none, .str (Str.ofString (toString i)), .tuple [.int i], .int (i * 2)], shortD d := by
      intro d hd
      simp only [List.mem_cons, List.not_mem_nil, or_false] at hd
      rcases hd with rfl | rfl | rfl | rfl | rfl | rfl | rfl | rfl
      · exact short_intI
      · exact short_intI
      · exact short_intI
      · simp [shortD]
      · simp [shortD]
      · exact short_strI (len_int hi)
      · exact short_tupI (by show 1 ≤ 1000; omega) fun d hd => by rw [List.mem_singleton.mp hd]; exact short_intI
      · exact short_intI
    have len8 : [PyData.int (i + 1), .int (-i), .int 0, .bool true, .none, .str (Str.ofString (toString i)), .tuple [.int i], .int (i * 2)].length = 8 := rfl
    have hlt : r.toNat < [PyData.int (i + 1), .int (-i), .int 0, .bool true, .none, .str (Str.ofString (toString i)), .tuple [.int i], .int (i * 2)].length := by rw [len8]; omega
    refine s_retD (K := K) (d := [PyData.int (i + 1), .int (-i), .int 0, .bool true, .none, .str (Str.ofString (toString i)), .tuple [.int i], .int (i * 2)][r.toNat]) (evd_ixLi (i := r) (evd_lst (ead_cons (evd_of (ev_add (vI rfl) Evl.ev_c) fun _ => .int _) (ead_cons (evd_of (ev_neg (vI rfl)) fun _ => .int _) (ead_cons (evd_of Evl.ev_c fun _ => .int _) (ead_cons (evd_of Evl.ev_c fun _ => .bl _) (ead_cons (evd_of Evl.ev_c fun _ => .non)
      (ead_cons (evd_of (ev_strI (vI rfl) (by omega)) fun _ => .str _) (ead_cons (evd_tup (ead_cons (evd_of (vI rfl) fun _ => .int _) ead_nil) sz1) (ead_cons (evd_of (ev_mulR (vI rfl) Evl.ev_c ⟨by decide, by decide⟩) fun _ => .int _) ead_nil)))))))) (by rw [len8]; omega)) (Evl.ev_var rfl) r0 (List.getElem?_eq_getElem hlt)) fun v' H4 e4 h4 => fin1 v' _ H4 ((e2.trans e3).trans e4) h4 (okd _ (List.getElem_mem hlt))
end
end K00
end

section
set_option Elab.async false
set_option linter.all false
set_option maxRecDepth 100000
set_option exponentiation.threshold 10000
set_option maxHeartbeats 4000000
/-! the law: spoilt values; by an AI agent -/
namespace K00
open PySem PySem.Spec PyProof.Rows L2 RX
open Evl (Ex Ev EvT EvA EvL EvU RV RC)
def spSpoilt (K : PySem.W.Frag) (r : Nat) : Sp := fun vs H Q _ => ∃ (m : Addr) (k : Nat) (v : V) (x : PyData), vs = [.ref m, v, .int (r : Int)] ∧ Mst K H m k ∧ k + (3 * r + 3) ≤ mostK ∧ Dp K H v x ∧ goodD x ∧ x.depth ≤ 10 ∧
  ∀ v' H', Mst K H' m (k + (3 * r + 3)) → But m H H' → shortV K H' v' → Q v' H'
def spNever : Sp := fun _ _ _ _ => False
theorem depth_mem : ∀ {l : List PyData} {d : PyData}, d ∈ l → d.depth ≤ PyData.depthAll l
  | [], _, h => nomatch h
  | x :: r, d, h => by
    rw [PyData.depthAll]
    rcases List.mem_cons.mp h with rfl | h
    · omega
    · have := depth_mem h; omega
theorem m_and {t u : TT} {σ : L2.St} {H : Hp} {Q : Bool → Hp → Prop} (h : t σ H fun b H1 => if b = true then u σ H1 Q else Q false H1) : tAnd t u σ H Q := h
theorem m_call3 {sp : Sp} {E : XK} {ta tb tc : TE} {σ : L2.St} {H : Hp} {Q : VK} (h : ta σ H fun x H1 => tb σ H1 fun y H2 => tc σ H2 fun z H3 => sp [x, y, z] H3 Q E) : tCall sp [] E (tCons ta (tCons tb (tCons tc tNil))) σ H Q := h
theorem cat_dp {K : PySem.W.Frag} {H : Hp} {x y : V} {ds es : List PyData} {Q : VK} (hv : Dp K H x (.tuple ds)) (hu : Dp K H y (.tuple es)) (hz : ds.length + es.length ≤ 100000) (q : ∀ v H', Ex H H' → Dp K H' v (.tuple (ds ++ es)) → Q v H') : rCatA K x y H Q := by
  obtain ⟨a, xs, rfl, sa, da⟩ := dp_tup hv
  obtain ⟨b, ys, rfl, sb, db⟩ := dp_tup hu
  refine ⟨a, b, xs, ys, rfl, rfl, sa, sb, by rw [dpAll_len da, dpAll_len db]; exact Evl.sz_of hz, fun z => ?_, fun z1 z2 => ?_, fun z1 z2 p hp => ?_⟩
  · subst z
    cases da
    exact q _ H (Ex.refl H) hu
  · subst z2
    cases db
    exact q _ H (Ex.refl H) (by rw [List.append_nil]; exact hv)
  · exact q _ _ (Ex.new hp) (.tup (.inl (.inl upd_same)) (dpAll_append (dpAll_ex (Ex.new hp) da) (dpAll_ex (Ex.new hp) db)))
section
variable {P : Program} {w : World} {K : PySem.W.Frag} {mg : Str → Option Value} {base : Heap}
abbrev s__law_spoilt : Stmt := topS 43
theorem sc__law_spoilt : FnScope ["m", "value", "room", "k"] ["m", "value", "room"] (defScope s__law_spoilt) := ⟨rfl, rfl, rfl, by decide +kernel, rfl, by decide +kernel, by decide +kernel⟩
theorem spoilt_never (D : DefAt K mg "_law_spoilt" s__law_spoilt ["m", "value", "room"]) : Has P w K mg base 1 "_law_spoilt" ["m", "value", "room"] spNever := by
  refine mk D sc__law_spoilt (fun vs H Q E h => h.elim) (fun f cdv A outer s H vs Q E hr h => h.elim)
/-- one turn of the recursion -/
theorem spoilt_step (T : Txt K mg) (D : DefAt K mg "_law_spoilt" s__law_spoilt ["m", "value", "room"]) (h_law_draw : Has P w K mg base 1 "_law_draw" ["m", "below"] (spDraw K)) (h_law_odd : Has P w K mg base 3 "_law_odd" ["m", "part"] (pOdd K))
    (r : Nat) (sp : Sp) (hsp : ∀ r', r = r' + 1 → sp = spSpoilt K r') (h_law_spoilt : Has P w K mg base (3 + r) "_law_spoilt" ["m", "value", "room"] sp) : Has P w K mg base (3 + r + 1) "_law_spoilt" ["m", "value", "room"] (spSpoilt K r) := by
  refine mk D sc__law_spoilt (fun vs H Q E h => ?_) (fun f cdv A outer s H vs Q E hr h => ?_)
  · obtain ⟨m, k, v, x, rfl, _⟩ := h
    rfl
  obtain ⟨m, k, v, x, rfl, st, hk, hv, hg, hdp, fin⟩ := h
  refine ⟨_, (pss_cons (ps_if (PW.pt (pw_and (pt_val (pe_callB call_isi (by rfl) T.isinstance (by decide +kernel) (pa_cons (pv 1) (pa_cons (pe_bltn (v := .ty "tuple") (u := .type "tuple") (by rfl) T.tuple (by decide +kernel) rfl) pa_nil)))) (pw_and (pt_cmpR (op_neD (u64 hr)) (pv 1) (pe_tup pa_nil) (nomark _)) (pw_and (pt_cmpR op_gt (pv 2) pe_int (nomark _)) (pw_and1 (pt_cmpR op_gt (ph h_law_draw (hr.mono (by omega)) (pa_cons (pv 0) (pa_cons pe_int pa_nil))) pe_int (nomark _)))))))
  (pss_cons (ps_set (i := 3) sc__law_spoilt.nd rfl (Or.inl rfl) (ph h_law_draw (hr.mono (by omega)) (pa_cons (pv 0) (pa_cons (pe_callB call_len_seq (by rfl) T.len (by decide +kernel) (pa_cons (pv 1) pa_nil)) pa_nil))))
  (pss_one (ps_ret (pe_op op_catA (pe_op op_catA (pe_slice sl_tupA (pv 1) po_none (po_some (pv 3))) (pe_tup (pa_cons (ph h_law_spoilt (hr.mono (by omega)) (pa_cons (pv 0) (pa_cons (pe_ix ix_tup (pv 1) (pv 3) (fun _ _ => rfl)) (pa_cons (pe_op op_sub (pv 2) pe_int) pa_nil)))) pa_nil))) (pe_slice sl_tupA (pv 1) (po_some (pe_op op_add (pv 3) pe_int)) po_none)))))
  pss_nil)
  (pss_one (ps_ret (ph h_law_odd (hr.mono (by omega)) (pa_cons (pv 0) (pa_cons (pv 1) pa_nil)))))), ?_⟩
  try dsimp only [cxOf, Cx.nox]
  try dsimp only [tNext, tSeq]
  -- the other way
  have other : ∀ H1, Mst K H1 m (k + 1) → But m H H1 → tRet (tCall (pOdd K) [] E0 (tCons (tVar 0) (tCons (tVar 1) tNil))) { nx := fun _ H' => Q .non H', rt := Q } [some (.ref m), some v, some (.int (r : Int)), none] H1 := fun H1 s1 b1 => by
    dsimp only [tRet]
    refine m_call (rest := [v]) (Evl.ea_cons (Evl.ev_var rfl) (Evl.ea_cons (Evl.ev_var rfl) Evl.ea_nil)) rfl s1 (by omega) (fun H2 e2 => ⟨v, x, rfl, dp_ex e2 (dp_but st.noSeq b1 hv), hg, hdp⟩) fun v' H2 s2 b2 p2 => fin v' H2 (s2.mono (by omega)) (b1.trans b2) p2
  dsimp only [tIfS]
  refine m_and ?_
  by_cases ht : tyName x = "tuple"
  · obtain ⟨ds, rfl⟩ := ty_tuple ht
    have hg' := good_tup.mp hg
    refine Evl.et_is (b := true) (Evl.et_B (ev_isi_tuple (K := K) (σ := [some (.ref m), some v, some (.int (r : Int)), none]) (evd_var (i := 1) rfl hv) Evl.ev_c)) rfl H (Ex.refl H) _ fun H2 e2 => ?_
    rw [if_pos rfl]
    refine m_and ?_
    have tst := Evl.et_test (ev_neD (K := K) (evd_var (σ := [some (.ref m), some v, some (.int (r : Int)), none]) (i := 1) rfl (dp_ex e2 hv)) (evd_tup (ta := tNil) ead_nil (by decide)) (good_shaped hg (by omega)) rfl)
    rw [eqv_empty] at tst
    refine tst H2 (Ex.refl H2) _ fun H3 e3 => ?_
    cases ds with
    | nil =>
      rw [if_neg (by decide), if_neg (by decide)]
      exact other H3 ((st.ex (e2.trans e3)).mono (by omega)) (But.of (e2.trans e3))
    | cons d0 dr =>
      rw [if_pos (show (!(d0 :: dr).isEmpty) = true from rfl)]
      refine m_and ?_
      refine Evl.et_test (b := decide (0 < (r : Int))) (Evl.ev_is (ev_I (σ := [some (.ref m), some v, some (.int (r : Int)), none]) (g := fun i j => .bl (decide (j < i))) (Evl.ev_var (i := 2) rfl) Evl.ev_c) rfl) H3 (Ex.refl H3) _ fun H4 e4 => ?_
      have E4 := (e2.trans e3).trans e4
      cases r with
      | zero =>
        rw [if_neg (by decide), if_neg (by decide)]
        exact other H4 ((st.ex E4).mono (by omega)) (But.of E4)
      | succ r' =>
        rw [if_pos (by simp)]
        obtain rfl := hsp r' rfl
        refine m_test (m_op (m_draw (Evl.ev_var rfl) Evl.ev_c (st.ex E4) (by omega) (by decide) (by omega) fun c H5 c0 c1 s5 b5 => ?_))
        refine Evl.ev_c H5 (Ex.refl H5) _ fun H6 e6 => ?_
        refine ⟨c, 0, rfl, rfl, _, rfl, ?_⟩
        have s6 := s5.ex e6
        have B6 : But m H H6 := ((But.of E4).trans b5).trans (But.of e6)
        by_cases hc : 0 < c
        · rw [if_pos (decide_eq_true hc)]
          try dsimp only [tNext, tSeq]
          dsimp only [tAsg]
          have hv6 : Dp K H6 v (.tuple (d0 :: dr)) := dp_but st.noSeq B6 hv
          refine m_draw (Evl.ev_var rfl) (ev_lenT (K := K) (evd_var rfl hv6)) s6 (by rw [List.length_cons]; omega) ?_ (by omega) fun j H7 j0 j1 s7 b7 => ?_
          · have := hg'.1
            exact Nat.lt_of_lt_of_le (m := 101) (by omega) (by decide)
          dsimp only [gName, List.set]
          have hv7 : Dp K H7 v (.tuple (d0 :: dr)) := dp_but s6.noSeq b7 hv6
          have hlt : j.toNat < (d0 :: dr).length := by omega
          have hmem : (d0 :: dr)[j.toNat] ∈ d0 :: dr := List.getElem_mem hlt
          have hg7 := hg'.2 _ hmem
          have hd7 : ((d0 :: dr)[j.toNat]).depth ≤ 10 := by
            have h1 := depth_mem hmem
            rw [PyData.depth] at hdp
            omega
          have hget : (d0 :: dr)[j.toNat]? = some (d0 :: dr)[j.toNat] := List.getElem?_eq_getElem hlt
          generalize (d0 :: dr)[j.toNat] = dj at hmem hg7 hd7 hget
          generalize d0 :: dr = ds at *
          dsimp only [tRet]
          have cl : ∀ {lo hi : Option Int}, (RX.cutD ds lo hi).length ≤ 100 := fun {lo hi} => Nat.le_trans cut_length hg'.1
          have cs : ∀ {lo hi : Option Int} {d : PyData}, d ∈ RX.cutD ds lo hi → shortD d := fun h => good_short (hg'.2 _ (cut_mem h))
          refine m_op (m_op (evd_sl (K := K) (evd_var (i := 1) rfl hv7) Evl.eo_none (Evl.eo_some (Evl.ev_var (i := 3) (v := .int j) rfl)) H7 (Ex.refl H7) _ fun v1 H8 e8 h8 => ?_))
          refine m_tup1 (m_call3 (Evl.ev_var (i := 0) (v := .ref m) rfl H8 (Ex.refl H8) _ fun H9 e9 => evd_ixTi (K := K) (d := dj) (i := j) (evd_var (i := 1) rfl (dp_ex (e8.trans e9) hv7)) (Evl.ev_var rfl) j0 hget H9 (Ex.refl H9) _ fun v2 H10 e10 h10 =>
            ev_sub (Evl.ev_var (i := 2) rfl) Evl.ev_c H10 (Ex.refl H10) _ fun H11 e11 => ?_))
          have E11 := ((e8.trans e9).trans e10).trans e11
          refine ⟨m, k + 1 + 1, v2, dj, ?_, s7.ex E11, by omega, dp_ex e11 h10, hg7, hd7, fun v' H12 s12 b12 p12 => ?_⟩
          · show [V.ref m, v2, V.int (((r' + 1 : Nat) : Int) - 1)] = [V.ref m, v2, V.int (r' : Int)]
            have : ((r' + 1 : Nat) : Int) - 1 = (r' : Int) := by omega
            rw [this]
          obtain ⟨x', hx', sx'⟩ := p12
          intro p hp
          have B12 : But m H7 H12 := (But.of E11).trans b12
          have Ep : Ex H12 (upd H12 p (.tup [v'])) := Ex.new hp
          have s8 := s7.ex e8
          have h8' : Dp K H12 v1 (.tuple (RX.cutD ds none (some j))) := dp_but (s7.ex E11).noSeq b12 (dp_ex ((e9.trans e10).trans e11) h8)
          refine cat_dp (dp_ex Ep h8') (es := [x']) (.tup (.inl (.inl upd_same)) (.cons (dp_ex Ep hx') .nil)) (by have := cl (lo := none) (hi := some j); show _ + 1 ≤ 100000; omega) fun v3 H13 e13 h13 => ?_
          have hv12 : Dp K H12 v (.tuple ds) := dp_but s7.noSeq B12 hv7
          refine evd_sl (K := K) (evd_var (i := 1) rfl (dp_ex (Ep.trans e13) hv12)) (Evl.eo_some (ev_add (Evl.ev_var (i := 3) rfl) Evl.ev_c)) Evl.eo_none H13 (Ex.refl H13) _ fun v4 H14 e14 h14 => ?_
          have l1 := cl (lo := none) (hi := some j)
          have l2 := cl (lo := some (j + 1)) (hi := none)
          refine cat_dp (dp_ex e14 h13) h14 (by rw [List.length_append]; show _ + 1 + _ ≤ 100000; omega) fun v5 H15 e15 h15 => ?_
          have E15 := ((Ep.trans e13).trans e14).trans e15
          refine fin v5 H15 ((s12.ex E15).mono (by omega)) ((((B6.trans b7)).trans B12).trans (But.of E15)) ⟨_, h15, short_tupI (by rw [List.length_append, List.length_append]; show _ + 1 + _ ≤ 1000; omega) fun d hd => ?_⟩
          rcases List.mem_append.mp hd with hd | hd
          · rcases List.mem_append.mp hd with hd | hd
            · exact cs hd
            · rw [List.mem_singleton.mp hd]; exact sx'
          · exact cs hd
        · rw [if_neg (by simp; omega)]
          exact other H6 (s6.mono (by omega)) B6
  · refine Evl.et_is (b := false) (Evl.et_B (ev_isi_tuple (K := K) (σ := [some (.ref m), some v, some (.int (r : Int)), none]) (evd_var (i := 1) rfl hv) Evl.ev_c)) (decide_eq_false ht) H (Ex.refl H) _ fun H2 e2 => ?_
    rw [if_neg (by decide), if_neg (by decide)]
    exact other H2 ((st.ex e2).mono (by omega)) (But.of e2)
/-- the recursion -/
theorem has_law_spoilt (T : Txt K mg) (D : DefAt K mg "_law_spoilt" s__law_spoilt ["m", "value", "room"]) (h_law_draw : Has P w K mg base 1 "_law_draw" ["m", "below"] (spDraw K)) (h_law_odd : Has P w K mg base 3 "_law_odd" ["m", "part"] (pOdd K)) :
    ∀ r, Has P w K mg base (3 + r + 1) "_law_spoilt" ["m", "value", "room"] (spSpoilt K r)
  | 0 => spoilt_step T D h_law_draw h_law_odd 0 spNever (fun r' z => by omega) ((spoilt_never D).mono (by omega))
  | r + 1 => spoilt_step T D h_law_draw h_law_odd (r + 1) (spSpoilt K r) (fun r' z => by
      have : r = r' := by omega
      rw [this]) (has_law_spoilt T D h_law_draw h_law_odd r)
end
end K00
end

section
set_option Elab.async false
set_option linter.all false
set_option maxRecDepth 100000
set_option exponentiation.threshold 10000
set_option maxHeartbeats 4000000
/-! the value of a turn; by an AI agent -/
namespace K00
open PySem L2 RX
open Evl (Ex Ev EvT EvA EvL EvU RV RC)
theorem PE'.fun {K : PySem.W.Frag} {H : Hp} {kvs : List Ent} {kb n : Nat} (h : PE' K H kvs kb n) : ∃ g : PyData → PyData, ∀ e ∈ kvs, Dp K H e.2.2 (g e.1.data) ∧ FB kb (g e.1.data) ∧ isZeroD (g e.1.data) = false := by
  classical
  refine ⟨fun d => if q : ∃ x, ∃ e ∈ kvs, e.1.data = d ∧ Dp K H e.2.2 x ∧ FB kb x ∧ isZeroD x = false then Classical.choose q else .none, fun e he => ?_⟩
  obtain ⟨x, x1, x2, x3⟩ := h.val e he
  have q : ∃ x, ∃ e' ∈ kvs, e'.1.data = e.1.data ∧ Dp K H e'.2.2 x ∧ FB kb x ∧ isZeroD x = false := ⟨x, e, he, rfl, x1, x2, x3⟩
  dsimp only
  rw [dif_pos q]
  obtain ⟨e', he', h1, h2, h3, h4⟩ := Classical.choose_spec q
  have hk : e'.1 = e.1 := data_inj h1
  have : e'.2 = e.2 := by
    have a := entAt_get h.nd he'
    have b := entAt_get h.nd he
    rw [hk, b] at a
    exact (Option.some.inj a).symm
  rw [this] at h2
  exact ⟨h2, h3, h4⟩
theorem FB.good {k : Nat} {x : PyData} (h : FB k x) (hk : k ≤ 989) : goodD x ∧ x.depth ≤ 1 := by
  obtain ⟨n, m, rfl, _, _, h1, h2⟩ := h
  have p : 2 ^ k ≤ 2 ^ 990 := Nat.pow_le_pow_right (by decide) (by omega)
  refine ⟨good_tup.mpr ⟨by show 2 ≤ 100; omega, fun d hd => ?_⟩, by simp [PyData.depth, PyData.depthAll]⟩
  simp only [List.mem_cons, List.not_mem_nil, or_false] at hd
  rcases hd with rfl | rfl
  · rw [goodD]; omega
  · rw [goodD]; omega
theorem small_int {i : Int} (h : i.natAbs < 2 ^ 60) : goodD (.int i) := by
  rw [goodD]
  exact Nat.lt_of_lt_of_le h (Nat.pow_le_pow_right (by decide) (by decide))
theorem LB.good {l : PyData} (h : LB l) : goodD l ∧ l.depth ≤ 1 := by
  obtain ⟨s, i, rfl, h1, h2, h3⟩ := h
  refine ⟨good_tup.mpr ⟨by show 2 ≤ 100; omega, fun d hd => ?_⟩, by simp [PyData.depth, PyData.depthAll]⟩
  simp only [List.mem_cons, List.not_mem_nil, or_false] at hd
  rcases hd with rfl | rfl
  · rw [goodD]; exact h1
  · exact small_int (by omega)
theorem depthAll_le {n : Nat} : ∀ {l : List PyData}, (∀ d ∈ l, d.depth ≤ n) → PyData.depthAll l ≤ n
  | [], _ => by simp [PyData.depthAll]
  | d :: r, h => by
    have a := h d List.mem_cons_self
    have b := depthAll_le (l := r) fun x hx => h x (List.mem_cons_of_mem _ hx)
    rw [PyData.depthAll]
    omega
theorem MB.good {x : PyData} (h : MB 3 x) : goodD x ∧ x.depth ≤ 3 := by
  obtain ⟨h1, ds, rfl, h2, h3⟩ := h
  have part : ∀ p ∈ ds, goodD p ∧ p.depth ≤ 2 := fun p hp => by
    obtain ⟨hl, e, he, hb⟩ := h3 p hp
    have h4 : (List.all ds partOkD && ascD (ds.map firstD)) = true := h1
    rw [Bool.and_eq_true, List.all_eq_true] at h4
    obtain ⟨s, i, e', rfl, _, he'⟩ := part_shape (h4.1 p hp)
    have ee : e' = e := by simpa [firstD] using he
    subst ee
    have e3 : (3 : Int) * 4 ^ 3 = 192 := by decide
    have lg := LB.good hl
    refine ⟨good_tup.mpr ⟨by show 2 ≤ 100; omega, fun d hd => ?_⟩, by simp [PyData.depth, PyData.depthAll]⟩
    simp only [List.mem_cons, List.not_mem_nil, or_false] at hd
    rcases hd with rfl | rfl
    · exact lg.1
    · exact small_int (by omega)
  refine ⟨good_tup.mpr ⟨by omega, fun d hd => (part d hd).1⟩, ?_⟩
  rw [PyData.depth]
  have := depthAll_le fun d hd => (part d hd).2
  omega
/-- what is known of the value -/
structure Val (kvs : List Ent) (g : PyData → PyData) (ts : List PyData) : Prop where
  eq : ts = (sortD (keyData kvs)).map fun m => .tuple [m, g m]
  poly : isPolyD (.tuple ts) = true
  good : goodD (.tuple ts)
  depth : (PyData.tuple ts).depth ≤ 6
  len : ts.length ≤ 5
  ok : ∀ t ∈ ts, okTerm t
theorem val_of {K : PySem.W.Frag} {H : Hp} {kvs : List Ent} {g : PyData → PyData} (h : PE' K H kvs 900 5) (hg : ∀ e ∈ kvs, FB 900 (g e.1.data) ∧ isZeroD (g e.1.data) = false) : Val kvs g ((sortD (keyData kvs)).map fun m => .tuple [m, g m]) := by
  have keys : ∀ m ∈ sortD (keyData kvs), MB 3 m ∧ FB 900 (g m) ∧ isZeroD (g m) = false := fun m hm => by
    obtain ⟨e, he, rfl⟩ := List.mem_map.mp (sortD_mem.mp hm)
    exact ⟨h.mono e he, hg e he⟩
  have so : SortsD (keyData kvs) := sorts_monos fun d hd => by
    obtain ⟨e, he, rfl⟩ := List.mem_map.mp hd
    exact (h.mono e he).1
  have term : ∀ t ∈ (sortD (keyData kvs)).map fun m => PyData.tuple [m, g m], goodD t ∧ t.depth ≤ 4 ∧ okTerm t := fun t ht => by
    obtain ⟨m, hm, rfl⟩ := List.mem_map.mp ht
    obtain ⟨k1, k2, k3⟩ := keys m hm
    have a := k1.good
    have b := k2.good (by omega)
    refine ⟨good_tup.mpr ⟨by show 2 ≤ 100; omega, fun d hd => ?_⟩, ?_, m, g m, rfl, k1⟩
    · simp only [List.mem_cons, List.not_mem_nil, or_false] at hd
      rcases hd with rfl | rfl
      · exact a.1
      · exact b.1
    · have := depthAll_le (n := 3) (l := [m, g m]) fun d hd => by
        simp only [List.mem_cons, List.not_mem_nil, or_false] at hd
        rcases hd with rfl | rfl
        · exact a.2
        · omega
      rw [PyData.depth]; omega
  have ll : ((sortD (keyData kvs)).map fun m => PyData.tuple [m, g m]).length ≤ 5 := by
    rw [List.length_map, sortD_len, List.length_map]; exact h.len
  refine ⟨rfl, poly_of (sortD_strict (keyData_nodup h.nd) so.alike) (fun m hm => (keys m hm).1.1) (fun m hm => ⟨(keys m hm).2.1.frac, (keys m hm).2.2⟩), good_tup.mpr ⟨by omega, fun t ht => (term t ht).1⟩, ?_, ll, fun t ht => (term t ht).2.2⟩
  have := depthAll_le fun t ht => (term t ht).2.1
  rw [PyData.depth]; omega
mutual
theorem alike_good : ∀ {d : PyData}, goodD d → PySem.W.alike d d = true
  | .int i, _ => by simp [PySem.W.alike]
  | .str s, h => by simp [PySem.W.alike]
  | .tuple l, h => by
    rw [goodD] at h
    rw [PySem.W.alike]
    exact alikeAll_good h.2
  | .none, h => by simp [goodD] at h
  | .bool b, h => by simp [goodD] at h
  | .list l, h => by simp [goodD] at h
  | .dict l, h => by simp [goodD] at h
theorem alikeAll_good : ∀ {l : List PyData}, goodAll l → PySem.W.alikeAll l l = true
  | [], _ => by rw [PySem.W.alikeAll]
  | d :: r, h => by
    rw [goodAll] at h
    rw [PySem.W.alikeAll, alike_good h.1, alikeAll_good h.2]; rfl
end
theorem eqv_good {d : PyData} (h : goodD d) : PyData.eqv d d = true := PySem.W.eqv_refl_alike d (alike_good h)
/-! ### repr -/
mutual
theorem good_showable : ∀ {d : PyData}, goodD d → d.showable = true
  | .int i, h => by
    rw [goodD] at h
    rw [PyData.showable]
    have := PySem.Flt.log2_lt_of (show 0 < 990 by omega) h
    exact decide_eq_true (by omega)
  | .str s, h => by simp [PyData.showable]
  | .tuple l, h => by
    rw [goodD] at h
    rw [PyData.showable]
    exact goodAll_showable h.2
  | .none, h => by simp [goodD] at h
  | .bool b, h => by simp [goodD] at h
  | .list l, h => by simp [goodD] at h
  | .dict l, h => by simp [goodD] at h
theorem goodAll_showable : ∀ {l : List PyData}, goodAll l → PyData.showableAll l = true
  | [], _ => by rw [PyData.showableAll]
  | d :: r, h => by
    rw [goodAll] at h
    rw [PyData.showableAll, good_showable h.1, goodAll_showable h.2]; rfl
end
mutual
theorem good_ints : ∀ {d : PyData}, goodD d → d.intsShort 1000 = true
  | .int i, h => by
    rw [goodD] at h
    rw [PyData.intsShort]
    refine decide_eq_true ?_
    rw [PyData.shown]
    exact len_int h
  | .str s, h => by simp [PyData.intsShort]
  | .tuple l, h => by
    rw [goodD] at h
    rw [PyData.intsShort]
    exact goodAll_ints h.2
  | .none, h => by simp [goodD] at h
  | .bool b, h => by simp [goodD] at h
  | .list l, h => by simp [goodD] at h
  | .dict l, h => by simp [goodD] at h
theorem goodAll_ints : ∀ {l : List PyData}, goodAll l → PyData.intsShortAll 1000 l = true
  | [], _ => by rw [PyData.intsShortAll]
  | d :: r, h => by
    rw [goodAll] at h
    rw [PyData.intsShortAll, good_ints h.1, goodAll_ints h.2]; rfl
end
theorem good_shown {d : PyData} (h : goodD d) (hw : d.weight ≤ 10000) : d.shown.length ≤ sizeLine := by
  have h1 := PyData.shown_le 1000 (by decide) d (PyData.leavesShort_of_canLay0 1000 d (good_lay h) (good_ints h))
  rw [sizeLine_eq]
  have h2 : (1000 + 2) * d.weight ≤ 1002 * 10000 := Nat.mul_le_mul_left _ hw
  omega
theorem weightAll_le {w : Nat} : ∀ {l : List PyData}, (∀ d ∈ l, d.weight ≤ w) → PyData.weightAll l ≤ l.length * (w + 1)
  | [], _ => by simp [PyData.weightAll]
  | d :: r, h => by
    have a := h d List.mem_cons_self
    have b := weightAll_le (l := r) fun x hx => h x (List.mem_cons_of_mem _ hx)
    rw [PyData.weightAll, List.length_cons, Nat.add_mul]
    omega
theorem weight_int {i : Int} {k : Nat} (hk : 0 < k) (h : i.natAbs < 2 ^ k) : (PyData.int i).weight ≤ k := by
  have := PySem.Flt.log2_lt_of hk h
  simp only [PyData.weight]
  split
  · omega
  · omega
theorem LB.weight {l : PyData} (h : LB l) : l.weight ≤ 40 := by
  obtain ⟨s, i, rfl, h1, h2, h3⟩ := h
  have a := name_len h1
  have b := weight_int (i := i) (k := 20) (by decide) (by omega)
  have e : (PyData.tuple [.str s, .int i]).weight = s.cps.size + 1 + ((PyData.int i).weight + 1 + 0) := by simp only [PyData.weight, PyData.weightAll]
  rw [e]
  have : s.cps.size = s.length := rfl
  omega
theorem FB.weight {k : Nat} {x : PyData} (h : FB k x) (hk : 0 < k) : x.weight ≤ 2 * k + 2 := by
  obtain ⟨n, m, rfl, _, _, h1, h2⟩ := h
  have a := weight_int hk h1
  have b := weight_int hk h2
  have e : (PyData.tuple [.int n, .int m]).weight = (PyData.int n).weight + 1 + ((PyData.int m).weight + 1 + 0) := by simp only [PyData.weight, PyData.weightAll]
  rw [e]
  omega
section
variable {K : PySem.W.Frag} {σ : L2.St} {H : Hp} {ta : TE} {ds : List PyData}
theorem ev_reprT (h : EvD K ta σ H (.tuple ds)) (hg : goodD (.tuple ds)) (hd : (PyData.tuple ds).depth ≤ 40) (hw : (PyData.tuple ds).weight ≤ 10000) : Ev (tCB (rReprV K) (tCons ta tNil)) σ H (.str (PyData.tuple ds).shown) := fun H1 m Q q =>
  h H1 m _ fun v H2 e2 hv => by
    obtain ⟨a, rfl⟩ := ref_tup v H2 hv
    exact .inl ⟨a, _, rfl, hv, good_showable hg, hd, good_shown hg hw, q H2 e2⟩
theorem ev_reprN (h : EvD K ta σ H .none) : Ev (tCB (rReprV K) (tCons ta tNil)) σ H (.str ("None" : Str)) := fun H1 m Q q =>
  h H1 m _ fun v H2 e2 hv => by
    cases dp_non hv
    exact .inr ⟨rfl, q H2 e2⟩
end
end K00
end

section
set_option Elab.async false
set_option linter.all false
set_option maxRecDepth 100000
set_option exponentiation.threshold 10000
set_option maxHeartbeats 4000000
/-! names of letters, each once; by an AI agent -/
namespace K00
open PySem PySem.Spec PyProof.Rows L2 RX
open Evl (Ex Ev EvT EvA EvL EvU RV RC)
def nameD : PyData → Str
  | .tuple (.str s :: _) => s
  | _ => ""
def firstAt (ls : List PyData) (i : Nat) : Bool := !decide (nameD (ls.getD i .none) ∈ (ls.take i).map nameD)
/-- the names, each where it comes first -/
def firstNames (ls : List PyData) : List Str := ((List.range ls.length).filter (firstAt ls)).map fun i => nameD (ls.getD i .none)
theorem getD_mem {ls : List PyData} {i : Nat} (h : i < ls.length) : ls.getD i .none ∈ ls := by
  rw [List.getD_eq_getElem?_getD, List.getElem?_eq_getElem h]
  exact List.getElem_mem h
theorem getD_take {ls : List PyData} {i j : Nat} (h : i < j) (hj : j < ls.length) : ls.getD i .none ∈ ls.take j := by
  have hi : i < (ls.take j).length := by rw [List.length_take]; omega
  have e : (ls.take j)[i] = ls.getD i .none := by
    rw [List.getElem_take, List.getD_eq_getElem?_getD, List.getElem?_eq_getElem (by omega)]; rfl
  rw [← e]
  exact List.getElem_mem hi
theorem firstNames_mem {ls : List PyData} {s : Str} : s ∈ firstNames ls ↔ ∃ l ∈ ls, nameD l = s := by
  constructor
  · intro h
    obtain ⟨i, hi, rfl⟩ := List.mem_map.mp h
    have := List.mem_range.mp (List.mem_filter.mp hi).1
    exact ⟨_, getD_mem this, rfl⟩
  · rintro ⟨l, hl, rfl⟩
    -- the first place
    obtain ⟨i, hi, he⟩ := List.mem_iff_getElem.mp hl
    have key : ∀ n i, i ≤ n → ∀ hi : i < ls.length, nameD (ls[i]) ∈ firstNames ls := by
      intro n
      induction n with
      | zero =>
        intro i hn hi
        have : i = 0 := by omega
        subst this
        refine List.mem_map.mpr ⟨0, List.mem_filter.mpr ⟨List.mem_range.mpr hi, by simp [firstAt]⟩, ?_⟩
        show nameD (ls.getD 0 .none) = nameD ls[0]
        rw [List.getD_eq_getElem?_getD, List.getElem?_eq_getElem hi]; rfl
      | succ n ih =>
        intro i hn hi
        have e : ls.getD i .none = ls[i] := by rw [List.getD_eq_getElem?_getD, List.getElem?_eq_getElem hi]; rfl
        by_cases hf : firstAt ls i = true
        · exact List.mem_map.mpr ⟨i, List.mem_filter.mpr ⟨List.mem_range.mpr hi, hf⟩, by show nameD (ls.getD i .none) = _; rw [e]⟩
        · have hm : nameD (ls.getD i .none) ∈ (ls.take i).map nameD := by
            unfold firstAt at hf
            simpa using hf
          obtain ⟨l', hl', hn'⟩ := List.mem_map.mp hm
          obtain ⟨j, hj, hje⟩ := List.mem_iff_getElem.mp hl'
          have hjl : j < i := by rw [List.length_take] at hj; omega
          have := ih j (by omega) (by omega)
          have e2 : ls[j] = l' := by rw [← hje, List.getElem_take]
          rw [e2, hn', e] at this
          exact this
    rw [← he]
    exact key i i (Nat.le_refl _) hi
theorem firstNames_nodup (ls : List PyData) : (firstNames ls).Nodup := by
  unfold firstNames
  have h1 : ((List.range ls.length).filter (firstAt ls)).Pairwise (· < ·) := List.Pairwise.filter _ List.pairwise_lt_range
  refine List.Pairwise.map _ (fun a b h => ?_) (List.Pairwise.imp_of_mem (S := fun a b => a < b ∧ b < ls.length ∧ firstAt ls b = true) (fun {a b} ha hb q => ⟨q, List.mem_range.mp (List.mem_filter.mp hb).1, (List.mem_filter.mp hb).2⟩) h1)
  obtain ⟨hab, hb, hf⟩ := h
  intro z
  unfold firstAt at hf
  have hf' : nameD (ls.getD b .none) ∉ (ls.take b).map nameD := by simpa using hf
  exact hf' (List.mem_map.mpr ⟨_, getD_take hab hb, z⟩)
theorem inV_strs (s : Str) (ys : List Str) : inV (.str s) (ys.map V.str) = decide (s ∈ ys) := by
  unfold inV
  rw [List.any_map]
  by_cases h : s ∈ ys
  · rw [decide_eq_true h, List.any_eq_true]
    exact ⟨s, h, by simp [eqV]⟩
  · rw [decide_eq_false h, List.any_eq_false]
    intro y hy z
    have : y = s := by simpa [eqV] using z
    exact h (this ▸ hy)
theorem cut_take {xs : List V} {i : Nat} (h : i ≤ xs.length) : cutV xs none (some (i : Int)) = xs.take i := by
  unfold cutV
  rw [HT.sIx_none, HT.sIx_nat, List.drop_zero, Nat.sub_zero, Nat.min_eq_left h]
section
variable {K : PySem.W.Frag} {σ : L2.St} {H : Hp} {tl te : TE} {tt : TT} {ds : List PyData} {vs : List Nat}
/-- [e for k, x in enumerate(xs) if t] -/
theorem evd_lcE {j1 j2 : Nat} {f : Nat → Bool} {v : Nat → PyData} (h : EvD K tl σ H (.list ds)) (hz : ds.length ≤ 40000) (hk : ∀ i, i < ds.length → keyD (v i) = true) (hw : ∀ x y, wipe (((wipe σ vs).set j1 (some x)).set j2 (some y)) vs = wipe σ vs)
    (ht : ∀ (i : Nat) x d H1, Ex H H1 → ds[i]? = some d → Dp K H1 x d → EvT tt (((wipe σ vs).set j1 (some (.int (i : Int)))).set j2 (some x)) H1 (f i)) (he : ∀ (i : Nat) x d H1, Ex H H1 → ds[i]? = some d → Dp K H1 x d → EvD K te (((wipe σ vs).set j1 (some (.int (i : Int)))).set j2 (some x)) H1 (v i)) :
    EvD K (tLc (iEnum K (tCons tl tNil)) (gTup K 2 (gCons (gName j1) (gCons (gName j2) gNil))) tt te vs) σ H (.list (((List.range ds.length).filter f).map v)) := fun H0 e Q q => h H0 e _ fun u H1 e1 hu => by
  obtain ⟨a, xs, rfl, sa, da⟩ := dp_lst hu
  have ll := dpAll_len da
  refine ⟨a, xs, rfl, sa, fun D hD => ⟨fun i m H' => m = ds.length - i ∧ i ≤ ds.length ∧ Ex H1 H' ∧ ∃ acc, H' D = some (.lst acc) ∧ DpAll K H' acc (((List.range i).filter f).map v), ⟨ds.length, by simp, Nat.zero_le _, Ex.new hD, [], upd_same, .nil⟩, ?_⟩⟩
  rintro i m H' ⟨rfl, hi, e2, acc, h1, h2⟩
  have sa' := sq_mono e2 sa
  by_cases hlt : i < ds.length
  · have hx : xs[i]? = some (xs[i]'(by omega)) := List.getElem?_eq_getElem (by omega)
    refine .inr ⟨⟨xs, _, sa', hx⟩, fun H'' => Ex H1 H'' ∧ ∃ acc, H'' D = some (.lst acc) ∧ DpAll K H'' acc (((List.range (i + 1)).filter f).map v), fun H'' p'' => ⟨ds.length - (i + 1), by omega, rfl, hlt, p''⟩, fun y H'' hy => ?_⟩
    obtain ⟨T, x, rfl, hT, rfl, hxx⟩ := hy
    have hxi := hxx xs sa'
    obtain ⟨d, g1, g2⟩ := dpAll_getV (dpAll_ex e2 da) hxi
    have ET : Ex H' (upd H' T (.tup [.int (i : Nat), x])) := Ex.new hT
    refine ⟨T, [.int (i : Nat), x], rfl, .inl (.inl upd_same), rfl, _, _, rfl, _, _, rfl, rfl, hw _ _, ?_⟩
    have E3 : Ex H (upd H' T (.tup [.int (i : Nat), x])) := ((e.trans e1).trans e2).trans ET
    refine ht i x d _ E3 g1 (dp_ex ET g2) _ (Ex.refl _) _ fun H3 e3 => ?_
    have hacc3 := e3 _ _ (ET _ _ h1)
    have hall3 := dpAll_ex (ET.trans e3) h2
    have rs : List.range (i + 1) = List.range i ++ [i] := List.range_succ
    cases hf : f i with
    | false =>
      rw [if_neg (by decide)]
      refine ⟨(e2.trans ET).trans e3, acc, hacc3, ?_⟩
      rw [rs, List.filter_append, List.map_append, List.filter_cons, hf]
      simpa using hall3
    | true =>
      rw [if_pos rfl]
      refine he i x d H3 (E3.trans e3) g1 (dp_ex (ET.trans e3) g2) H3 (Ex.refl H3) _ fun y H4 e4 hy => ?_
      have hacc4 := e4 _ _ hacc3
      have hall4 := dpAll_ex e4 hall3
      have hlen : (((List.range i).filter f).map v).length ≤ i := by
        rw [List.length_map]
        exact Nat.le_trans (List.length_filter_le _ _) (by rw [List.length_range]; omega)
      have k1 : keyAllD (((List.range i).filter f).map v) = true := keyAll_iff.mpr fun z hz' => by
        obtain ⟨j, hj, rfl⟩ := List.mem_map.mp hz'
        have := List.mem_range.mp (List.mem_filter.mp hj).1
        exact hk j (by omega)
      refine ⟨acc, hacc4, Evl.sz_lt (by rw [dpAll_len hall4]; omega), Ex.mut ((e2.trans ET).trans (e3.trans e4)) hD, acc ++ [y], upd_same, ?_⟩
      have eq : ((List.range (i + 1)).filter f).map v = ((List.range i).filter f).map v ++ [v i] := by
        rw [rs, List.filter_append, List.map_append, List.filter_cons, hf]
        rfl
      rw [eq]
      exact dpAll_append (dpAll_tups (sqt_lst hacc4 _) k1 hall4) (.cons (dp_tups (sqt_lst hacc4 _) (hk i hlt) hy) .nil)
  · have ei : i = ds.length := by omega
    subst ei
    exact .inl ⟨⟨xs, sa', by omega⟩, q _ H' (e1.trans e2) (.lst (.inl (.inl h1)) h2)⟩
end
end K00
end

section
set_option Elab.async false
set_option linter.all false
set_option maxRecDepth 100000
set_option exponentiation.threshold 10000
set_option maxHeartbeats 4000000
/-! letters and names as told by the program; repr; by an AI agent -/
namespace K00
open PySem PySem.Spec PyProof.Rows L2 RX
open Evl (Ex Ev EvT EvA EvL EvU RV RC)
section
variable {K : PySem.W.Frag} {σ : L2.St} {H : Hp} {ta : TE} {ts ls : List PyData}
theorem evd_letters (h : EvD K ta σ H (.tuple ts)) (hl : ts.length ≤ 1000) (ok : ∀ t ∈ ts, okTerm t) (hs : Strict ls) (hm : ∀ l, l ∈ ls ↔ LetIn ts l) : EvD K (tCall (spLetters K) [] E0 (tCons ta tNil)) σ H (.tuple ls) := fun H1 m Q q =>
  h H1 m _ fun v H2 e2 hv => ⟨ts, .cons hv .nil, hl, ok, fun v' ls' H3 e3 hv' hs' hm' => by
    have : ls' = ls := strict_unique hs' hs fun d => by rw [hm, hm']
    rw [this] at hv'
    exact q v' H3 (e2.trans e3) hv'⟩
theorem evd_names {ns : List PyData} (h : EvD K ta σ H (.tuple ts)) (hl : ts.length ≤ 20) (ok : ∀ t ∈ ts, okTerm t) (hs : Strict ns) (hm : ∀ d, d ∈ ns ↔ ∃ s, d = .str s ∧ NameIn ts s) : EvD K (tCall (spNames K) [] E0 (tCons ta tNil)) σ H (.tuple ns) := fun H1 m Q q =>
  h H1 m _ fun v H2 e2 hv => ⟨ts, .cons hv .nil, hl, ok, fun v' ss H3 e3 hv' hs' hm' => by
    have : ss.map PyData.str = ns := strict_unique hs' hs fun d => by
      rw [hm]
      constructor
      · intro hd
        obtain ⟨s, hs1, rfl⟩ := List.mem_map.mp hd
        exact ⟨s, rfl, (hm' s).mp hs1⟩
      · rintro ⟨s, rfl, hs1⟩
        exact List.mem_map.mpr ⟨s, (hm' s).mpr hs1, rfl⟩
    rw [this] at hv'
    exact q v' H3 (e2.trans e3) hv'⟩
/-- the test of the names -/
theorem et_first {i : Nat} {x : V} {d : PyData} {va : Addr} (h7 : σ[7]? = some (some x)) (h9 : σ[9]? = some (some (.ref va))) (h13 : σ[13]? = some (some (.int (i : Int)))) (hv : Dp K H (.ref va) (.list ls)) (hd : ls[i]? = some d) (hx : Dp K H x d) (hL : ∀ l ∈ ls, LB l) (hz : ls.length ≤ 1000)
    (h14 : ∀ y, wipe ((wipe σ [14]).set 14 (some y)) [14] = wipe σ [14]) (g14 : ∀ y, ((wipe σ [14]).set 14 (some y))[14]? = some (some y)) :
    EvT (tTest (tOp (rIn K true) (tOp (rIxT K) (tVar 7) (tC (.int 0))) (tLc (iList K (L2.tSl (rSlL K) (tVar 9) tNoPart (tPart (tVar 13)))) (gName 14) tYes (tOp (rIxT K) (tVar 14) (tC (.int 0))) [14]))) σ H (firstAt ls i) := by
  have hi := (List.getElem?_eq_some_iff.mp hd).1
  obtain ⟨s, k, rfl, _⟩ := hL d (List.mem_of_getElem? hd)
  obtain ⟨a, xs, e, sa, da⟩ := dp_lst hv
  obtain rfl := V.ref.inj e
  have ll := dpAll_len da
  have src : EvL (L2.tSl (rSlL K) (tVar 9) tNoPart (tPart (tVar 13))) σ H (cutV xs none (some (i : Int))) := Evl.el_sl (Evl.ev_var h9) Evl.eo_none (Evl.eo_some (Evl.ev_var h13)) sa
  rw [cut_take (by omega)] at src
  have inner := Evl.el_lcNL (K := K) (tl := L2.tSl (rSlL K) (tVar 9) tNoPart (tPart (tVar 13))) (j := 14) (vs := [14]) (t := tYes) (te := tOp (rIxT K) (tVar 14) (tC (.int 0))) (fun _ => true) (fun j => .str (nameD (ls.getD j .none))) src (by rw [List.length_take]; omega) h14
    (fun j y H1 e1 hy => fun H2 e2 Q q => q H2 (Ex.refl H2)) (fun j y H1 e1 hy _ => by
      have hj : j < i := by
        have := (List.getElem?_eq_some_iff.mp hy).1
        rw [List.length_take] at this; omega
      rw [List.getElem?_take_of_lt hj] at hy
      obtain ⟨d', g1, g2⟩ := dpAll_getV da hy
      obtain ⟨s', k', rfl, _⟩ := hL d' (List.mem_of_getElem? g1)
      have e1' : nameD (ls.getD j .none) = s' := by rw [List.getD_eq_getElem?_getD, g1]; rfl
      rw [e1']
      exact ev_str (evd_ixT (K := K) (i := 0) (evd_var (g14 y) (dp_ex e1 g2)) Evl.ev_c rfl))
  have e2 : Evl.given (xs.take i).length (fun _ => true) (fun j => V.str (nameD (ls.getD j .none))) = ((ls.take i).map nameD).map V.str := by
    unfold Evl.given
    rw [List.filter_eq_self.mpr (fun _ _ => rfl), List.length_take, Nat.min_eq_left (by omega)]
    apply List.ext_getElem?
    intro j
    rw [List.getElem?_map, List.getElem?_map, List.getElem?_map]
    by_cases hj : j < i
    · have e0 : ls.getD j .none = ls[j]'(by omega) := by rw [List.getD_eq_getElem?_getD, List.getElem?_eq_getElem (show j < ls.length by omega)]; rfl
      rw [List.getElem?_range hj, List.getElem?_take_of_lt hj, List.getElem?_eq_getElem (show j < ls.length by omega)]
      show some (V.str (nameD (ls.getD j .none))) = _
      rw [e0]
      rfl
    · rw [List.getElem?_eq_none (by rw [List.length_range]; omega), List.getElem?_eq_none (by rw [List.length_take]; omega)]
      rfl
  rw [e2] at inner
  refine Evl.et_test (Evl.ev_is (Evl.ev_opL (z := .bl (!inV (.str s) (((ls.take i).map nameD).map V.str))) (ev_str (evd_ixT (K := K) (i := 0) (evd_var h7 hx) Evl.ev_c rfl)) inner fun p H1 hp _ => Evl.rv_inL (neg := true) (.inl (.inl hp)) rfl (by rw [List.all_map]; exact List.all_eq_true.mpr fun _ _ => rfl)) ?_)
  rw [inV_strs]
  unfold firstAt
  have e3 : nameD (ls.getD i .none) = s := by rw [List.getD_eq_getElem?_getD, hd]; rfl
  rw [e3]
theorem sorts_strs (ss : List Str) : SortsD (ss.map PyData.str) := by
  refine ⟨fun d hd e he => ?_, .inr fun d hd => ?_, fun d hd => ?_⟩
  · obtain ⟨a, _, rfl⟩ := List.mem_map.mp hd
    obtain ⟨b, _, rfl⟩ := List.mem_map.mp he
    exact alike_strs a b
  · obtain ⟨a, _, rfl⟩ := List.mem_map.mp hd
    exact ⟨(fun z => nomatch z), (fun xs z => nomatch z)⟩
  · obtain ⟨a, _, rfl⟩ := List.mem_map.mp hd
    simp [PyData.depth]
theorem strs_nodup {ss : List Str} (h : ss.Nodup) : (ss.map PyData.str).Nodup := List.Pairwise.map _ (fun a b n z => n (by cases z; rfl)) h
end
theorem list_shaped {ls : List PyData} (h : goodD (.tuple ls)) (hd : (PyData.tuple ls).depth ≤ 64) : SeqAt.shaped (.list ls) = true := by
  have h1 := good_lay h
  have e1 : PyData.canLay0 (.list ls) = PyData.canLay0 (.tuple ls) := by simp only [PyData.canLay0]
  have e2 : (PyData.list ls).depth = (PyData.tuple ls).depth := by simp only [PyData.depth]
  unfold SeqAt.shaped
  rw [e1, h1, e2, decide_eq_true hd]; rfl
theorem eqv_emptyL {ds : List PyData} : PyData.eqv (.list ds) (.list []) = ds.isEmpty := by
  cases ds <;> simp [PyData.eqv, PyData.eqvAll]
theorem asNum_none {ts : List PyData} (ok : ∀ t ∈ ts, okTerm t) (h : ∃ l, LetIn ts l) : asNumD (.tuple ts) = .none := by
  obtain ⟨l, d, hd, q, hq, _⟩ := h
  match ts, ok, hd with
  | [t], ok, hd =>
    obtain ⟨m, c, rfl, hm⟩ := ok t List.mem_cons_self
    obtain ⟨ps, rfl, _, _⟩ := mb_parts hm
    cases ps with
    | nil =>
      rw [List.mem_singleton.mp hd] at hq
      cases hq
    | cons a b => rfl
  | t :: u :: r, ok, _ =>
    obtain ⟨m, c, rfl, hm⟩ := ok t List.mem_cons_self
    obtain ⟨ps, rfl, _, _⟩ := mb_parts hm
    cases ps <;> rfl
/-- a polynomial without letters -/
theorem const_kvs {kvs : List Ent} (nd : (kvs.map (·.1)).Nodup) (hne : kvs ≠ []) (h : ∀ e ∈ kvs, e.1.data = .tuple []) : ∃ e, kvs = [e] := by
  match kvs, nd, hne, h with
  | [e], _, _, _ => exact ⟨e, rfl⟩
  | a :: b :: r, nd, _, h =>
    have h1 := h a List.mem_cons_self
    have h2 := h b (List.mem_cons_of_mem _ List.mem_cons_self)
    have e : a.1 = b.1 := data_inj (h1.trans h2.symm)
    rw [List.map_cons, List.nodup_cons] at nd
    exact absurd (by rw [e]; exact List.mem_map.mpr ⟨b, List.mem_cons_self, rfl⟩) nd.1
theorem sortD_one (d : PyData) : sortD [d] = [d] := by
  unfold sortD
  exact List.mergeSort_singleton d
/-- what repr may be asked of -/
def Rep (K : PySem.W.Frag) (d : PyData) : Prop := ∃ s : Str, ∀ (ta : TE) (σ : L2.St) (H : Hp), EvD K ta σ H d → Ev (tCB (rReprV K) (tCons ta tNil)) σ H (.str s)
theorem rep_none {K : PySem.W.Frag} : Rep K .none := ⟨_, fun _ _ _ h => ev_reprN h⟩
theorem rep_tup {K : PySem.W.Frag} {ds : List PyData} (hg : goodD (.tuple ds)) (hd : (PyData.tuple ds).depth ≤ 40) (hw : (PyData.tuple ds).weight ≤ 10000) : Rep K (.tuple ds) := ⟨_, fun _ _ _ h => ev_reprT h hg hd hw⟩
theorem rep_frac {K : PySem.W.Frag} {x : PyData} {k : Nat} (h : FB k x) (h0 : 0 < k) (hk : k ≤ 989) : Rep K x := by
  have a := h.good hk
  have b := h.weight h0
  obtain ⟨n, m, rfl, _⟩ := h
  exact rep_tup a.1 (by omega) (by omega)
theorem asNum_kinds {ts : List PyData} (ok : ∀ t ∈ ts, ∃ m c, t = .tuple [m, c] ∧ MB 3 m ∧ FB 900 c) : asNumD (.tuple ts) = .none ∨ FB 900 (asNumD (.tuple ts)) := by
  match ts, ok with
  | [], _ => exact .inr ⟨0, 1, rfl, by decide, by decide, Nat.pow_pos (by decide), Nat.one_lt_two_pow (by decide)⟩
  | [t], ok =>
    obtain ⟨m, c, rfl, hm, hc⟩ := ok t List.mem_cons_self
    obtain ⟨ps, rfl, _, _⟩ := mb_parts hm
    cases ps with
    | nil => exact .inr hc
    | cons a b => exact .inl rfl
  | t :: u :: r, ok =>
    obtain ⟨m, c, rfl, hm, _⟩ := ok t List.mem_cons_self
    obtain ⟨ps, rfl, _, _⟩ := mb_parts hm
    cases ps <;> exact .inl rfl
section
variable {K : PySem.W.Frag} {σ : L2.St} {H : Hp} {ta tb : TE}
theorem ev_non (h : EvD K ta σ H .none) : Ev ta σ H .non := fun H1 e Q q => h H1 e Q fun v H2 e2 hd => by rw [dp_non hd]; exact q H2 e2
theorem ev_isN {x : V} (ha : Ev ta σ H x) (hb : Ev tb σ H .non) : Ev (tOp (fun x y H Q => y = .non ∧ Q (.bl (decide (x = .non))) H) ta tb) σ H (.bl (decide (x = .non))) := fun H1 m Q q =>
  ha H1 m _ fun H2 e2 => hb H2 (m.trans e2) _ fun H3 e3 => ⟨rfl, q H3 (e2.trans e3)⟩
theorem good_two {a b : PyData} (ha : goodD a) (hb : goodD b) : goodD (.tuple [a, b]) := good_tup.mpr ⟨by show 2 ≤ 100; omega, fun d hd => by
  simp only [List.mem_cons, List.not_mem_nil, or_false] at hd
  rcases hd with rfl | rfl
  · exact ha
  · exact hb⟩
theorem good_one {a : PyData} (ha : goodD a) : goodD (.tuple [a]) := good_tup.mpr ⟨by show 1 ≤ 100; omega, fun d hd => by rw [List.mem_singleton.mp hd]; exact ha⟩
theorem good_nil : goodD (.tuple []) := good_tup.mpr ⟨by decide, fun _ h => nomatch h⟩
theorem wt2 (a b : PyData) : (PyData.tuple [a, b]).weight = a.weight + 1 + (b.weight + 1 + 0) := by simp only [PyData.weight, PyData.weightAll]
theorem wt1 (a : PyData) : (PyData.tuple [a]).weight = a.weight + 1 + 0 := by simp only [PyData.weight, PyData.weightAll]
/-- (((), x),) -/
theorem rep_num {x : PyData} (h : FB 139 x) : Rep K (.tuple [.tuple [.tuple [], x]]) := by
  have a := h.good (by decide)
  have b := h.weight (by decide)
  refine rep_tup (good_one (good_two good_nil a.1)) ?_ ?_
  · simp only [PyData.depth, PyData.depthAll]; omega
  · simp only [PyData.weight, PyData.weightAll]; omega
theorem rep_let {s : Str} {k : Int} (hs : isNameL s.cps.toList = true) (k0 : 0 ≤ k) (k1 : k < 21) : Rep K (letD (.str s) (.int k)) := by
  have hl := name_len hs
  have hw := weight_int (i := k) (k := 20) (by decide) (by omega)
  have gk : goodD (.int k) := small_int (by omega)
  have gs : goodD (.str s) := by rw [goodD]; exact hs
  refine rep_tup (good_one (good_two (good_one (good_two (good_two gs gk) (small_int (by decide)))) (good_two (small_int (by decide)) (small_int (by decide))))) ?_ ?_
  · simp [oneF, PyData.depth, PyData.depthAll]
  · have e : (PyData.str s).weight = s.length := by simp only [PyData.weight]; rfl
    have e1 : (PyData.int 1).weight = 1 := by decide
    simp only [oneF]
    simp only [wt1, wt2]
    rw [e, e1]
    omega
end
end K00
end

section
set_option Elab.async false
set_option linter.all false
set_option maxRecDepth 100000
set_option exponentiation.threshold 10000
set_option maxHeartbeats 4000000
/-! the law: one turn; by an AI agent -/
namespace K00
open PySem PySem.Spec PyProof.Rows L2 RX
open Evl (Ex Ev EvT EvA EvL EvU RV RC)
section
variable {X : Cx}
theorem u1 {A : Around} {k : Nat} (hr : Room k A) : A.units < cLine := by have := hr.un; omega
theorem pi_listK {tg : Expr} (K : PySem.W.Frag) (h : X.K = K) {l : Expr} {tl : TE} (hl : PE X l tl) : PI X tg l (iList K tl) := by subst h; exact pi_list hl
theorem sl_listK (K : PySem.W.Frag) (h : X.K = K) : SlR X (rSlL K) := by subst h; exact sl_list
theorem op_notIn_seqK (K : PySem.W.Frag) (h : X.K = K) : OpR X (compareOp .NotIn) (rIn K true) := by subst h; exact op_notIn_seq
theorem pg_tupK (K : PySem.W.Frag) (h : X.K = K) {es : List Expr} {k : Nat} {t : TGs} {n : Nat} {pos : Pos} (hc : X.calm = true) (h' : PGs X es t)
    (hn : (assignEach es X.env).length = n := by rfl) (hst : (assignEach es X.env).findIdx? (·.1) = none := by rfl) : PG X (.Tuple es k pos) (gTup K n t) := by subst h; exact pg_tup hc h' hn hst
end
theorem blkOk_nofree {N : List Str} {sc sc' scope : Scope} {own : List (Str × Nat)} (h : BlkOk N sc' scope own) (hf : (scope.names.all fun y => y.2 != NameKind.free) = true) : BlkOk N sc scope own :=
  ⟨h.kind, h.uniq, h.ix, fun y hy e => by
    have := List.all_eq_true.mp hf y hy
    rw [e] at this
    exact absurd this (by decide), h.own⟩
abbrev s__law_turn_right : Stmt := topS 45
theorem sc__law_turn_right : FnScope ["m", "p", "value", "turn", "whole", "found", "mono", "one", "e", "letters", "names", "f", "name", "k", "part"] ["m"] (defScope s__law_turn_right) := ⟨rfl, rfl, rfl, by decide +kernel, rfl, by decide +kernel, by decide +kernel⟩
theorem m_or {t u : TT} {σ : L2.St} {H : Hp} {Q : Bool → Hp → Prop} (h : t σ H fun b H1 => if b = true then Q true H1 else u σ H1 Q) : tOr t u σ H Q := h
theorem m_ifS {c : TT} {t u : TS} {D : Ends} {σ : L2.St} {H : Hp} (h : c σ H fun b H1 => if b = true then t D σ H1 else u D σ H1) : tIfS c t u D σ H := h
theorem m_not {t : TT} {σ : L2.St} {H : Hp} {Q : Bool → Hp → Prop} (h : t σ H fun b H1 => Q (!b) H1) : tNot t σ H Q := h
theorem m_B {te : TE} {σ : L2.St} {H : Hp} {Q : Bool → Hp → Prop} (h : te σ H fun x H1 => ∃ b, x = .bl b ∧ Q b H1) : tB te σ H Q := h
theorem m_asgP {te : TE} {D : Ends} {i : Nat} {σ : L2.St} {H : Hp} (Post : V → Hp → Prop) (h : ∀ Q : VK, (∀ u H', Post u H' → Q u H') → te σ H Q) (k : ∀ u H', Post u H' → D.nx (σ.set i (some u)) H') : tAsg te (gName i) D σ H := h _ k
theorem m_stP {S : TS} {D : Ends} {σ : L2.St} {H : Hp} (Post : L2.St → Hp → Prop) (h : ∀ D' : Ends, (∀ σ' H', Post σ' H' → D'.nx σ' H') → S D' σ H) (k : ∀ σ' H', Post σ' H' → D.nx σ' H') : S D σ H := h D k
theorem m_seqP {S T : TS} {D : Ends} {σ : L2.St} {H : Hp} (Post : L2.St → Hp → Prop) (h : ∀ D' : Ends, (∀ σ' H', Post σ' H' → D'.nx σ' H') → S D' σ H) (k : ∀ σ' H', Post σ' H' → T D σ' H') : tSeq S T D σ H := h { D with nx := T D } k
theorem ixT_dp {K : PySem.W.Frag} {H : Hp} {x : V} {ds : List PyData} {d : PyData} {j : Int} {Q : VK} (hx : Dp K H x (.tuple ds)) (h0 : 0 ≤ j) (hi : ds[j.toNat]? = some d) (q : ∀ u, Dp K H u d → Q u H) : rIxT K x (.int j) H Q := by
  obtain ⟨a, xs, rfl, sa, da⟩ := dp_tup hx
  obtain ⟨u, hu, du⟩ := dpAll_get da hi
  have e : j = ((j.toNat : Nat) : Int) := by omega
  have h := atI_nat hu
  rw [← e] at h
  exact ⟨a, xs, j, u, rfl, rfl, sa, h, q u du⟩
/-- t[draw(len(t))][0] -/
theorem m_pick {K : PySem.W.Frag} {σ : L2.St} {H : Hp} {m : Addr} {k i : Nat} {v : V} {ts : List PyData} {Q : VK} (h0 : σ[0]? = some (some (.ref m))) (hi : σ[i]? = some (some v)) (hv : Dp K H v (.tuple ts)) (hn : ts ≠ []) (hl : ts.length ≤ 100) (ht : ∀ t ∈ ts, ∃ a r, t = .tuple (a :: r))
    (st : Mst K H m k) (hk : k < mostK) (q : ∀ t a r u H', t ∈ ts → t = .tuple (a :: r) → Dp K H' u a → Mst K H' m (k + 1) → But m H H' → Q u H') :
    tOp (rIxT K) (tOp (rIxT K) (tVar i) (tCall (spDraw K) [] E0 (tCons (tVar 0) (tCons (tCB (fun xs H Q => ∃ p ys, xs = [V.ref p] ∧ (SqL K H p ys ∨ SqT K H p ys) ∧ Q (V.int ys.length) H) (tCons (tVar i) tNil)) tNil)))) (tC (.int 0)) σ H Q := by
  have hpos : 0 < ts.length := List.length_pos_iff.mpr hn
  refine m_op (m_op (Evl.ev_var (i := i) (v := v) hi H (Ex.refl H) _ fun H1 e1 => ?_))
  have hv1 := dp_ex e1 hv
  refine m_draw (Evl.ev_var h0) (ev_lenT (K := K) (evd_var hi hv1)) (st.ex e1) (by omega) (Nat.lt_of_lt_of_le (m := 101) (by omega) (by decide)) hk fun j H2 j0 j1 s2 b2 => ?_
  have hv2 := dp_but (st.ex e1).noSeq b2 hv1
  have hlt : j.toNat < ts.length := by omega
  have hg : ts[j.toNat]? = some ts[j.toNat] := List.getElem?_eq_getElem hlt
  have hm : ts[j.toNat] ∈ ts := List.getElem_mem hlt
  generalize ts[j.toNat] = t at hg hm
  refine ixT_dp hv2 j0 hg fun u hu => ?_
  obtain ⟨a, r, rfl⟩ := ht t hm
  refine Evl.ev_c H2 (Ex.refl H2) _ fun H3 e3 => ?_
  exact ixT_dp (d := a) (dp_ex e3 hu) (by decide) rfl fun u' hu' => q _ a r u' H3 hm rfl hu' (s2.ex e3) (((But.of e1).trans b2).trans (But.of e3))
/-- one turn of the law -/
def spRight (K : PySem.W.Frag) : Sp := fun vs H Q _ => ∃ (m : Addr), vs = [.ref m] ∧ Mst K H m 0 ∧ ∀ H', But m H H' → Q (.bl true) H'
section
variable {P : Program} {w : World} {K : PySem.W.Frag} {mg : Str → Option Value} {base : Heap}
theorem has_law_turn_right (T : Txt K mg) (D : DefAt K mg "_law_turn_right" s__law_turn_right ["m"]) (h_law_drawn : Has P w K mg base 5 "_law_drawn" ["m"] (pDrawn P w K)) (h_law_form : Has P w K mg base 1 "_law_form" ["p"] (spForm P w K))
    (h_law_told_right : HasQ P w K mg base 5 "_law_told_right" ["value"] (pTold K)) (h_law_is_poly : Has P w K mg base 4 "_law_is_poly" ["value"] (pPoly K)) (h_law_draw : Has P w K mg base 1 "_law_draw" ["m", "below"] (spDraw K))
    (h_law_spoilt : Has P w K mg base 10 "_law_spoilt" ["m", "value", "room"] (spSpoilt K 6)) (hletters_of : Has P w K mg base 1 "letters_of" ["p"] (spLetters K)) (hnames_of : Has P w K mg base 1 "names_of" ["p"] (spNames K))
    (has_number : Has P w K mg base 1 "as_number" ["p"] (pAsNum K)) (hnumber : Has P w K mg base 1 "number" ["f"] (pNumber K)) (hletter : Has P w K mg base 1 "letter" ["name", "k"] (pLetD K)) (h_law_fraction : Has P w K mg base 3 "_law_fraction" ["m"] (pFra K)) (h_law_name : Has P w K mg base 2 "_law_name" ["m"] (pNameM K)) :
    HasQ P w K mg base 11 "_law_turn_right" ["m"] (spRight K) := by
  refine mkq D sc__law_turn_right (fun vs H Q E h => ?_) (fun f cdv A outer s H vs Q E hq hr h => ?_)
  · obtain ⟨m, rfl, _⟩ := h
    rfl
  obtain ⟨m, rfl, st, fin⟩ := h
  refine ⟨_, (pss_cons (ps_set (i := 1) sc__law_turn_right.nd rfl (Or.inl rfl) (ph h_law_drawn (hr.mono (by decide)) (pa_cons (pv 0) pa_nil)))
  (pss_cons (ps_set (i := 2) sc__law_turn_right.nd rfl (Or.inl rfl) (ph h_law_form (hr.mono (by decide)) (pa_cons (pv 1) pa_nil)))
  (pss_cons (ps_if (PW.pt (pw_or (pt_not (pt_val (phq h_law_told_right hq (hr.mono (by decide)) (pa_cons (pv 2) pa_nil)))) (pw_or1 (pt_not (pt_val (ph h_law_is_poly (hr.mono (by decide)) (pa_cons (pv 2) pa_nil)))))))
  (pss_one (ps_ret pe_bl))
  pss_nil)
  (pss_cons (ps_for PassesOwn.never rfl (pi_range1 (by rfl) T.range (pa_cons pe_int pa_nil)) (pg_name (i := 3) sc__law_turn_right.nd rfl (Or.inl rfl))
  (pss_cons (ps_set (i := 4) sc__law_turn_right.nd rfl (Or.inl rfl) (pe_ifExp (PW.pt (pw_or (pt_cmpR (op_eqD (u64 hr)) (pv 2) (pe_tup pa_nil) (nomark _)) (pw_or1 (pt_cmpR op_gt (ph h_law_draw (hr.mono (by decide)) (pa_cons (pv 0) (pa_cons pe_int pa_nil))) pe_int (nomark _))))) (pv 2) (pe_ix ix_tup (pe_ix ix_tup (pv 2) (ph h_law_draw (hr.mono (by decide)) (pa_cons (pv 0) (pa_cons (pe_callB call_len_seq (by rfl) T.len (by decide +kernel) (pa_cons (pv 2) pa_nil)) pa_nil))) (fun _ _ => rfl)) pe_int (fun _ _ => rfl))))
  (pss_cons (ps_if (PW.pt (pw_and (pt_cmpR (op_neD (u64 hr)) (pv 4) (pv 2) (nomark _)) (pw_and (pt_cmpR (op_neD (u64 hr)) (pv 4) (pe_tup pa_nil) (nomark _)) (pw_and1 (pt_cmpR op_eq (ph h_law_draw (hr.mono (by decide)) (pa_cons (pv 0) (pa_cons pe_int pa_nil))) pe_int (nomark _))))))
  (pss_one (ps_set (i := 4) sc__law_turn_right.nd rfl (Or.inl rfl) (pe_ix ix_tup (pe_ix ix_tup (pv 4) (ph h_law_draw (hr.mono (by decide)) (pa_cons (pv 0) (pa_cons (pe_callB call_len_seq (by rfl) T.len (by decide +kernel) (pa_cons (pv 4) pa_nil)) pa_nil))) (fun _ _ => rfl)) pe_int (fun _ _ => rfl))))
  pss_nil)
  (pss_one (ps_if (PW.pt (pw_or (pt_not (pt_val (phq h_law_told_right hq (hr.mono (by decide)) (pa_cons (pv 4) pa_nil)))) (pw_or1 (pt_not (pt_val (phq h_law_told_right hq (hr.mono (by decide)) (pa_cons (ph h_law_spoilt (hr.mono (by decide)) (pa_cons (pv 0) (pa_cons (pv 4) (pa_cons pe_int pa_nil)))) pa_nil)))))))
  (pss_one (ps_ret pe_bl))
  pss_nil)))))
  (pss_cons (ps_set (i := 5) sc__law_turn_right.nd rfl (Or.inl rfl) pe_nnew)
  (pss_cons (ps_lock (ps_for PassesOwn.never rfl (pi_keysN (pv 1)) (pg_name (i := 6) sc__law_turn_right.nd rfl (Or.inl rfl))
  (pss_one (ps_for PassesOwn.never rfl (pi_tup (pv 6)) (pg_tup rfl (pgs_cons (pg_name (i := 7) sc__law_turn_right.nd rfl (Or.inl rfl)) (pgs_cons (pg_name (i := 8) sc__law_turn_right.nd rfl (Or.inl rfl)) pgs_nil)))
  (pss_one (ps_nput (u9 hr) (pv 5) (pv 7) pe_bl rfl))))))
  (pss_cons (ps_set (i := 9) sc__law_turn_right.nd rfl (Or.inr rfl) (pe_callB (call_sortedN (u45 hr)) (by rfl) T.sorted (by decide +kernel) (pa_cons (pe_callTy (call_listN rfl) (by rfl) T.list (by decide +kernel) (pa_cons (pv 5) pa_nil)) pa_nil)))
  (pss_cons (ps_set (i := 10) sc__law_turn_right.nd rfl (Or.inl rfl) (pe_callB (call_sortedN (u45 hr)) (by rfl) T.sorted (by decide +kernel) (pa_cons (pe_lc (own := [("k", 13), ("one", 7)]) (g := gTup K 2 (gCons (gName 13) (gCons (gName 7) gNil))) rfl sc__law_turn_right.nd (pi_enum (by rfl) T.enumerate (pa_cons (pv 9) pa_nil)) (blkOk_by (own := [("k", 13), ("one", 7)]) (N := ["m", "p", "value", "turn", "whole", "found", "mono", "one", "e", "letters", "names", "f", "name", "k", "part"]) (sc := defScope s__law_turn_right) (by decide +kernel)) (fun _ _ _ _ _ => (pg_tupK K rfl rfl (pgs_cons (pg_name (i := 13) sc__law_turn_right.nd rfl (Or.inl rfl)) (pgs_cons (pg_name (i := 7) sc__law_turn_right.nd rfl (Or.inl rfl)) pgs_nil)))) (fun _ _ _ _ _ => (pts_one (pt_cmpR (op_notIn_seqK K rfl) (pe_ix (ix_tupK K rfl) (pv 7) pe_int (fun _ _ => rfl)) (pe_lc (own := [("part", 14)]) (g := gName 14) (tt := tYes) rfl sc__law_turn_right.nd (pi_listK K rfl (pe_slice (sl_listK K rfl) (pv 9) po_none (po_some (pv 13)))) (blkOk_nofree (blkOk_by (own := [("part", 14)]) (N := ["m", "p", "value", "turn", "whole", "found", "mono", "one", "e", "letters", "names", "f", "name", "k", "part"]) (sc := defScope s__law_turn_right) (by decide +kernel)) (by decide +kernel)) (fun _ _ _ _ _ => (pg_name (i := 14) sc__law_turn_right.nd rfl (Or.inl rfl))) (fun _ _ _ _ _ => pts_nil) (fun _ _ _ _ _ => (pe_ix (ix_tupK K rfl) (pv 14) pe_int (fun _ _ => rfl)))) (by rfl)))) (fun _ _ _ _ _ => (pe_ix (ix_tupK K rfl) (pv 7) pe_int (fun _ _ => rfl)))) pa_nil)))
  (pss_cons (ps_if (PW.pt (pw_or (pt_cmpR op_ne (pe_callB (call_reprV hq (u45 hr)) (by rfl) T.repr (by decide +kernel) (pa_cons (ph hletters_of (hr.mono (by decide)) (pa_cons (pv 2) pa_nil)) pa_nil)) (pe_callB (call_reprV hq (u45 hr)) (by rfl) T.repr (by decide +kernel) (pa_cons (pe_callTy call_tuple_of (by rfl) T.tuple (by decide +kernel) (pa_cons (pv 9) pa_nil)) pa_nil)) (nomark _)) (pw_or1 (pt_cmpR op_ne (pe_callB (call_reprV hq (u45 hr)) (by rfl) T.repr (by decide +kernel) (pa_cons (ph hnames_of (hr.mono (by decide)) (pa_cons (pv 2) pa_nil)) pa_nil)) (pe_callB (call_reprV hq (u45 hr)) (by rfl) T.repr (by decide +kernel) (pa_cons (pe_callTy call_tuple_of (by rfl) T.tuple (by decide +kernel) (pa_cons (pv 10) pa_nil)) pa_nil)) (nomark _)))))
  (pss_one (ps_ret pe_bl))
  pss_nil)
  (pss_cons (ps_set (i := 4) sc__law_turn_right.nd rfl (Or.inl rfl) (pe_ifExp (pt_cmpR (op_eqEmpty (u1 hr)) (pv 1) pe_nnew (nomark _)) (pe_tup (pa_cons pe_int (pa_cons pe_int pa_nil))) (pe_ifExp (pt_cmpR (op_eqD (u64 hr)) (pv 9) (pe_lst pa_nil) (nomark _)) (pe_nget (u9 hr) (pv 1) (pe_tup pa_nil) (fun _ _ => rfl)) pe_non)))
  (pss_cons (ps_if (pt_cmpR op_ne (pe_callB (call_reprV hq (u45 hr)) (by rfl) T.repr (by decide +kernel) (pa_cons (ph has_number (hr.mono (by decide)) (pa_cons (pv 2) pa_nil)) pa_nil)) (pe_callB (call_reprV hq (u45 hr)) (by rfl) T.repr (by decide +kernel) (pa_cons (pv 4) pa_nil)) (nomark _))
  (pss_one (ps_ret pe_bl))
  pss_nil)
  (pss_cons (ps_par3 (i := 11) (j := 12) (l := 13) rfl sc__law_turn_right.nd rfl rfl rfl (by decide) (by decide) (by decide) rfl rfl rfl (pa_cons (ph h_law_fraction (hr.mono (by decide)) (pa_cons (pv 0) pa_nil)) (pa_cons (ph h_law_name (hr.mono (by decide)) (pa_cons (pv 0) pa_nil)) (pa_cons (ph h_law_draw (hr.mono (by decide)) (pa_cons (pv 0) (pa_cons pe_int pa_nil))) pa_nil))) (by rfl))
  (pss_cons (ps_if (PW.pt (pw_or (pt_cmpR op_ne (pe_callB (call_reprV hq (u45 hr)) (by rfl) T.repr (by decide +kernel) (pa_cons (ph hnumber (hr.mono (by decide)) (pa_cons (pv 11) pa_nil)) pa_nil)) (pe_callB (call_reprV hq (u45 hr)) (by rfl) T.repr (by decide +kernel) (pa_cons (pe_tup (pa_cons (pe_tup (pa_cons (pe_tup pa_nil) (pa_cons (pv 11) pa_nil))) pa_nil)) pa_nil)) (nomark _)) (pw_or1 (pt_cmpR op_ne (pe_callB (call_reprV hq (u45 hr)) (by rfl) T.repr (by decide +kernel) (pa_cons (ph has_number (hr.mono (by decide)) (pa_cons (ph hnumber (hr.mono (by decide)) (pa_cons (pv 11) pa_nil)) pa_nil)) pa_nil)) (pe_callB (call_reprV hq (u45 hr)) (by rfl) T.repr (by decide +kernel) (pa_cons (pv 11) pa_nil)) (nomark _)))))
  (pss_one (ps_ret pe_bl))
  pss_nil)
  (pss_one (ps_ret (pe_and (pe_cmpR op_eq (pe_callB (call_reprV hq (u45 hr)) (by rfl) T.repr (by decide +kernel) (pa_cons (ph hletter (hr.mono (by decide)) (pa_cons (pv 12) (pa_cons (pv 13) pa_nil))) pa_nil)) (pe_callB (call_reprV hq (u45 hr)) (by rfl) T.repr (by decide +kernel) (pa_cons (pe_tup (pa_cons (pe_tup (pa_cons (pe_tup (pa_cons (pe_tup (pa_cons (pe_tup (pa_cons (pv 12) (pa_cons (pv 13) pa_nil))) (pa_cons pe_int pa_nil))) pa_nil)) (pa_cons (pe_tup (pa_cons pe_int (pa_cons pe_int pa_nil))) pa_nil))) pa_nil)) pa_nil)) (nomark _)) (pe_one (pe_cmpR op_isN (ph has_number (hr.mono (by decide)) (pa_cons (ph hletter (hr.mono (by decide)) (pa_cons (pv 12) (pa_cons (pv 13) pa_nil))) pa_nil)) pe_non (nomark _))))))))))))))))))), ?_⟩
  try dsimp only [cxOf, Cx.nox]
  try dsimp only [tNext, tSeq]
  dsimp only [tAsg]
  -- the polynomial
  refine m_call (Evl.ea_cons (Evl.ev_var rfl) Evl.ea_nil) rfl st (by unfold mostK; omega) (fun _ _ => trivial) fun v1 H1 s1 b1 p1 => ?_
  obtain ⟨p, kvs, rfl, hp1, pp1⟩ := p1
  obtain ⟨g, hg⟩ := pp1.fun
  have VV := val_of pp1 fun e he => (hg e he).2
  dsimp only [gName, List.set]
  -- its form
  refine (?_ : tCall (spForm P w K) [] E0 (tCons (tVar 1) tNil) _ H1 _)
  refine m_call1 (Evl.ev_var (i := 1) (v := .ref p) rfl H1 (Ex.refl H1) _ fun H2 e2 => ?_)
  refine ⟨p, kvs, 900, 5, g, rfl, e2 _ _ hp1, pp1.ds (DS.of e2), by omega, fun e he => ⟨dp_ex e2 (hg e he).1, good_key ((hg e he).2.1.good (by omega)).1⟩, fun val H3 e3 hv3 => ?_⟩
  have hv3 : Dp K H3 val (.tuple ((sortD (keyData kvs)).map fun m => .tuple [m, g m])) := hv3
  generalize hts : ((sortD (keyData kvs)).map fun m => PyData.tuple [m, g m]) = ts at hv3 VV
  have E3 := e2.trans e3
  have hp3 := E3 _ _ hp1
  have pp3 := pp1.ds (DS.of E3)
  have s3 := s1.ex E3
  have B3 : But m H H3 := b1.trans (But.of E3)
  have shv : shorts [.tuple ts] := ⟨good_short VV.good, trivial⟩
  dsimp only [gName, List.set]
  -- both say that it is right
  have vV : ∀ {i : Nat} {σ' : L2.St} {H' : Hp}, σ'[i]? = some (some val) → Ex H3 H' → EvD K (tVar i) σ' H' (.tuple ts) := fun h e => evd_var h (dp_ex e hv3)
  refine Evl.s_if (b := false) (Evl.et_is (Evl.et_or (Evl.et_not (Evl.et_B (ev_callB (K := K) (ead_cons (vV (i := 2) rfl (Ex.refl H3)) ead_nil) rfl shv))) fun _ => Evl.et_not (Evl.et_B (ev_callB (K := K) (ead_cons (vV (i := 2) rfl (Ex.refl H3)) ead_nil) rfl shv))) ?_) (fun z => nomatch z) (fun _ H4 e4 => ?_)
  · show (!true || !isPolyD (.tuple ts)) = false
    rw [VV.poly]; rfl
  try dsimp only [tNext, tSeq]
  have term : ∀ t ∈ ts, ∃ a r, t = .tuple (a :: r) := fun t ht => by
    obtain ⟨m, c, rfl, _⟩ := VV.ok t ht
    exact ⟨m, [c], rfl⟩
  have gts := good_tup.mp VV.good
  refine Evl.s_forR1 (n := 6) (Evl.ea_cons Evl.ev_c Evl.ea_nil) (by decide) (fun i σ' H' => ∃ y z : Option V, σ' = [some (.ref m), some (.ref p), some val, y, z, none, none, none, none, none, none, none, none, none, none] ∧ Mst K H' m (200 + 30 * i) ∧ But m H3 H')
    (fun H5 e5 => ⟨none, none, rfl, (s3.ex (e4.trans e5)).mono (by omega), But.of (e4.trans e5)⟩) (fun i σ' Ha hi h => ?_) (fun σ' H5 h => ?_)
  · obtain ⟨y, z, rfl, sa, ba⟩ := h
    have hva : Dp K Ha val (.tuple ts) := dp_but s3.noSeq ba hv3
    have hi6 : i < 6 := by omega
    have hm : ∀ c, c ≤ 1000 → c < mostK := fun c hc => by unfold mostK; omega
    dsimp only [List.set, tSeq]
    -- the whole
    refine m_asgP (fun u H' => ∃ x, (x = .tuple ts ∨ MB 3 x) ∧ Dp K H' u x ∧ Mst K H' m (200 + 30 * i + 2) ∧ But m Ha H') (fun Q' q' => ?_) (fun u H5 h => ?_)
    · have tst := Evl.et_test (ev_eqD (K := K) (evd_var (σ := [some (.ref m), some (.ref p), some val, some (.int (i : Int)), z, none, none, none, none, none, none, none, none, none, none]) (i := 2) rfl hva) (evd_tup (ta := tNil) ead_nil (by decide)) (good_shaped VV.good (by have := VV.depth; omega)) rfl)
      rw [eqv_empty] at tst
      refine m_if (m_or (tst Ha (Ex.refl Ha) _ fun H5 e5 => ?_))
      by_cases hn : ts = []
      · rw [if_pos (by rw [hn]; rfl), if_pos rfl]
        exact Evl.ev_var (i := 2) rfl H5 (Ex.refl H5) _ fun H6 e6 => q' val H6 ⟨_, .inl rfl, dp_ex (e5.trans e6) hva, (sa.ex (e5.trans e6)).mono (by omega), But.of (e5.trans e6)⟩
      · rw [if_neg (by cases ts with | nil => exact absurd rfl hn | cons a b => simp)]
        refine m_test (m_op (m_draw (Evl.ev_var rfl) Evl.ev_c (sa.ex e5) (by decide) (by decide) (hm _ (by omega)) fun r H6 r0 r1 s6 b6 => ?_))
        refine Evl.ev_c H6 (Ex.refl H6) _ fun H7 e7 => ?_
        refine ⟨r, 0, rfl, rfl, _, rfl, ?_⟩
        have B7 : But m Ha H7 := ((But.of e5).trans b6).trans (But.of e7)
        have hv7 := dp_but sa.noSeq B7 hva
        by_cases hr0 : 0 < r
        · rw [if_pos (decide_eq_true hr0)]
          exact Evl.ev_var (i := 2) rfl H7 (Ex.refl H7) _ fun H8 e8 => q' val H8 ⟨_, .inl rfl, dp_ex e8 hv7, ((s6.ex e7).ex e8).mono (by omega), B7.trans (But.of e8)⟩
        · rw [if_neg (by simp; omega)]
          exact m_pick (i := 2) rfl rfl hv7 hn (by have := VV.len; omega) term (s6.ex e7) (hm _ (by omega)) fun t a r' u H8 ht hta hu s8 b8 => by
            obtain ⟨mo, c, h1, h2⟩ := VV.ok t ht
            have : a = mo := by rw [hta] at h1; injection h1 with h1; injection h1
            subst this
            exact q' u H8 ⟨a, .inr h2, hu, s8.mono (by omega), B7.trans b8⟩
    obtain ⟨x, hx, hu, s5, b5⟩ := h
    have good : goodD x ∧ x.depth ≤ 6 := by
      rcases hx with rfl | hx
      · exact ⟨VV.good, VV.depth⟩
      · have := hx.good; exact ⟨this.1, by omega⟩
    dsimp only [List.set]
    have hv5 := dp_but sa.noSeq b5 hva
    -- a letter of it
    refine m_seqP (fun σ' H' => ∃ u' x', σ' = [some (.ref m), some (.ref p), some val, some (.int (i : Int)), some u', none, none, none, none, none, none, none, none, none, none] ∧ goodD x' ∧ x'.depth ≤ 6 ∧ Dp K H' u' x' ∧ Mst K H' m (200 + 30 * i + 4) ∧ But m Ha H') (fun D' q' => ?_) (fun σ' H6 h => ?_)
    · have keep : ∀ H6, Ex H5 H6 ∨ (Mst K H6 m (200 + 30 * i + 3) ∧ But m H5 H6) → D'.nx [some (.ref m), some (.ref p), some val, some (.int (i : Int)), some u, none, none, none, none, none, none, none, none, none, none] H6 := fun H6 h6 => by
        rcases h6 with e6 | ⟨s6, b6⟩
        · exact q' _ H6 ⟨u, x, rfl, good.1, good.2, dp_ex e6 hu, (s5.ex e6).mono (by omega), b5.trans (But.of e6)⟩
        · exact q' _ H6 ⟨u, x, rfl, good.1, good.2, dp_but s5.noSeq b6 hu, s6.mono (by omega), b5.trans b6⟩
      refine m_ifS ?_
      have tst := Evl.et_test (ev_neD (K := K) (evd_var (σ := [some (.ref m), some (.ref p), some val, some (.int (i : Int)), some u, none, none, none, none, none, none, none, none, none, none]) (i := 4) rfl hu) (evd_var (i := 2) rfl hv5) (good_shaped good.1 (by omega)) (good_shaped VV.good (by have := VV.depth; omega)))
      refine m_and (tst H5 (Ex.refl H5) _ fun H6 e6 => ?_)
      by_cases hq1 : PyData.eqv x (.tuple ts) = true
      · rw [hq1, if_neg (by decide), if_neg (by decide)]
        exact keep H6 (.inl e6)
      rw [if_pos (by simpa using hq1)]
      have hx3 : MB 3 x := by
        rcases hx with rfl | hx
        · exact absurd (eqv_good VV.good) hq1
        · exact hx
      obtain ⟨ps, rfl, hpl, hps⟩ := mb_parts hx3
      have tst2 := Evl.et_test (ev_neD (K := K) (evd_var (σ := [some (.ref m), some (.ref p), some val, some (.int (i : Int)), some u, none, none, none, none, none, none, none, none, none, none]) (i := 4) rfl (dp_ex e6 hu)) (evd_tup (ta := tNil) ead_nil (by decide)) (good_shaped good.1 (by omega)) rfl)
      rw [eqv_empty] at tst2
      refine m_and (tst2 H6 (Ex.refl H6) _ fun H7 e7 => ?_)
      by_cases hn : ps = []
      · rw [if_neg (by rw [hn]; decide), if_neg (by decide)]
        exact keep H7 (.inl (e6.trans e7))
      rw [if_pos (by cases ps with | nil => exact absurd rfl hn | cons a b => rfl)]
      have E7 := e6.trans e7
      refine m_test (m_op (m_draw (Evl.ev_var rfl) Evl.ev_c (s5.ex E7) (by decide) (by decide) (hm _ (by omega)) fun r H8 r0 r1 s8 b8 => ?_))
      refine Evl.ev_c H8 (Ex.refl H8) _ fun H9 e9 => ?_
      refine Evl.rv_eq rfl H9 (Ex.refl H9) _ fun H10 e10 => ⟨_, rfl, ?_⟩
      have B10 : But m H5 H10 := (((But.of E7).trans b8).trans (But.of e9)).trans (But.of e10)
      have s10 := (s8.ex e9).ex e10
      by_cases hr0 : V.int r = V.int 0
      · rw [if_pos (decide_eq_true hr0)]
        dsimp only [tAsg]
        exact m_pick (i := 4) rfl rfl (dp_but s5.noSeq B10 hu) hn (by omega) (fun t ht => by obtain ⟨l, e, rfl, _⟩ := hps t ht; exact ⟨l, [.int e], rfl⟩) s10 (hm _ (by omega)) fun t a r' u'' H11 ht hta hu'' s11 b11 => by
          obtain ⟨l, e, h1, h2⟩ := hps t ht
          have : a = l := by rw [hta] at h1; injection h1 with h1; injection h1
          subst this
          have lg := h2.good
          exact q' _ H11 ⟨u'', a, rfl, lg.1, by omega, hu'', s11.mono (by omega), (b5.trans B10).trans b11⟩
      · rw [if_neg (by simpa using hr0)]
        exact keep H10 (.inr ⟨s10.mono (by omega), B10⟩)
    obtain ⟨u', x', rfl, g1, g2, hu', s6, b6⟩ := h
    refine m_ifS ?_
    have told := Evl.et_not (Evl.et_B (ev_callB (K := K) (σ := [some (.ref m), some (.ref p), some val, some (.int (i : Int)), some u', none, none, none, none, none, none, none, none, none, none]) (H := H6) (n := 1) (pre := shorts) (f := fun _ => true) (E := E0) (ds := [x']) (ead_cons (evd_var (i := 4) rfl hu') ead_nil) rfl ⟨good_short g1, trivial⟩))
    refine m_or (told H6 (Ex.refl H6) _ fun H7 e7 => ?_)
    rw [if_neg (by decide)]
    refine m_not (m_B (m_call1 (m_call3 (Evl.ev_var (i := 0) (v := .ref m) rfl H7 (Ex.refl H7) _ fun H8 e8 => Evl.ev_var (i := 4) (v := u') rfl H8 (Ex.refl H8) _ fun H9 e9 => Evl.ev_c H9 (Ex.refl H9) _ fun H10 e10 => ?_))))
    have E10 := ((e7.trans e8).trans e9).trans e10
    refine ⟨m, 200 + 30 * i + 4, u', x', rfl, s6.ex E10, by unfold mostK; omega, dp_ex E10 hu', g1, by omega, fun v' H11 s11 b11 p11 => ?_⟩
    obtain ⟨x'', hx'', sx⟩ := p11
    refine ⟨[x''], .cons hx'' .nil, rfl, ⟨sx, trivial⟩, fun H12 e12 => ⟨true, rfl, ?_⟩⟩
    rw [if_neg (by decide)]
    exact ⟨_, _, rfl, (s11.ex e12).mono (by omega), (((ba.trans b6).trans (But.of E10)).trans b11).trans (But.of e12)⟩
  obtain ⟨y0, z0, rfl, s5, b5⟩ := h
  have nsp : NoSeq H5 p := .ext (b5 p _ (fun z => by
    obtain ⟨q, hq'⟩ := s3.at
    rw [z, hq'] at hp3; cases hp3) hp3)
  have npm : p ≠ m := fun z => by
    obtain ⟨q, hq'⟩ := s3.at
    rw [z, hq'] at hp3; cases hp3
  have hp5 := b5 _ _ npm hp3
  have d35 : DS K H3 H5 := Buts.ds (ms := [m]) (fun q hq => by rw [List.mem_singleton.mp hq]; exact s3.noSeq) (Buts.ofBut b5 (List.mem_singleton.mpr rfl))
  have pp5 := pp3.ds d35
  have hv5 := d35.dp hv3
  have B5 : But m H H5 := B3.trans b5
  try dsimp only [tNext, tSeq]
  -- the letters found
  intro tab ht
  have ntm : tab ≠ m := s5.ne ht
  have ntp : tab ≠ p := fun z => by rw [z, hp5] at ht; cases ht
  have E6 : Ex H5 (upd H5 tab (HD P w tab [])) := Ex.new ht
  dsimp only [gName, List.set]
  refine s_forKN (kvs := kvs) (P := P) (w := w) (by rw [upd_ne ntp.symm]; exact hp5) (fun H1 => Evl.ev_var (i := 1) rfl) (fun o i σ' H' => ∃ (x y z : Option V) (ws : List Ent), σ' = [some (.ref m), some (.ref p), some val, y0, z0, some (.ref tab), x, y, z, none, none, none, none, none, none] ∧ H' p = some (.frz o (HD P w p kvs)) ∧ H' tab = some (HD P w tab ws) ∧ Buts [p, tab] H5 H' ∧ LE' K H' ws (3 * i) ∧ ∀ l, l ∈ keyData ws ↔ ∃ e ∈ kvs.take i, ∃ q ∈ itemsD e.1.data, firstD q = l)
    (fun o H1 e1 => ⟨none, none, none, [], rfl, e1 _ _ upd_same, e1 _ _ (by rw [upd_ne ntp]; exact upd_same), fun b u nb hb => ?_, LE'.nil, fun l => ⟨fun h => (nomatch h), fun ⟨_, h, _⟩ => by simp at h⟩⟩) (fun o i σ' H' h => ?_) (fun o i x σ' H' hx h => ?_) (fun o σ' H' h => ?_)
  · have n1 : b ≠ p := fun z => nb (by rw [z]; exact List.mem_cons_self)
    have n2 : b ≠ tab := fun z => nb (by rw [z]; exact List.mem_cons_of_mem _ List.mem_cons_self)
    exact e1 _ _ (by rw [upd_ne n1, upd_ne n2]; exact hb)
  · obtain ⟨_, _, _, _, _, h1, _⟩ := h
    exact h1
  · obtain ⟨x1, y1, z1, ws, rfl, h1, h2, h3, h4, h5⟩ := h
    have mx : x ∈ kvs := List.mem_of_getElem? hx
    have ds1 : DS K H5 H' := h3.ds (fun q hq => by
      rcases List.mem_cons.mp hq with rfl | hq
      · exact nsp
      · rw [List.mem_singleton.mp hq]; exact .none ht)
    obtain ⟨ps, hps, hpl, hok⟩ := mb_parts (pp5.mono x mx)
    have li : i < kvs.length := (List.getElem?_eq_some_iff.mp hx).1
    have lk := pp5.len
    dsimp only [gName, List.set]
    refine s_lets (P := P) (w := w) (a := 7) (b := 8) (c := 5) (σ0 := [some (.ref m), some (.ref p), some val, y0, z0, some (.ref tab), some (.ref x.2.1), none, none, none, none, none, none, none, none]) (x0 := y1) (y0 := z1) (tab := tab) (kvs := ws) (n := 3 * i) (parts := ps) (by decide) (by decide) (by decide) rfl (by show 7 < 15; omega)
      (evd_var rfl (by rw [← hps]; exact ds1.dp (pp5.ko x mx).1)) h2 h4 (by omega) hok fun xx yy kvs' H2 b2 t2 l2 k2 => ?_
    refine ⟨_, _, _, kvs', rfl, b2 _ _ (fun z => ntp (List.mem_singleton.mp z).symm) h1, t2, h3.trans (b2.sub fun q hq => by rw [List.mem_singleton.mp hq]; exact List.mem_cons_of_mem _ List.mem_cons_self), ⟨l2.ko, l2.nd, by have := l2.len; omega, l2.lets⟩, fun l => ?_⟩
    rw [k2, h5]
    constructor
    · rintro (⟨e, he, q⟩ | ⟨q, hq1, hq2⟩)
      · exact ⟨e, (take_mem hx).mpr (.inl he), q⟩
      · exact ⟨x, (take_mem hx).mpr (.inr rfl), q, by rw [hps]; exact hq1, hq2⟩
    · rintro ⟨e, he, q, hq1, hq2⟩
      rcases (take_mem hx).mp he with he | rfl
      · exact .inl ⟨e, he, q, hq1, hq2⟩
      · rw [hps] at hq1
        exact .inr ⟨q, hq1, hq2⟩
  obtain ⟨x1, y1, z1, ws, rfl, h1, h2, h3, h4, h5⟩ := h
  rw [List.take_length] at h5
  have b6 : Buts [tab] H5 (upd H' p (HD P w p kvs)) := by
    intro b u nb hb
    by_cases z : b = p
    · subst z; rw [upd_same, ← hp5, hb]
    · rw [upd_ne z]
      exact h3 _ _ (fun q => by
        rcases List.mem_cons.mp q with q | q
        · exact z q
        · exact nb q) hb
  have ht6 : upd H' p (HD P w p kvs) tab = some (HD P w tab ws) := by rw [upd_ne ntp]; exact h2
  have h4' : LE' K (upd H' p (HD P w p kvs)) ws (3 * kvs.length) := h4.ds (DS.upd (.frz h1) _)
  dsimp only [cxOf, Cx.nox]
  generalize upd H' p (HD P w p kvs) = H6 at b6 ht6 h4'
  clear h1 h2 h3 h4
  have E56 : Ex H5 H6 := fun b u hb => b6 b u (fun q => by rw [List.mem_singleton.mp q, ht] at hb; cases hb) hb
  try dsimp only [tNext, tSeq]
  -- the letters in their order
  have lk5 := pp5.len
  have lets : ∀ d ∈ keyData ws, LB d := fun d hd => by
    obtain ⟨e, he, rfl⟩ := List.mem_map.mp hd
    exact h4'.lets e he
  have so : SortsD (keyData ws) := sorts_letters fun d hd => (lets d hd).letter
  have lsS := sortD_strict (keyData_nodup h4'.nd) so.alike
  have lsM : ∀ l, l ∈ sortD (keyData ws) ↔ LetIn ts l := fun l => by
    rw [sortD_mem, h5]
    constructor
    · rintro ⟨e, he, q, hq1, hq2⟩
      refine ⟨.tuple [e.1.data, g e.1.data], ?_, q, hq1, hq2⟩
      rw [← hts]
      exact List.mem_map.mpr ⟨e.1.data, sortD_mem.mpr (List.mem_map.mpr ⟨e, he, rfl⟩), rfl⟩
    · rintro ⟨t, htm, q, hq1, hq2⟩
      rw [← hts] at htm
      obtain ⟨mo, hmo, rfl⟩ := List.mem_map.mp htm
      obtain ⟨e, he, rfl⟩ := List.mem_map.mp (sortD_mem.mp hmo)
      exact ⟨e, he, q, hq1, hq2⟩
  have lsL : ∀ l ∈ sortD (keyData ws), LB l := fun l hl => lets l (sortD_mem.mp hl)
  have lsN : (sortD (keyData ws)).length ≤ 15 := by
    rw [sortD_len, List.length_map]
    have := h4'.len; omega
  refine s_asgD (K := K) (evd_sorted (evd_keys (P := P) (w := w) (Evl.ev_var (i := 5) rfl) (.inl ht6) h4'.ko) so) fun vL H7 e7 hvL => ?_
  generalize sortD (keyData ws) = ls at lsS lsM lsL lsN hvL
  try dsimp only [tNext, tSeq, List.set]
  -- the names in their order
  have nsD : EvD K (tLc (iEnum K (tCons (tVar 9) tNil)) (gTup K 2 (gCons (gName 13) (gCons (gName 7) gNil))) (tTest (tOp (rIn K true) (tOp (rIxT K) (tVar 7) (tC (V.int 0))) (tLc (iList K (L2.tSl (rSlL K) (tVar 9) tNoPart (tPart (tVar 13)))) (gName 14) tYes (tOp (rIxT K) (tVar 14) (tC (V.int 0))) [14]))) (tOp (rIxT K) (tVar 7) (tC (V.int 0))) [13, 7])
      [some (.ref m), some (.ref p), some val, y0, z0, some (.ref tab), x1, y1, z1, some vL, none, none, none, none, none] H7 (.list ((firstNames ls).map PyData.str)) := by
    have h := evd_lcE (K := K) (σ := [some (.ref m), some (.ref p), some val, y0, z0, some (.ref tab), x1, y1, z1, some vL, none, none, none, none, none]) (H := H7) (tl := tVar 9) (ds := ls) (vs := [13, 7]) (j1 := 13) (j2 := 7) (f := firstAt ls) (v := fun i => .str (nameD (ls.getD i .none)))
      (te := tOp (rIxT K) (tVar 7) (tC (V.int 0))) (tt := tTest (tOp (rIn K true) (tOp (rIxT K) (tVar 7) (tC (V.int 0))) (tLc (iList K (L2.tSl (rSlL K) (tVar 9) tNoPart (tPart (tVar 13)))) (gName 14) tYes (tOp (rIxT K) (tVar 14) (tC (V.int 0))) [14])))
      (evd_var rfl hvL) (by omega) (fun i hi => by simp [keyD]) (fun x y => rfl) (fun i x d H8 e8 hd hx => ?_) (fun i x d H8 e8 hd hx => ?_)
    · have e : (firstNames ls).map PyData.str = ((List.range ls.length).filter (firstAt ls)).map fun i => .str (nameD (ls.getD i .none)) := by
        unfold firstNames
        rw [List.map_map]; rfl
      rw [e]
      exact h
    · obtain ⟨va, xs, rfl, _⟩ := dp_lst hvL
      exact et_first (va := va) rfl rfl rfl (dp_ex e8 hvL) hd hx lsL (by omega) (fun y => rfl) (fun y => rfl)
    · obtain ⟨s, k, rfl, _⟩ := lsL d (List.mem_of_getElem? hd)
      have e1 : nameD (ls.getD i .none) = s := by rw [List.getD_eq_getElem?_getD, hd]; rfl
      show EvD K _ _ _ (.str (nameD (ls.getD i .none)))
      rw [e1]
      exact evd_ixT (K := K) (i := 0) (evd_var rfl hx) Evl.ev_c rfl
  have nsS := sortD_strict (strs_nodup (firstNames_nodup ls)) (sorts_strs _).alike
  have nsM : ∀ d, d ∈ sortD ((firstNames ls).map PyData.str) ↔ ∃ s, d = .str s ∧ NameIn ts s := fun d => by
    rw [sortD_mem]
    constructor
    · intro h
      obtain ⟨s, hs, rfl⟩ := List.mem_map.mp h
      obtain ⟨l, hl, hl2⟩ := firstNames_mem.mp hs
      obtain ⟨s', k, rfl, _⟩ := lsL l hl
      have : s' = s := hl2
      subst this
      exact ⟨s', rfl, k, (lsM _).mp hl⟩
    · rintro ⟨s, rfl, k, hk⟩
      exact List.mem_map.mpr ⟨s, firstNames_mem.mpr ⟨_, (lsM _).mpr hk, rfl⟩, rfl⟩
  refine s_asgD (K := K) (evd_sorted nsD (sorts_strs _)) fun vN H8 e8 hvN => ?_
  have nsN : (sortD ((firstNames ls).map PyData.str)).length ≤ 15 := by
    rw [sortD_len, List.length_map]
    unfold firstNames
    rw [List.length_map]
    exact Nat.le_trans (List.length_filter_le _ _) (by rw [List.length_range]; exact lsN)
  have nsG : ∀ d ∈ sortD ((firstNames ls).map PyData.str), ∃ s, d = .str s ∧ isNameL s.cps.toList = true := fun d hd => by
    obtain ⟨s, rfl, k, hk⟩ := (nsM d).mp hd
    obtain ⟨s', k', e, hn, _⟩ := lsL _ ((lsM _).mpr hk)
    have : s = s' := by injection e with e; injection e with e1 e2; injection e1
    exact ⟨s, rfl, this ▸ hn⟩
  generalize sortD ((firstNames ls).map PyData.str) = ns at nsS nsM nsN nsG hvN
  clear nsD
  try dsimp only [tNext, tSeq, List.set]
  have hv8 : ∀ {H'}, Ex H8 H' → Dp K H' val (.tuple ts) := fun e => dp_ex (((E56.trans e7).trans e8).trans e) hv5
  have gl : goodD (.tuple ls) := good_tup.mpr ⟨by omega, fun d hd => (lsL d hd).good.1⟩
  have dl : (PyData.tuple ls).depth ≤ 40 := by
    have := depthAll_le fun d hd => (lsL d hd).good.2
    rw [PyData.depth]; omega
  have wl : (PyData.tuple ls).weight ≤ 10000 := by
    have h := weightAll_le fun d hd => (lsL d hd).weight
    have e : (PyData.tuple ls).weight = PyData.weightAll ls := by simp only [PyData.weight]
    rw [e]
    have : ls.length * (40 + 1) ≤ 15 * (40 + 1) := Nat.mul_le_mul_right _ lsN
    omega
  have gn : goodD (.tuple ns) := good_tup.mpr ⟨by omega, fun d hd => by obtain ⟨s, rfl, hs⟩ := nsG d hd; rw [goodD]; exact hs⟩
  have dn : (PyData.tuple ns).depth ≤ 40 := by
    have := depthAll_le (n := 0) (l := ns) fun d hd => by obtain ⟨s, rfl, hs⟩ := nsG d hd; simp [PyData.depth]
    rw [PyData.depth]; omega
  have wn : (PyData.tuple ns).weight ≤ 10000 := by
    have h := weightAll_le (w := 8) (l := ns) fun d hd => by
      obtain ⟨s, rfl, hs⟩ := nsG d hd
      have a := name_len hs
      have e : (PyData.str s).weight = s.length := by simp only [PyData.weight]; rfl
      rw [e]; exact a
    have e : (PyData.tuple ns).weight = PyData.weightAll ns := by simp only [PyData.weight]
    rw [e]
    have : ns.length * (8 + 1) ≤ 15 * (8 + 1) := Nat.mul_le_mul_right _ nsN
    omega
  have tl5 := VV.len
  refine Evl.s_if (b := false) (Evl.et_is (Evl.et_or (Evl.et_test (Evl.ev_op (ev_reprT (K := K) (evd_letters (evd_var (i := 2) rfl (hv8 (Ex.refl H8))) (by omega) VV.ok lsS lsM) gl dl wl) (ev_reprT (K := K) (evd_tupOf (evd_var (i := 9) rfl (dp_ex e8 hvL))) gl dl wl) (Evl.rv_ne rfl))) fun _ => Evl.et_test (Evl.ev_op (ev_reprT (K := K) (evd_names (evd_var (i := 2) rfl (hv8 (Ex.refl H8))) (by omega) VV.ok nsS nsM) gn dn wn) (ev_reprT (K := K) (evd_tupOf (evd_var (i := 10) rfl hvN)) gn dn wn) (Evl.rv_ne rfl))) ?_) (fun z => nomatch z) (fun _ H9 e9 => ?_)
  · simp
  try dsimp only [tNext, tSeq]
  -- what the polynomial comes to
  have hp9 : H9 p = some (HD P w p kvs) := e9 _ _ (e8 _ _ (e7 _ _ (E56 _ _ hp5)))
  have E59 : Ex H5 H9 := ((E56.trans e7).trans e8).trans e9
  have pp9 := pp5.ds (DS.of E59)
  have hvL9 := dp_ex (e8.trans e9) hvL
  have gv : ∀ e ∈ kvs, Dp K H9 e.2.2 (g e.1.data) := fun e he => dp_ex E59 (d35.dp (dp_ex E3 (hg e he).1))
  have whole : EvD K (tIf (tTest (tOp (rEqEmpty P w) (tVar 1) (tNNew P w))) (tTup (tCons (tC (.int 0)) (tCons (tC (.int 1)) tNil))) (tIf (tTest (tOp (rEqD K) (tVar 9) (tLst tNil))) (tNGet P w K (tVar 1) (tTup tNil)) (tC .non)))
      [some (.ref m), some (.ref p), some val, y0, z0, some (.ref tab), x1, y1, z1, some vL, some vN, none, none, none, none] H9 (asNumD (.tuple ts)) := by
    intro Ha ea Q' q'
    refine m_if (m_test (m_op (Evl.ev_var (i := 1) (v := .ref p) rfl Ha (Ex.refl Ha) _ fun Hb eb => ?_)))
    intro d hd
    have E := ea.trans eb
    have Ed : Ex Hb (upd Hb d (HD P w d [])) := Ex.new hd
    refine ⟨p, d, kvs, rfl, rfl, .inl (Ed _ _ (E _ _ hp9)), .inl upd_same, kvs.isEmpty, rfl, ?_⟩
    by_cases hk : kvs = []
    · rw [if_pos (by rw [hk]; rfl)]
      have e0 : ts = [] := List.length_eq_zero_iff.mp (by rw [← hts, List.length_map, sortD_len, List.length_map, hk]; rfl)
      refine evd_tup (K := K) (ead_cons (evd_of Evl.ev_c fun _ => .int 0) (ead_cons (evd_of Evl.ev_c fun _ => .int 1) ead_nil)) sz2 _ (Ex.refl _) _ fun v Hc ec hc => q' v Hc ((eb.trans Ed).trans ec) ?_
      rw [e0]; exact hc
    rw [if_neg (by cases kvs with | nil => exact absurd rfl hk | cons a b => simp)]
    have EE := (E.trans Ed)
    have tst := Evl.et_test (ev_eqD (K := K) (evd_var (σ := [some (.ref m), some (.ref p), some val, y0, z0, some (.ref tab), x1, y1, z1, some vL, some vN, none, none, none, none]) (i := 9) rfl (dp_ex EE hvL9)) (evd_lst (ta := tNil) ead_nil (by decide)) (list_shaped gl (by omega)) rfl)
    rw [eqv_emptyL] at tst
    refine m_if (tst _ (Ex.refl _) _ fun Hc ec => ?_)
    by_cases hl0 : ls = []
    · rw [if_pos (by rw [hl0]; rfl)]
      have allE : ∀ e ∈ kvs, e.1.data = .tuple [] := fun e he => by
        obtain ⟨ps, hps, _, _⟩ := mb_parts (pp9.mono e he)
        cases ps with
        | nil => exact hps
        | cons a b =>
          have : LetIn ts (firstD a) := by
            refine ⟨.tuple [e.1.data, g e.1.data], ?_, a, ?_, rfl⟩
            · rw [← hts]
              exact List.mem_map.mpr ⟨e.1.data, sortD_mem.mpr (List.mem_map.mpr ⟨e, he, rfl⟩), rfl⟩
            · show a ∈ itemsD e.1.data
              rw [hps]; exact List.mem_cons_self
          have := (lsM _).mpr this
          rw [hl0] at this; cases this
      obtain ⟨e, hke⟩ := const_kvs pp9.nd hk allE
      have he : e ∈ kvs := by rw [hke]; exact List.mem_singleton.mpr rfl
      have hts2 : ts = [.tuple [.tuple [], g (.tuple [])]] := by
        rw [← hts, hke]
        show (sortD [e.1.data]).map _ = _
        rw [sortD_one, allE e he]; rfl
      have e1 : asNumD (.tuple ts) = g (.tuple []) := by rw [hts2]; rfl
      have dg := gv e he
      rw [allE e he] at dg
      have EF := EE.trans ec
      refine ev_nget (P := P) (w := w) (K := K) (k := e.1) (Evl.ev_var (i := 1) rfl) (evd_tup (ta := tNil) ead_nil (by decide)) (.inl (EF _ _ hp9)) (keysOk_ds (DS.of EF) pp9.ko) (allE e he) (pp9.ko e he).2 (entAt_get pp9.nd he) Hc (Ex.refl Hc) _ fun Hd ed => q' _ Hd (((eb.trans Ed).trans ec).trans ed) ?_
      rw [e1]; exact dp_ex (EF.trans ed) dg
    · rw [if_neg (by cases ls with | nil => exact absurd rfl hl0 | cons a b => simp)]
      refine Evl.ev_c Hc (Ex.refl Hc) _ fun Hd ed => q' .non Hd (((eb.trans Ed).trans ec).trans ed) ?_
      obtain ⟨l, hl⟩ := List.exists_mem_of_ne_nil _ hl0
      rw [asNum_none VV.ok ⟨l, (lsM l).mp hl⟩]
      exact .non
  refine s_asgD (K := K) whole fun vW H10 e10 hvW => ?_
  try dsimp only [tNext, tSeq, List.set]
  have tsh : ∀ t ∈ ts, termShape t := fun t ht => by
    obtain ⟨mo, c, rfl, hm⟩ := VV.ok t ht
    obtain ⟨ps, rfl, _, _⟩ := mb_parts hm
    exact ⟨ps, c, rfl⟩
  have rW : Rep K (asNumD (.tuple ts)) := by
    rcases asNum_kinds (ts := ts) (fun t ht => by
      rw [← hts] at ht
      obtain ⟨mo, hmo, rfl⟩ := List.mem_map.mp ht
      obtain ⟨e, he, rfl⟩ := List.mem_map.mp (sortD_mem.mp hmo)
      exact ⟨_, _, rfl, pp9.mono e he, (hg e he).2.1⟩) with h | h
    · rw [h]; exact rep_none
    · exact rep_frac h (by decide) (by decide)
  obtain ⟨sW, rW⟩ := rW
  refine Evl.s_if (b := false) (Evl.et_is (Evl.et_test (Evl.ev_op (rW _ _ _ (evd_callD (K := K) (ds := [.tuple ts]) (ead_cons (evd_var (i := 2) rfl (hv8 (e9.trans e10))) ead_nil) rfl ⟨ts, rfl, tsh⟩)) (rW _ _ _ (evd_var (i := 4) rfl hvW)) (Evl.rv_ne rfl))) ?_) (fun z => nomatch z) (fun _ H11 e11 => ?_)
  · simp
  try dsimp only [tNext, tSeq]
  dsimp only [tPar3, tCons, tNil]
  have s11 := s5.ex ((E59.trans e10).trans e11)
  have B11 : But m H H11 := B5.trans (But.of ((E59.trans e10).trans e11))
  refine m_call (Evl.ea_cons (Evl.ev_var rfl) Evl.ea_nil) rfl s11 (by unfold mostK; omega) (fun _ _ => trivial) fun vf H12 s12 b12 p12 => ?_
  obtain ⟨xf, hxf, fx, zx⟩ := p12
  refine m_call (Evl.ea_cons (Evl.ev_var rfl) Evl.ea_nil) rfl s12 (by unfold mostK; omega) (fun _ _ => trivial) fun vn H13 s13 b13 p13 => ?_
  obtain ⟨sn, rfl, hsn⟩ := p13
  refine m_draw (Evl.ev_var rfl) Evl.ev_c s13 (by decide) (by decide) (by unfold mostK; omega) fun kk H14 k0 k1 s14 b14 => ?_
  refine ⟨_, _, _, rfl, ?_⟩
  try dsimp only [tNext, tSeq, List.set]
  have hxf14 : Dp K H14 vf xf := dp_but s13.noSeq b14 (dp_but s12.noSeq b13 hxf)
  have B14 := ((B11.trans b12).trans b13).trans b14
  have nx : numD xf = .tuple [.tuple [.tuple [], xf]] := by rw [numD, if_neg (by rw [zx]; exact fun z => nomatch z)]
  obtain ⟨s1', r1⟩ := rep_num (K := K) fx
  obtain ⟨s2', r2⟩ := rep_frac (K := K) fx (by decide) (by decide)
  obtain ⟨s3', r3⟩ := rep_let (K := K) hsn k0 k1
  have num : ∀ {σ' : L2.St} {H' : Hp}, σ'[11]? = some (some vf) → Ex H14 H' → EvD K (tCall (pNumber K) [] E0 (tCons (tVar 11) tNil)) σ' H' (.tuple [.tuple [.tuple [], xf]]) := fun {σ' H'} h e => by
    have := evd_callD (K := K) (σ := σ') (H := H') (n := 1) (pre := fun ds => isFracD (at0 ds) = true) (f := fun ds => numD (at0 ds)) (E := E0) (ds := [xf]) (ead_cons (evd_var (i := 11) h (dp_ex e hxf14)) ead_nil) rfl fx.frac
    exact evd_is this nx
  refine Evl.s_if (b := false) (Evl.et_is (Evl.et_or (Evl.et_test (Evl.ev_op (r1 _ _ _ (num rfl (Ex.refl H14))) (r1 _ _ _ (evd_tup (ead_cons (evd_tup (ead_cons (evd_tup ead_nil (by decide)) (ead_cons (evd_var (i := 11) rfl hxf14) ead_nil)) sz2) ead_nil) sz1)) (Evl.rv_ne rfl))) fun _ => Evl.et_test (Evl.ev_op (r2 _ _ _ (evd_callD (K := K) (ds := [.tuple [.tuple [.tuple [], xf]]]) (ead_cons (num rfl (Ex.refl H14)) ead_nil) rfl ⟨_, rfl, fun t ht => by rw [List.mem_singleton.mp ht]; exact ⟨[], xf, rfl⟩⟩)) (r2 _ _ _ (evd_var (i := 11) rfl hxf14)) (Evl.rv_ne rfl))) ?_) (fun z => nomatch z) (fun _ H15 e15 => ?_)
  · simp
  try dsimp only [tNext, tSeq]
  have let' : ∀ {σ' : L2.St} {H' : Hp}, σ'[12]? = some (some (.str sn)) → σ'[13]? = some (some (.int kk)) → EvD K (tCall (pLetD K) [] E0 (tCons (tVar 12) (tCons (tVar 13) tNil))) σ' H' (letD (.str sn) (.int kk)) := fun {σ' H'} h h2 =>
    evd_callD (K := K) (σ := σ') (H := H') (n := 2) (pre := anyD) (f := fun ds => letD (at0 ds) (at1 ds)) (E := E0) (ds := [.str sn, .int kk]) (ead_cons (evd_of (Evl.ev_var h) fun _ => .str _) (ead_cons (evd_of (Evl.ev_var h2) fun _ => .int _) ead_nil)) rfl trivial
  refine Evl.s_ret (v := .bl true) ?_ fun H16 e16 => fin H16 (B14.trans (But.of (e15.trans e16)))
  refine Evl.ev_andV (a := true) (Evl.ev_is (Evl.ev_op (r3 _ _ _ (let' rfl rfl)) (r3 _ _ _ (evd_tup (ead_cons (evd_tup (ead_cons (evd_tup (ead_cons (evd_tup (ead_cons (evd_tup (ead_cons (evd_of (Evl.ev_var (i := 12) rfl) fun _ => .str _) (ead_cons (evd_of (Evl.ev_var (i := 13) rfl) fun _ => .int _) ead_nil)) sz2) (ead_cons (evd_of Evl.ev_c fun _ => .int 1) ead_nil)) sz2) ead_nil) sz1)
    (ead_cons (evd_tup (ead_cons (evd_of Evl.ev_c fun _ => .int 1) (ead_cons (evd_of Evl.ev_c fun _ => .int 1) ead_nil)) sz2) ead_nil)) sz2) ead_nil) sz1)) (Evl.rv_eq rfl)) (by simp)) fun _ => ?_
  exact Evl.ev_is (ev_isN (ev_non (evd_callD (K := K) (ds := [letD (.str sn) (.int kk)]) (ead_cons (let' rfl rfl) ead_nil) rfl ⟨_, rfl, fun t ht => by rw [List.mem_singleton.mp ht]; exact ⟨_, _, rfl⟩⟩)) Evl.ev_c) rfl
end
end K00
end

section
set_option Elab.async false
set_option linter.all false
set_option maxRecDepth 100000
set_option exponentiation.threshold 10000
set_option maxHeartbeats 4000000
/-! the law; by an AI agent -/
namespace K00
open PySem PySem.Spec PyProof.Rows L2 RX
open Evl (Ex Ev EvT EvA EvL EvU RV RC)
section
variable {K : PySem.W.Frag} {σ : L2.St} {H : Hp} {tl te : TE} {ds : List PyData} {g : TG} {tb : TS} {D : Ends} {ta : TA} {vs : List Nat}
/-- for x in xs, xs data -/
theorem s_forLD (h : EvD K tl σ H (.list ds)) (Pv : Hp → Nat → L2.St → Hp → Prop) (h0 : ∀ H1, Ex H H1 → Pv H1 0 σ H1) (hd : ∀ H1 i σ' H', Pv H1 i σ' H' → DS K H1 H')
    (hs : ∀ H1 i x d σ' H', Ex H H1 → ds[i]? = some d → Dp K H' x d → Pv H1 i σ' H' → g x σ' H' fun σ2 H2 => tb { D with nx := Pv H1 (i + 1), ct := Pv H1 (i + 1), bk := D.nx } σ2 H2) (he : ∀ H1 σ' H', Ex H H1 → Pv H1 ds.length σ' H' → D.nx σ' H') :
    tFor (iList K tl) g tb D σ H := h H (Ex.refl H) _ fun v H1 e1 hv => by
  obtain ⟨a, xs, rfl, sa, da⟩ := dp_lst hv
  refine ⟨a, rfl, ⟨xs, sa⟩, for_list (Pv H1) (h0 H1 e1) (fun i σ' H' _ p => (hd _ _ _ _ p).l _ _ sa) (fun i x σ' H' hx p => ?_) (fun σ' H' p => he H1 σ' H' e1 (by rw [← dpAll_len da]; exact p))⟩
  obtain ⟨d, g1, g2⟩ := dpAll_getV da hx
  exact hs H1 i x d σ' H' e1 g1 ((hd _ _ _ _ p).dp g2) p
/-- [f(e) for e in range(lo, hi)] -/
theorem evd_lcR2 {j : Nat} {n : Nat} {lo hi : Int} {f : Nat → PyData} (h : EvA ta σ H [.int lo, .int hi]) (eh : hi = lo + n) (hlo : 0 ≤ lo ∧ lo ≤ 1000) (hn : n ≤ 40000) (hk : ∀ i, i < n → keyD (f i) = true) (hw : ∀ x, wipe ((wipe σ vs).set j (some x)) vs = wipe σ vs)
    (he : ∀ (i : Nat) H1, Ex H H1 → i < n → EvD K te ((wipe σ vs).set j (some (.int (lo + (i : Int))))) H1 (f i)) : EvD K (tLc (iRng2 ta) (gName j) tYes te vs) σ H (.list ((List.range n).map f)) := by
  subst eh
  exact fun H0 e Q q => h H0 e _ fun H1 e1 => ⟨lo, lo + n, rfl, ⟨by omega, by omega, by omega, by omega⟩, fun D hD => by
  have kk : keyAllD ((List.range n).map f) = true := keyAll_iff.mpr fun x hx => by
    obtain ⟨i, hi, rfl⟩ := List.mem_map.mp hx
    exact hk i (List.mem_range.mp hi)
  have en : (lo + (n : Int) - lo).toNat = n := by omega
  refine lc_range (lo := lo) (n := (lo + (n : Int) - lo).toNat) (LcD K H1 ((List.range n).map f) D) ⟨hD, Ex.new hD, [], upd_same, .nil⟩ (fun i H' hi p => ?_) (fun H' p => ?_)
  · refine ⟨hw _, iteT (B := LcD K H1 ((List.range n).map f) D (i + 1) H') (he i H' ((e.trans e1).trans p.2.1) (by omega) H' (Ex.refl H') _ fun y H4 e4 hy => ?_)⟩
    refine lcd_turn (i := i) kk (by rw [List.length_map, List.length_range]; exact hn) (by rw [List.getElem?_map, List.getElem?_range (by omega)]; rfl) ?_ hy
    obtain ⟨p1, p2, acc, p3, p4⟩ := p
    exact ⟨p1, p2.trans e4, acc, e4 _ _ p3, dpAll_ex e4 p4⟩
  · obtain ⟨p1, p2, acc, p3, p4⟩ := p
    have : (lo + (n : Int) - lo).toNat = ((List.range n).map f).length := by rw [List.length_map, List.length_range]; omega
    rw [this, List.take_length] at p4
    exact q _ H' (e1.trans p2) (.lst (.inl (.inl p3)) p4)⟩
end
mutual
def shortB : PyData → Bool
  | .str s => decide (s.length ≤ 1000)
  | .list l => decide (l.length ≤ 1000) && shortBs l
  | .tuple l => decide (l.length ≤ 1000) && shortBs l
  | _ => true
def shortBs : List PyData → Bool
  | [] => true
  | d :: r => shortB d && shortBs r
end
mutual
theorem short_of : ∀ {d : PyData}, shortB d = true → shortD d
  | .str s, h => by
    rw [shortB] at h
    rw [shortD]; exact of_decide_eq_true h
  | .list l, h => by
    rw [shortB, Bool.and_eq_true] at h
    rw [shortD]; exact ⟨of_decide_eq_true h.1, shorts_of h.2⟩
  | .tuple l, h => by
    rw [shortB, Bool.and_eq_true] at h
    rw [shortD]; exact ⟨of_decide_eq_true h.1, shorts_of h.2⟩
  | .int i, _ => by simp [shortD]
  | .bool b, _ => by simp [shortD]
  | .none, _ => by simp [shortD]
  | .dict l, _ => by simp [shortD]
theorem shorts_of : ∀ {l : List PyData}, shortBs l = true → shortAll l
  | [], _ => by rw [shortAll]; trivial
  | d :: r, h => by
    rw [shortBs, Bool.and_eq_true] at h
    rw [shortAll]; exact ⟨short_of h.1, shorts_of h.2⟩
end
theorem shorts_mem {l : List PyData} (h : shortBs l = true) {d : PyData} (hd : d ∈ l) : shortD d := (shortAll_iff.mp (shorts_of h)) d hd
section
variable {K : PySem.W.Frag} {σ : L2.St} {H : Hp} {te ta tb : TE} {a b d : PyData}
theorem et_told (h : EvD K te σ H d) (hs : shortD d) : EvT (tNot (tB (tCall (pTold K) [] E0 (tCons te tNil)))) σ H false :=
  Evl.et_not (Evl.et_B (ev_callB (K := K) (ds := [d]) (n := 1) (pre := shorts) (f := fun _ => true) (ead_cons h ead_nil) rfl ⟨hs, trivial⟩))
theorem dI {i : Int} : EvD K (tC (.int i)) σ H (.int i) := evd_of Evl.ev_c fun _ => .int i
theorem dS {s : Str} : EvD K (tC (.str s)) σ H (.str s) := evd_of Evl.ev_c fun _ => .str s
theorem dB {b : Bool} : EvD K (tC (.bl b)) σ H (.bool b) := evd_of Evl.ev_c fun _ => .bl b
theorem dN : EvD K (tC .non) σ H .none := evd_of Evl.ev_c fun _ => .non
theorem d1 (x : EvD K ta σ H a) : EvD K (tTup (tCons ta tNil)) σ H (.tuple [a]) := evd_tup (ead_cons x ead_nil) sz1
theorem d2 (x : EvD K ta σ H a) (y : EvD K tb σ H b) : EvD K (tTup (tCons ta (tCons tb tNil))) σ H (.tuple [a, b]) := evd_tup (ead_cons x (ead_cons y ead_nil)) sz2
theorem d0 : EvD K (tTup tNil) σ H (.tuple []) := evd_tup ead_nil (by decide)
end
def dx (k : Int) : PyData := .tuple [.str "x", .int k]
def one1 : List PyData := [.none, .bool true, .int 0, .int 1, .str "x", .str "", .list [], .tuple [], .tuple [.tuple []], dx 0, .tuple [.str "x", .bool true], dx (-1), .tuple [dx 0, .int 1], .list [.str "x", .int 0]]
def tm (e : Int) : PyData := .tuple [.tuple [.tuple [dx 0, .int e]], .tuple [.int 1, .int 1]]
def greatD : List PyData := (List.range 61).map fun i : Nat => tm (1 + (i : Int))
def one2 : List PyData := [dx 21, dx (10 ^ (30 : Int).toNat), .tuple [.tuple [dx 0, .int 13]], .tuple [.tuple [dx 25, .int (10 ^ (30 : Int).toNat)]], .tuple greatD, .tuple (greatD ++ RX.cutD greatD none (some 1))]
theorem one1_short : shortBs one1 = true := by decide +kernel
theorem one2_short : shortBs one2 = true := by decide +kernel
theorem two_short : shortBs [.tuple [.tuple [.tuple [], .tuple [.int 1, .int 1]], .tuple [.tuple [], .tuple [.int 1, .int 1]]], .tuple [.tuple [.tuple [], .tuple [.int 0, .int 1]]]] = true := by decide +kernel
theorem great_key : ∀ i, i < 61 → keyD (tm (1 + ((i : Nat) : Int))) = true := fun i _ => by simp [tm, dx, keyD, keyAllD]
theorem great_len : greatD.length = 61 := by decide +kernel
theorem shown0 : (PyData.tuple []).shown = ("()" : Str) := by decide +kernel
theorem shownZ : zeroF.shown = ("(0, 1)" : Str) := by decide +kernel
/-- the law -/
def spLaw (K : PySem.W.Frag) : Sp := fun vs H Q _ => ∃ (a : Addr) (ns : List Int), vs = [.ref a] ∧ SqL K H a (ns.map V.int) ∧ ns.length ≤ 63 ∧ ∀ H', Q (.bl true) H'
section
variable {P : Program} {w : World} {K : PySem.W.Frag} {mg : Str → Option Value} {base : Heap}
abbrev s_law : Stmt := topS 46
theorem sc_law : FnScope ["script", "value", "great", "k", "e"] ["script"] (defScope s_law) := ⟨rfl, rfl, rfl, by decide +kernel, rfl, by decide +kernel, by decide +kernel⟩
theorem has_law (T : Txt K mg) (D : DefAt K mg "law" s_law ["script"]) (h_law_told_right : HasQ P w K mg base 5 "_law_told_right" ["value"] (pTold K)) (hnumber : Has P w K mg base 1 "number" ["f"] (pNumber K)) (has_number : Has P w K mg base 1 "as_number" ["p"] (pAsNum K))
    (hletters_of : Has P w K mg base 1 "letters_of" ["p"] (spLetters K)) (h_law_turn_right : HasQ P w K mg base 11 "_law_turn_right" ["m"] (spRight K)) (h_law_begun : Has P w K mg base 1 "_law_begun" ["script", "k"] (spBegun K)) : HasQ P w K mg base 12 "law" ["script"] (spLaw K) := by
  refine mkq D sc_law (fun vs H Q E h => ?_) (fun f cdv A outer s H vs Q E hq hr h => ?_)
  · obtain ⟨a, ns, rfl, _⟩ := h
    rfl
  obtain ⟨a, ns, rfl, hs, h63, fin⟩ := h
  refine ⟨_, (pss_cons (ps_for PassesOwn.never rfl (pi_list (pe_lst (pa_cons pe_non (pa_cons pe_bl (pa_cons pe_int (pa_cons pe_int (pa_cons pe_str (pa_cons pe_str (pa_cons (pe_lst pa_nil) (pa_cons (pe_tup pa_nil) (pa_cons (pe_tup (pa_cons (pe_tup pa_nil) pa_nil)) (pa_cons (pe_tup (pa_cons pe_str (pa_cons pe_int pa_nil))) (pa_cons (pe_tup (pa_cons pe_str (pa_cons pe_bl pa_nil))) (pa_cons (pe_tup (pa_cons pe_str (pa_cons (pe_un un_neg pe_int) pa_nil))) (pa_cons (pe_tup (pa_cons (pe_tup (pa_cons pe_str (pa_cons pe_int pa_nil))) (pa_cons pe_int pa_nil))) (pa_cons (pe_lst (pa_cons pe_str (pa_cons pe_int pa_nil))) pa_nil)))))))))))))))) (pg_name (i := 1) sc_law.nd rfl (Or.inl rfl))
  (pss_one (ps_if (pt_not (pt_val (phq h_law_told_right hq (hr.mono (by decide)) (pa_cons (pv 1) pa_nil))))
  (pss_one (ps_ret pe_bl))
  pss_nil)))
  (pss_cons (ps_if (PW.pt (pw_or (pt_not (pt_val (phq h_law_told_right hq (hr.mono (by decide)) (pa_cons (pe_tup (pa_cons (pe_tup (pa_cons (pe_tup pa_nil) (pa_cons (pe_tup (pa_cons pe_int (pa_cons pe_int pa_nil))) pa_nil))) (pa_cons (pe_tup (pa_cons (pe_tup pa_nil) (pa_cons (pe_tup (pa_cons pe_int (pa_cons pe_int pa_nil))) pa_nil))) pa_nil))) pa_nil)))) (pw_or1 (pt_not (pt_val (phq h_law_told_right hq (hr.mono (by decide)) (pa_cons (pe_tup (pa_cons (pe_tup (pa_cons (pe_tup pa_nil) (pa_cons (pe_tup (pa_cons pe_int (pa_cons pe_int pa_nil))) pa_nil))) pa_nil)) pa_nil)))))))
  (pss_one (ps_ret pe_bl))
  pss_nil)
  (pss_cons (ps_set (i := 2) sc_law.nd rfl (Or.inl rfl) (pe_callTy call_tuple_of (by rfl) T.tuple (by decide +kernel) (pa_cons (pe_lc (own := [("e", 4)]) (g := gName 4) (tt := tYes) rfl sc_law.nd (pi_range2 (by rfl) T.range (pa_cons pe_int (pa_cons pe_int pa_nil))) (blkOk_by (own := [("e", 4)]) (N := ["script", "value", "great", "k", "e"]) (sc := defScope s_law) (by decide +kernel)) (fun _ _ _ _ _ => (pg_name (i := 4) sc_law.nd rfl (Or.inl rfl))) (fun _ _ _ _ _ => pts_nil) (fun _ _ _ _ _ => (pe_tup (pa_cons (pe_tup (pa_cons (pe_tup (pa_cons (pe_tup (pa_cons pe_str (pa_cons pe_int pa_nil))) (pa_cons (pv 4) pa_nil))) pa_nil)) (pa_cons (pe_tup (pa_cons pe_int (pa_cons pe_int pa_nil))) pa_nil))))) pa_nil)))
  (pss_cons (ps_for PassesOwn.never rfl (pi_list (pe_lst (pa_cons (pe_tup (pa_cons pe_str (pa_cons pe_int pa_nil))) (pa_cons (pe_tup (pa_cons pe_str (pa_cons (pe_op op_pow pe_int pe_int) pa_nil))) (pa_cons (pe_tup (pa_cons (pe_tup (pa_cons (pe_tup (pa_cons pe_str (pa_cons pe_int pa_nil))) (pa_cons pe_int pa_nil))) pa_nil)) (pa_cons (pe_tup (pa_cons (pe_tup (pa_cons (pe_tup (pa_cons pe_str (pa_cons pe_int pa_nil))) (pa_cons (pe_op op_pow pe_int pe_int) pa_nil))) pa_nil)) (pa_cons (pv 2) (pa_cons (pe_op op_catA (pv 2) (pe_slice sl_tupA (pv 2) po_none (po_some pe_int))) pa_nil)))))))) (pg_name (i := 1) sc_law.nd rfl (Or.inl rfl))
  (pss_one (ps_if (pt_not (pt_val (phq h_law_told_right hq (hr.mono (by decide)) (pa_cons (pv 1) pa_nil))))
  (pss_one (ps_ret pe_bl))
  pss_nil)))
  (pss_cons (ps_if (PW.pt (pw_or (pt_cmpR op_ne (pe_callB (call_reprV hq (u45 hr)) (by rfl) T.repr (by decide +kernel) (pa_cons (ph hnumber (hr.mono (by decide)) (pa_cons (pe_tup (pa_cons pe_int (pa_cons pe_int pa_nil))) pa_nil)) pa_nil)) pe_str (nomark _)) (pw_or (pt_cmpR op_ne (pe_callB (call_reprV hq (u45 hr)) (by rfl) T.repr (by decide +kernel) (pa_cons (ph has_number (hr.mono (by decide)) (pa_cons (pe_tup pa_nil) pa_nil)) pa_nil)) pe_str (nomark _)) (pw_or1 (pt_cmpR (op_neD (u64 hr)) (ph hletters_of (hr.mono (by decide)) (pa_cons (pe_tup pa_nil) pa_nil)) (pe_tup pa_nil) (nomark _))))))
  (pss_one (ps_ret pe_bl))
  pss_nil)
  (pss_cons (ps_for PassesOwn.never rfl (pi_range1 (by rfl) T.range (pa_cons pe_int pa_nil)) (pg_name (i := 3) sc_law.nd rfl (Or.inl rfl))
  (pss_one (ps_if (pt_not (pt_val (phq h_law_turn_right hq (hr.mono (by decide)) (pa_cons (ph h_law_begun (hr.mono (by decide)) (pa_cons (pv 0) (pa_cons (pv 3) pa_nil))) pa_nil))))
  (pss_one (ps_ret pe_bl))
  pss_nil)))
  (pss_one (ps_ret pe_bl)))))))), ?_⟩
  try dsimp only [cxOf, Cx.nox]
  try dsimp only [tNext, tSeq]
  refine s_forLD (K := K) (ds := one1) (evd_lst (ead_cons dN (ead_cons dB (ead_cons dI (ead_cons dI (ead_cons dS (ead_cons dS (ead_cons (evd_lst ead_nil (by decide)) (ead_cons d0 (ead_cons (d1 d0) (ead_cons (d2 dS dI) (ead_cons (d2 dS dB) (ead_cons (d2 dS (evd_of (ev_neg Evl.ev_c) fun _ => .int (-1))) (ead_cons (d2 (d2 dS dI) dI) (ead_cons (evd_lst (ead_cons dS (ead_cons dI ead_nil)) sz2) ead_nil)))))))))))))) (by decide +kernel))
    (fun H1 i σ' H' => ∃ y, σ' = [some (.ref a), y, none, none, none] ∧ Ex H1 H' ∧ Ex H H') (fun H1 e1 => ⟨none, rfl, Ex.refl H1, e1⟩) (fun H1 i σ' H' h => by obtain ⟨y, _, h, _⟩ := h; exact DS.of h) (fun H1 i x d σ' H' e1 hd hx h => ?_) (fun H1 σ' H' e1 h => ?_)
  · obtain ⟨y, rfl, h1, h2⟩ := h
    dsimp only [gName, List.set]
    refine Evl.s_if (b := false) (et_told (evd_var (i := 1) rfl hx) (shorts_mem one1_short (List.mem_of_getElem? hd))) (fun z => nomatch z) (fun _ H2 e2 => ?_)
    exact ⟨_, rfl, h1.trans e2, h2.trans e2⟩
  obtain ⟨y, rfl, _, E1⟩ := h
  try dsimp only [tNext, tSeq]
  have ts := shorts_of two_short
  rw [shortAll, shortAll] at ts
  refine Evl.s_if (b := false) (Evl.et_is (Evl.et_or (et_told (d2 (d2 d0 (d2 dI dI)) (d2 d0 (d2 dI dI))) ts.1) fun _ => et_told (d1 (d2 d0 (d2 dI dI))) ts.2.1) rfl) (fun z => nomatch z) (fun _ H2 e2 => ?_)
  try dsimp only [tNext, tSeq]
  refine s_asgD (K := K) (d := .tuple greatD) (evd_tupOf (evd_lcR2 (n := 61) (lo := 1) (f := fun i => tm (1 + (i : Int))) (Evl.ea_cons Evl.ev_c (Evl.ea_cons Evl.ev_c Evl.ea_nil)) rfl (by decide) (by decide) great_key (fun x => rfl) (fun i H3 e3 hi => d2 (d1 (d2 (d2 dS dI) (evd_of (Evl.ev_var rfl) fun _ => .int _))) (d2 dI dI)))) fun vg H3 e3 hvg => ?_
  try dsimp only [tNext, tSeq, List.set]
  have c30 : ∀ {σ' : L2.St} {H' : Hp}, EvD K (tOp (rI CPow fun i j => .int (i ^ j.toNat)) (tC (.int 10)) (tC (.int 30))) σ' H' (.int (10 ^ (30 : Int).toNat)) := fun {σ' H'} => evd_of (ev_IC (C := CPow) (g := fun i j => .int (i ^ j.toNat)) Evl.ev_c Evl.ev_c ⟨by decide, by decide, by decide⟩) fun _ => .int _
  refine s_forLD (K := K) (ds := one2) (evd_lst (ead_cons (d2 dS dI) (ead_cons (d2 dS c30) (ead_cons (d1 (d2 (d2 dS dI) dI)) (ead_cons (d1 (d2 (d2 dS dI) c30)) (ead_cons (evd_var (i := 2) rfl hvg) (ead_cons (evd_cat (evd_var (i := 2) rfl hvg) (evd_sl (evd_var (i := 2) rfl hvg) Evl.eo_none (Evl.eo_some Evl.ev_c)) (by rw [great_len]; have := cut_length (ds := greatD) (lo := none) (hi := some 1); rw [great_len] at this; omega)) ead_nil)))))) (by show 6 ≤ 100000; omega))
    (fun H1 i σ' H' => ∃ y, σ' = [some (.ref a), y, some vg, none, none] ∧ Ex H1 H' ∧ Ex H H') (fun H4 e4 => ⟨_, rfl, Ex.refl H4, ((E1.trans e2).trans e3).trans e4⟩) (fun H1 i σ' H' h => by obtain ⟨y, _, h, _⟩ := h; exact DS.of h) (fun H1 i x d σ' H' e1 hd hx h => ?_) (fun H4 σ' H5 e4 h => ?_)
  · obtain ⟨y, rfl, h1, h2⟩ := h
    dsimp only [gName, List.set]
    refine Evl.s_if (b := false) (et_told (evd_var (i := 1) rfl hx) (shorts_mem one2_short (List.mem_of_getElem? hd))) (fun z => nomatch z) (fun _ H2 e2 => ?_)
    exact ⟨_, rfl, h1.trans e2, h2.trans e2⟩
  obtain ⟨y', rfl, _, E5⟩ := h
  try dsimp only [tNext, tSeq]
  have eN : EvD K (tCall (pNumber K) [] E0 (tCons (tTup (tCons (tC (.int 0)) (tCons (tC (.int 1)) tNil))) tNil)) [some (.ref a), y', some vg, none, none] H5 (.tuple []) :=
    evd_is (evd_callD (K := K) (σ := [some (.ref a), y', some vg, none, none]) (H := H5) (n := 1) (pre := fun ds => isFracD (at0 ds) = true) (f := fun ds => numD (at0 ds)) (E := E0) (ds := [zeroF]) (ead_cons (d2 dI dI) ead_nil) rfl (by decide +kernel)) (by rfl)
  have eA : EvD K (tCall (pAsNum K) [] E0 (tCons (tTup tNil) tNil)) [some (.ref a), y', some vg, none, none] H5 (.tuple [.int 0, .int 1]) :=
    evd_is (evd_callD (K := K) (σ := [some (.ref a), y', some vg, none, none]) (H := H5) (n := 1) (pre := fun ds => ∃ ts, at0 ds = .tuple ts ∧ ∀ t ∈ ts, termShape t) (f := fun ds => asNumD (at0 ds)) (E := E0) (ds := [.tuple []]) (ead_cons d0 ead_nil) rfl ⟨[], rfl, fun _ h => nomatch h⟩) (by rfl)
  have eL : EvD K (tCall (spLetters K) [] E0 (tCons (tTup tNil) tNil)) [some (.ref a), y', some vg, none, none] H5 (.tuple []) :=
    evd_letters (ts := []) d0 (by decide) (fun _ h => nomatch h) List.Pairwise.nil fun l => ⟨(fun h => nomatch h), (fun ⟨_, h, _⟩ => nomatch h)⟩
  refine Evl.s_if (b := false) (Evl.et_is (Evl.et_or (Evl.et_test (Evl.ev_op (ev_reprT eN good_nil (by decide) (by decide)) Evl.ev_c (Evl.rv_ne rfl))) fun _ => Evl.et_or (Evl.et_test (Evl.ev_op (ev_reprT eA (good_two (small_int (by decide)) (small_int (by decide))) (by decide +kernel) (by decide +kernel)) Evl.ev_c (Evl.rv_ne rfl))) fun _ => Evl.et_test (ev_neD eL d0 rfl rfl)) ?_) (fun z => nomatch z) (fun _ H6 e6 => ?_)
  · rw [shown0, show (PyData.tuple [.int 0, .int 1]).shown = ("(0, 1)" : Str) from shownZ, eqv_empty]
    simp
  try dsimp only [tNext, tSeq]
  refine Evl.s_forR1 (n := 3) (Evl.ea_cons Evl.ev_c Evl.ea_nil) (by decide) (fun i σ' H' => ∃ y, σ' = [some (.ref a), y', some vg, y, none] ∧ SqL K H' a (ns.map V.int)) (fun H7 e7 => ⟨none, rfl, sq_mono ((E5.trans e6).trans e7) hs⟩) (fun i σ' H7 hi h => ?_) (fun σ' H7 h => ?_)
  · obtain ⟨y, rfl, h⟩ := h
    dsimp only [List.set]
    refine m_ifS (m_not (m_B (m_call1 (m_call2 (Evl.ev_var (i := 0) (v := .ref a) rfl H7 (Ex.refl H7) _ fun H8 e8 => Evl.ev_var (i := 3) (v := .int (i : Int)) rfl H8 (Ex.refl H8) _ fun H9 e9 => ?_)))))
    have h9 := sq_mono (e8.trans e9) h
    refine ⟨a, (i : Int), ns, rfl, h9, h63, by omega, by omega, fun m H10 st e10 => ⟨m, rfl, st, fun H11 b11 => ⟨true, rfl, ?_⟩⟩⟩
    rw [if_neg (by decide)]
    exact ⟨_, rfl, sq_but st.noSeq b11 (sq_mono e10 h9)⟩
  · obtain ⟨y, rfl, h⟩ := h
    dsimp only
    refine Evl.s_ret (v := .bl true) Evl.ev_c fun H8 e8 => ?_
    exact fin H8
end
end K00
end

section
set_option Elab.async false
set_option linter.all false
set_option maxRecDepth 100000
set_option maxHeartbeats 0
/-! the head: what the top leaves; by an AI agent -/
namespace K00Hi
open PySem PySem.Spec PyProof.Rows L2
def top (i : Nat) : Stmt := PySem.Challenge.pw_ratesay_k00_forms_of_polynomials.main.body.getD i (.Pass ⟨0, 0, 0, 0⟩)
def dd (x : Str) (i : Nat) : He.DefD := ⟨(x, none), x, x, defArgs (top i), defBody (top i), defScope (top i), [], []⟩
def fn : List He.DefD := ([dd "is_integer" 7, dd "is_count" 8, dd "is_pair" 9, dd "is_name" 10, dd "is_fraction" 11, dd "is_letter" 13, dd "is_monomial" 14, dd "is_polynomial" 15, dd "number" 16, dd "letter" 17, dd "as_number" 18, dd "letters_of" 19, dd "names_of" 20, dd "_law_begun" 22, dd "_law_draw" 23] : List He.DefD) ++ ([dd "_law_of" 24, dd "_law_gcd" 25, dd "_law_frac" 26, dd "_law_fsum" 27, dd "_law_plus" 28, dd "_law_mono" 29, dd "_law_form" 30, dd "_law_is_int" 31, dd "_law_is_pair" 32, dd "_law_is_frac" 33, dd "_law_is_letter" 34, dd "_law_is_mono" 35, dd "_law_is_poly" 36, dd "_law_name" 37, dd "_law_amount" 38] : List He.DefD) ++ ([dd "_law_fraction" 39, dd "_law_monomial" 40, dd "_law_drawn" 41, dd "_law_odd" 42, dd "_law_spoilt" 43, dd "_law_told_right" 44, dd "_law_turn_right" 45, dd "law" 46] : List He.DefD)
def fa : List He.Fa := ([.glo "is_integer", .glo "is_count", .glo "is_pair", .glo "is_name", .glo "is_fraction", .glo "is_letter", .glo "is_monomial", .glo "is_polynomial", .glo "number", .glo "letter", .glo "as_number", .glo "letters_of", .glo "names_of", .glo "_law_begun", .glo "_law_draw"] : List He.Fa) ++ ([.glo "_law_of", .glo "_law_gcd", .glo "_law_frac", .glo "_law_fsum", .glo "_law_plus", .glo "_law_mono", .glo "_law_form", .glo "_law_is_int", .glo "_law_is_pair", .glo "_law_is_frac", .glo "_law_is_letter", .glo "_law_is_mono", .glo "_law_is_poly", .glo "_law_name", .glo "_law_amount"] : List He.Fa) ++ ([.glo "_law_fraction", .glo "_law_monomial", .glo "_law_drawn", .glo "_law_odd", .glo "_law_spoilt", .glo "_law_told_right", .glo "_law_turn_right", .glo "law", .free "type", .free "len", .free "tuple", .free "int", .free "str", .free "bool", .free "isinstance"] : List He.Fa) ++ ([.free "abs", .free "repr", .free "sorted", .free "list", .free "all", .free "range", .free "enumerate", .str "SMALL" "abcdefghijklmnopqrstuvwxyz", .str "DIGITS" "0123456789", .int "LONGEST_NAME" 8, .glo "ZERO", .glo "ONE"] : List He.Fa)
def ex (K : PySem.W.Frag) : Bool := decide (PySem.W.nsIn K mainGlobals ("gcd" : Str) = some (some (.builtin "math.gcd"))) && (He.tupB K "ZERO" [.int 0, .int 1] && He.tupB K "ONE" [.int 1, .int 1])
abbrev R : PySem.W.OpenRow := PySem.W.OpenLaw.row PySem.Challenge.rw_ratesay_k00_forms_of_polynomials
abbrev hk : PySem.W.Hook := He.hookX 4 fa fn [] [] ex
def ob (s : PySem.W.SharedT) : He.AlX := He.obsX 4 fa fn [] [] ex (HandSHeadRun.getT s)
theorem ob_eq (s : PySem.W.SharedT) : ob s = hk.obs s.abs := He.obsX_eq (HandSHeadRun.getT_eq s)
def loose : List Str := (["ZERO", "ONE", "SMALL", "DIGITS", "LONGEST_NAME", "is_integer", "is_count", "is_pair", "is_name", "is_fraction", "is_letter", "is_monomial", "is_polynomial", "number"] : List Str) ++ (["letter", "as_number", "letters_of", "names_of", "_law_begun", "_law_draw", "_law_of", "_law_gcd", "_law_frac", "_law_fsum", "_law_plus", "_law_mono", "_law_form", "_law_is_int", "_law_is_pair"] : List Str) ++ (["_law_is_frac", "_law_is_letter", "_law_is_mono", "_law_is_poly", "_law_name", "_law_amount", "_law_fraction", "_law_monomial", "_law_drawn", "_law_odd", "_law_spoilt", "_law_told_right", "_law_turn_right"] : List Str)
theorem run (w : World) : HandSHeadRun.RunEqI R (PySem.W.view R.prog [0, 46]) hk ob 8000 loose w := by
  unfold HandSHeadRun.RunEqI
  kernel_rfl
end K00Hi
end

section
set_option Elab.async false
set_option linter.all false
set_option maxRecDepth 100000
set_option maxHeartbeats 4000000
/-! the end of law_k00; by an AI agent -/
namespace K00
open PySem PySem.Spec PyProof.Rows L2 RX
theorem def_at {K : PySem.W.Frag} {mg : Str → Option Value} {x : Str} {i : Nat} {f : Addr} {ps : List Str} (F : ∃ fd, FunD K x x (defArgs (topS i)) (defBody (topS i)) (defScope (topS i)) [] [] f fd) (g : mg x = some (.ref f))
    (hb : ∀ (kV doc pm : Value) (an : Option Addr) (cdv ct : Value) (us : List Value), us.length = ps.length → bindArgs (PySem.W.fnOf x x (defArgs (topS i)) (defBody (topS i)) (defScope (topS i)) .none kV doc pm an cdv ct) ⟨us, []⟩ = pure (ps.zip us)) : DefAt K mg x (topS i) ps := by
  obtain ⟨fd, F⟩ := F
  have b := F.bindsN hb
  obtain ⟨oc, od, dV, kV, doc, pm, an, cdv, ct, osl, e1, e2, e3, e4, _⟩ := F.ex
  have e5 : dV = .none := by
    rcases e4 with ⟨_, h⟩ | ⟨h, _⟩
    · exact h
    · exact absurd rfl h
  subst e5
  exact ⟨f, fd, ⟨⟨oc, od, kV, doc, pm, an, cdv, ct, osl, e1, e2, e3⟩, F.kp⟩, g, b⟩
theorem facts {P : Program} {w : World} {K : PySem.W.Frag} {h : Heap} {mg : Str → Option Value} (X : K.In h) (G : h.Ns mainGlobals mg) (c : He.SaysX K00Hi.fa K00Hi.fn [] [] K00Hi.ex w h K) : ∀ base : Heap, HasQ P w K mg base 12 "law" ["script"] (spLaw K) := by
  intro base
  have cd := c.t.d
  have more := c.more
  have m1 := Bool.and_eq_true_iff.mp (show (decide (PySem.W.nsIn K mainGlobals ("gcd" : Str) = some (some (.builtin "math.gcd"))) && (He.tupB K "ZERO" [.int 0, .int 1] && He.tupB K "ONE" [.int 1, .int 1])) = true from more)
  have m2 := Bool.and_eq_true_iff.mp m1.2
  have d_is_integer : DefAt K mg "is_integer" (topS 7) ["value"] := def_at (cd.def_ 0 rfl) (He.glo_ok X G (cd.fact 0 (f := .glo "is_integer") rfl)) fun _ _ _ _ _ _ us hl => match us, hl with | [_], _ => rfl
  have d_is_count : DefAt K mg "is_count" (topS 8) ["value", "least"] := def_at (cd.def_ 1 rfl) (He.glo_ok X G (cd.fact 1 (f := .glo "is_count") rfl)) fun _ _ _ _ _ _ us hl => match us, hl with | [_, _], _ => rfl
  have d_is_pair : DefAt K mg "is_pair" (topS 9) ["value"] := def_at (cd.def_ 2 rfl) (He.glo_ok X G (cd.fact 2 (f := .glo "is_pair") rfl)) fun _ _ _ _ _ _ us hl => match us, hl with | [_], _ => rfl
  have d_is_name : DefAt K mg "is_name" (topS 10) ["value"] := def_at (cd.def_ 3 rfl) (He.glo_ok X G (cd.fact 3 (f := .glo "is_name") rfl)) fun _ _ _ _ _ _ us hl => match us, hl with | [_], _ => rfl
  have d_is_fraction : DefAt K mg "is_fraction" (topS 11) ["value"] := def_at (cd.def_ 4 rfl) (He.glo_ok X G (cd.fact 4 (f := .glo "is_fraction") rfl)) fun _ _ _ _ _ _ us hl => match us, hl with | [_], _ => rfl
  have d_is_letter : DefAt K mg "is_letter" (topS 13) ["value"] := def_at (cd.def_ 5 rfl) (He.glo_ok X G (cd.fact 5 (f := .glo "is_letter") rfl)) fun _ _ _ _ _ _ us hl => match us, hl with | [_], _ => rfl
  have d_is_monomial : DefAt K mg "is_monomial" (topS 14) ["value"] := def_at (cd.def_ 6 rfl) (He.glo_ok X G (cd.fact 6 (f := .glo "is_monomial") rfl)) fun _ _ _ _ _ _ us hl => match us, hl with | [_], _ => rfl
  have d_is_polynomial : DefAt K mg "is_polynomial" (topS 15) ["value"] := def_at (cd.def_ 7 rfl) (He.glo_ok X G (cd.fact 7 (f := .glo "is_polynomial") rfl)) fun _ _ _ _ _ _ us hl => match us, hl with | [_], _ => rfl
  have d_number : DefAt K mg "number" (topS 16) ["f"] := def_at (cd.def_ 8 rfl) (He.glo_ok X G (cd.fact 8 (f := .glo "number") rfl)) fun _ _ _ _ _ _ us hl => match us, hl with | [_], _ => rfl
  have d_letter : DefAt K mg "letter" (topS 17) ["name", "k"] := def_at (cd.def_ 9 rfl) (He.glo_ok X G (cd.fact 9 (f := .glo "letter") rfl)) fun _ _ _ _ _ _ us hl => match us, hl with | [_, _], _ => rfl
  have d_as_number : DefAt K mg "as_number" (topS 18) ["p"] := def_at (cd.def_ 10 rfl) (He.glo_ok X G (cd.fact 10 (f := .glo "as_number") rfl)) fun _ _ _ _ _ _ us hl => match us, hl with | [_], _ => rfl
  have d_letters_of : DefAt K mg "letters_of" (topS 19) ["p"] := def_at (cd.def_ 11 rfl) (He.glo_ok X G (cd.fact 11 (f := .glo "letters_of") rfl)) fun _ _ _ _ _ _ us hl => match us, hl with | [_], _ => rfl
  have d_names_of : DefAt K mg "names_of" (topS 20) ["p"] := def_at (cd.def_ 12 rfl) (He.glo_ok X G (cd.fact 12 (f := .glo "names_of") rfl)) fun _ _ _ _ _ _ us hl => match us, hl with | [_], _ => rfl
  have d__law_begun : DefAt K mg "_law_begun" (topS 22) ["script", "k"] := def_at (cd.def_ 13 rfl) (He.glo_ok X G (cd.fact 13 (f := .glo "_law_begun") rfl)) fun _ _ _ _ _ _ us hl => match us, hl with | [_, _], _ => rfl
  have d__law_draw : DefAt K mg "_law_draw" (topS 23) ["m", "below"] := def_at (cd.def_ 14 rfl) (He.glo_ok X G (cd.fact 14 (f := .glo "_law_draw") rfl)) fun _ _ _ _ _ _ us hl => match us, hl with | [_, _], _ => rfl
  have d__law_of : DefAt K mg "_law_of" (topS 24) ["m", "some"] := def_at (cd.def_ 15 rfl) (He.glo_ok X G (cd.fact 15 (f := .glo "_law_of") rfl)) fun _ _ _ _ _ _ us hl => match us, hl with | [_, _], _ => rfl
  have d__law_gcd : DefAt K mg "_law_gcd" (topS 25) ["a", "b"] := def_at (cd.def_ 16 rfl) (He.glo_ok X G (cd.fact 16 (f := .glo "_law_gcd") rfl)) fun _ _ _ _ _ _ us hl => match us, hl with | [_, _], _ => rfl
  have d__law_frac : DefAt K mg "_law_frac" (topS 26) ["n", "d"] := def_at (cd.def_ 17 rfl) (He.glo_ok X G (cd.fact 17 (f := .glo "_law_frac") rfl)) fun _ _ _ _ _ _ us hl => match us, hl with | [_, _], _ => rfl
  have d__law_fsum : DefAt K mg "_law_fsum" (topS 27) ["x", "y"] := def_at (cd.def_ 18 rfl) (He.glo_ok X G (cd.fact 18 (f := .glo "_law_fsum") rfl)) fun _ _ _ _ _ _ us hl => match us, hl with | [_, _], _ => rfl
  have d__law_plus : DefAt K mg "_law_plus" (topS 28) ["p", "q"] := def_at (cd.def_ 19 rfl) (He.glo_ok X G (cd.fact 19 (f := .glo "_law_plus") rfl)) fun _ _ _ _ _ _ us hl => match us, hl with | [_, _], _ => rfl
  have d__law_mono : DefAt K mg "_law_mono" (topS 29) ["a", "b"] := def_at (cd.def_ 20 rfl) (He.glo_ok X G (cd.fact 20 (f := .glo "_law_mono") rfl)) fun _ _ _ _ _ _ us hl => match us, hl with | [_, _], _ => rfl
  have d__law_form : DefAt K mg "_law_form" (topS 30) ["p"] := def_at (cd.def_ 21 rfl) (He.glo_ok X G (cd.fact 21 (f := .glo "_law_form") rfl)) fun _ _ _ _ _ _ us hl => match us, hl with | [_], _ => rfl
  have d__law_is_int : DefAt K mg "_law_is_int" (topS 31) ["value"] := def_at (cd.def_ 22 rfl) (He.glo_ok X G (cd.fact 22 (f := .glo "_law_is_int") rfl)) fun _ _ _ _ _ _ us hl => match us, hl with | [_], _ => rfl
  have d__law_is_pair : DefAt K mg "_law_is_pair" (topS 32) ["value"] := def_at (cd.def_ 23 rfl) (He.glo_ok X G (cd.fact 23 (f := .glo "_law_is_pair") rfl)) fun _ _ _ _ _ _ us hl => match us, hl with | [_], _ => rfl
  have d__law_is_frac : DefAt K mg "_law_is_frac" (topS 33) ["value"] := def_at (cd.def_ 24 rfl) (He.glo_ok X G (cd.fact 24 (f := .glo "_law_is_frac") rfl)) fun _ _ _ _ _ _ us hl => match us, hl with | [_], _ => rfl
  have d__law_is_letter : DefAt K mg "_law_is_letter" (topS 34) ["value"] := def_at (cd.def_ 25 rfl) (He.glo_ok X G (cd.fact 25 (f := .glo "_law_is_letter") rfl)) fun _ _ _ _ _ _ us hl => match us, hl with | [_], _ => rfl
  have d__law_is_mono : DefAt K mg "_law_is_mono" (topS 35) ["value"] := def_at (cd.def_ 26 rfl) (He.glo_ok X G (cd.fact 26 (f := .glo "_law_is_mono") rfl)) fun _ _ _ _ _ _ us hl => match us, hl with | [_], _ => rfl
  have d__law_is_poly : DefAt K mg "_law_is_poly" (topS 36) ["value"] := def_at (cd.def_ 27 rfl) (He.glo_ok X G (cd.fact 27 (f := .glo "_law_is_poly") rfl)) fun _ _ _ _ _ _ us hl => match us, hl with | [_], _ => rfl
  have d__law_name : DefAt K mg "_law_name" (topS 37) ["m"] := def_at (cd.def_ 28 rfl) (He.glo_ok X G (cd.fact 28 (f := .glo "_law_name") rfl)) fun _ _ _ _ _ _ us hl => match us, hl with | [_], _ => rfl
  have d__law_amount : DefAt K mg "_law_amount" (topS 38) ["m"] := def_at (cd.def_ 29 rfl) (He.glo_ok X G (cd.fact 29 (f := .glo "_law_amount") rfl)) fun _ _ _ _ _ _ us hl => match us, hl with | [_], _ => rfl
  have d__law_fraction : DefAt K mg "_law_fraction" (topS 39) ["m"] := def_at (cd.def_ 30 rfl) (He.glo_ok X G (cd.fact 30 (f := .glo "_law_fraction") rfl)) fun _ _ _ _ _ _ us hl => match us, hl with | [_], _ => rfl
  have d__law_monomial : DefAt K mg "_law_monomial" (topS 40) ["m", "names"] := def_at (cd.def_ 31 rfl) (He.glo_ok X G (cd.fact 31 (f := .glo "_law_monomial") rfl)) fun _ _ _ _ _ _ us hl => match us, hl with | [_, _], _ => rfl
  have d__law_drawn : DefAt K mg "_law_drawn" (topS 41) ["m"] := def_at (cd.def_ 32 rfl) (He.glo_ok X G (cd.fact 32 (f := .glo "_law_drawn") rfl)) fun _ _ _ _ _ _ us hl => match us, hl with | [_], _ => rfl
  have d__law_odd : DefAt K mg "_law_odd" (topS 42) ["m", "part"] := def_at (cd.def_ 33 rfl) (He.glo_ok X G (cd.fact 33 (f := .glo "_law_odd") rfl)) fun _ _ _ _ _ _ us hl => match us, hl with | [_, _], _ => rfl
  have d__law_spoilt : DefAt K mg "_law_spoilt" (topS 43) ["m", "value", "room"] := def_at (cd.def_ 34 rfl) (He.glo_ok X G (cd.fact 34 (f := .glo "_law_spoilt") rfl)) fun _ _ _ _ _ _ us hl => match us, hl with | [_, _, _], _ => rfl
  have d__law_told_right : DefAt K mg "_law_told_right" (topS 44) ["value"] := def_at (cd.def_ 35 rfl) (He.glo_ok X G (cd.fact 35 (f := .glo "_law_told_right") rfl)) fun _ _ _ _ _ _ us hl => match us, hl with | [_], _ => rfl
  have d__law_turn_right : DefAt K mg "_law_turn_right" (topS 45) ["m"] := def_at (cd.def_ 36 rfl) (He.glo_ok X G (cd.fact 36 (f := .glo "_law_turn_right") rfl)) fun _ _ _ _ _ _ us hl => match us, hl with | [_], _ => rfl
  have d_law : DefAt K mg "law" (topS 46) ["script"] := def_at (cd.def_ 37 rfl) (He.glo_ok X G (cd.fact 37 (f := .glo "law") rfl)) fun _ _ _ _ _ _ us hl => match us, hl with | [_], _ => rfl
  have f_type := He.free_ok X G (cd.fact 38 (f := .free "type") rfl)
  have f_len := He.free_ok X G (cd.fact 39 (f := .free "len") rfl)
  have f_tuple := He.free_ok X G (cd.fact 40 (f := .free "tuple") rfl)
  have f_int := He.free_ok X G (cd.fact 41 (f := .free "int") rfl)
  have f_str := He.free_ok X G (cd.fact 42 (f := .free "str") rfl)
  have f_bool := He.free_ok X G (cd.fact 43 (f := .free "bool") rfl)
  have f_isinstance := He.free_ok X G (cd.fact 44 (f := .free "isinstance") rfl)
  have f_abs := He.free_ok X G (cd.fact 45 (f := .free "abs") rfl)
  have f_repr := He.free_ok X G (cd.fact 46 (f := .free "repr") rfl)
  have f_sorted := He.free_ok X G (cd.fact 47 (f := .free "sorted") rfl)
  have f_list := He.free_ok X G (cd.fact 48 (f := .free "list") rfl)
  have f_all := He.free_ok X G (cd.fact 49 (f := .free "all") rfl)
  have f_range := He.free_ok X G (cd.fact 50 (f := .free "range") rfl)
  have f_enumerate := He.free_ok X G (cd.fact 51 (f := .free "enumerate") rfl)
  have c_SMALL := He.str_ok X G (cd.fact 52 (f := .str "SMALL" "abcdefghijklmnopqrstuvwxyz") rfl)
  have c_DIGITS := He.str_ok X G (cd.fact 53 (f := .str "DIGITS" "0123456789") rfl)
  have c_LONG := He.int_ok X G (cd.fact 54 (f := .int "LONGEST_NAME" 8) rfl)
  have c_ZERO := He.glo_ok X G (cd.fact 55 (f := .glo "ZERO") rfl)
  have c_ONE := He.glo_ok X G (cd.fact 56 (f := .glo "ONE") rfl)
  have T : Txt K mg := {
    type := f_type, len := f_len, tuple := f_tuple, int := f_int, str := f_str, bool := f_bool, isinstance := f_isinstance, abs := f_abs, repr := f_repr, sorted := f_sorted, list := f_list, all := f_all, range := f_range, enumerate := f_enumerate,
    mgcd := PySem.W.mg_of X G (of_decide_eq_true m1.1),
    SMALL := by obtain ⟨t, e⟩ := c_SMALL; exact ⟨_, e, t, rfl⟩,
    DIGITS := by obtain ⟨t, e⟩ := c_DIGITS; exact ⟨_, e, t, rfl⟩,
    LONGEST_NAME := by obtain ⟨t, e⟩ := c_LONG; exact ⟨_, e, t, rfl⟩,
    zero := ⟨_, c_ZERO, fun H => He.tupB_ok m2.1 H⟩,
    one := ⟨_, c_ONE, fun H => He.tupB_ok m2.2 H⟩ }
  have r_is_integer := has_is_integer (P := P) (w := w) (K := K) (mg := mg) (base := base) T d_is_integer 
  have r_is_count := has_is_count (P := P) (w := w) (K := K) (mg := mg) (base := base) T d_is_count 
  have r_is_pair := has_is_pair (P := P) (w := w) (K := K) (mg := mg) (base := base) T d_is_pair 
  have r_is_name := has_is_name (P := P) (w := w) (K := K) (mg := mg) (base := base) T d_is_name 
  have r_is_fraction := has_is_fraction (P := P) (w := w) (K := K) (mg := mg) (base := base) T d_is_fraction r_is_pair r_is_integer r_is_count
  have r_is_letter := has_is_letter (P := P) (w := w) (K := K) (mg := mg) (base := base) T d_is_letter r_is_pair r_is_name r_is_count
  have r_is_monomial := has_is_monomial (P := P) (w := w) (K := K) (mg := mg) (base := base) T d_is_monomial r_is_pair r_is_letter r_is_count
  have r_is_polynomial := has_is_polynomial (P := P) (w := w) (K := K) (mg := mg) (base := base) T d_is_polynomial r_is_pair r_is_monomial r_is_fraction
  have r__law_gcd := has_law_gcd (P := P) (w := w) (K := K) (mg := mg) (base := base) T d__law_gcd 
  have r__law_is_int := has_law_is_int (P := P) (w := w) (K := K) (mg := mg) (base := base) T d__law_is_int 
  have r__law_is_pair := has_law_is_pair (P := P) (w := w) (K := K) (mg := mg) (base := base) T d__law_is_pair 
  have r__law_is_frac := has_law_is_frac (P := P) (w := w) (K := K) (mg := mg) (base := base) T d__law_is_frac r__law_is_pair r__law_is_int r__law_gcd
  have r__law_is_letter := has_law_is_letter (P := P) (w := w) (K := K) (mg := mg) (base := base) T d__law_is_letter r__law_is_pair r__law_is_int
  have r__law_is_mono := has_law_is_mono (P := P) (w := w) (K := K) (mg := mg) (base := base) T d__law_is_mono r__law_is_pair r__law_is_int r__law_is_letter
  have r__law_is_poly := has_law_is_poly (P := P) (w := w) (K := K) (mg := mg) (base := base) T d__law_is_poly r__law_is_pair r__law_is_mono r__law_is_frac
  have r__law_told_right := has_law_told_right (P := P) (w := w) (K := K) (mg := mg) (base := base) T d__law_told_right r__law_is_letter r__law_is_mono r__law_is_poly r_is_letter r_is_monomial r_is_polynomial
  have r__law_draw := has_law_draw (P := P) (w := w) (K := K) (mg := mg) (base := base) T d__law_draw 
  have r__law_begun := has_law_begun (P := P) (w := w) (K := K) (mg := mg) (base := base) T d__law_begun 
  have r__law_of := has_law_of (P := P) (w := w) (K := K) (mg := mg) (base := base) T d__law_of r__law_draw
  have r__law_frac := has_law_frac (P := P) (w := w) (K := K) (mg := mg) (base := base) T d__law_frac r__law_gcd
  have r__law_fsum := has_law_fsum (P := P) (w := w) (K := K) (mg := mg) (base := base) T d__law_fsum r__law_frac
  have r__law_plus := has_law_plus (P := P) (w := w) (K := K) (mg := mg) (base := base) T d__law_plus r__law_fsum
  have r__law_mono := has_law_mono (P := P) (w := w) (K := K) (mg := mg) (base := base) T d__law_mono 
  have r__law_form := has_law_form (P := P) (w := w) (K := K) (mg := mg) (base := base) T d__law_form 
  have r__law_name := has_law_name (P := P) (w := w) (K := K) (mg := mg) (base := base) T d__law_name r__law_draw
  have r__law_amount := has_law_amount (P := P) (w := w) (K := K) (mg := mg) (base := base) T d__law_amount r__law_draw
  have r__law_fraction := has_law_fraction (P := P) (w := w) (K := K) (mg := mg) (base := base) T d__law_fraction r__law_draw r__law_amount r__law_frac
  have r__law_monomial := has_law_monomial (P := P) (w := w) (K := K) (mg := mg) (base := base) T d__law_monomial r__law_draw r__law_of r__law_mono
  have r__law_drawn := has_law_drawn (P := P) (w := w) (K := K) (mg := mg) (base := base) T d__law_drawn r__law_draw r__law_name r__law_plus r__law_monomial r__law_fraction
  have r_number := has_number (P := P) (w := w) (K := K) (mg := mg) (base := base) T d_number 
  have r_letter := has_letter (P := P) (w := w) (K := K) (mg := mg) (base := base) T d_letter 
  have r_as_number := has_as_number (P := P) (w := w) (K := K) (mg := mg) (base := base) T d_as_number 
  have r_letters_of := has_letters_of (P := P) (w := w) (K := K) (mg := mg) (base := base) T d_letters_of 
  have r_names_of := has_names_of (P := P) (w := w) (K := K) (mg := mg) (base := base) T d_names_of 
  have r__law_odd := has_law_odd (P := P) (w := w) (K := K) (mg := mg) (base := base) T d__law_odd r__law_draw r__law_of
  have r__law_spoilt := has_law_spoilt (P := P) (w := w) (K := K) (mg := mg) (base := base) T d__law_spoilt r__law_draw r__law_odd 6
  have r__law_turn_right := has_law_turn_right (P := P) (w := w) (K := K) (mg := mg) (base := base) T d__law_turn_right r__law_drawn r__law_form r__law_told_right r__law_is_poly r__law_draw r__law_spoilt r_letters_of r_names_of r_as_number r_number r_letter r__law_fraction r__law_name
  have r_law := has_law (P := P) (w := w) (K := K) (mg := mg) (base := base) T d_law r__law_told_right r_number r_as_number r_letters_of r__law_turn_right r__law_begun
  exact r_law
end K00
end

section
open PySem PySem.W PySem.Calls PyProof.Rows
set_option Elab.async false
set_option linter.all false
set_option maxRecDepth 100000
set_option maxHeartbeats 0
theorem PySem.Challenge.cw_ratesay_k00_forms_of_polynomials_holds : PySem.Challenge.rw_ratesay_k00_forms_of_polynomials.Holds := by
  w_on; o_law
  refine HandSHeadRun.head_imp (r := OpenLaw.row PySem.Challenge.rw_ratesay_k00_forms_of_polynomials) (q := view (OpenLaw.row PySem.Challenge.rw_ratesay_k00_forms_of_polynomials).prog [0, 46]) (H := K00Hi.hk) (ob := K00Hi.ob) (M := 8000) (loose := K00Hi.loose) (d := HandSHeadRun.topDef (OpenLaw.row PySem.Challenge.rw_ratesay_k00_forms_of_polynomials).prog 46) (kwd := []) K00Hi.ob_eq
    K00Hi.run (by kernel_rfl) (by kernel_rfl) (by kernel_rfl) (by rfl) (by first | assumption | decide +kernel) (by decide +kernel) ⟨rfl, rfl, rfl, rfl, rfl, by decide +kernel⟩ ?hw ?hc
  case hw => w_witness2
  case hc =>
    refine Att.attach_call (l := PySem.Challenge.rw_ratesay_k00_forms_of_polynomials) (n := 63) rfl (by kernel_rfl) fun w s₀ s₁ mg mb fa o pm cd doc a vs ns G Y ho hd hcd hmg hobj hints hlen hg => ?_
    obtain ⟨K, KX, c⟩ := Y
    have here : mg ("law" : PySem.Str) = some (.ref fa) := by
      have e : (HandSHeadRun.topDef (OpenLaw.row PySem.Challenge.rw_ratesay_k00_forms_of_polynomials).prog 46).name = ("law" : PySem.Str) := by kernel_rfl
      rw [← e]
      exact hmg
    exact RX.call_quiet (P := (PySem.Challenge.rw_ratesay_k00_forms_of_polynomials).prog) (w := w) (k := 12) (x := "script") (y0 := "law") (sp := K00.spLaw K) KX G.T.g G.T.b G.T.builtins G.T.nolimit hg hobj hints (Nat.le_trans hlen (by decide)) ⟨rfl, by decide, by decide⟩ here (fun base _ _ => K00.facts KX G.T.g c base) fun H _ hS => ⟨a, ns, rfl, hS, hlen, fun _ => rfl⟩
end
