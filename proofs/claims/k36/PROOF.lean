import PyProof.Rows.All
import Wide.All
import OpenK.AllK
import Wide.FinOn
import HandS.ForMost
import HandS.Wide
import HandS.Deep
import HandS.More
import HandS.Conv
import KE.GoesMore
import HandS.Walk
import PyProof.P3In
import HandS.IsInst
import HandS.StrMore
import HandS.Zip
import KE.KDictKeyed
import HandS.TupLen
import HandS.TupSets
import KE.SortCalls
import KE.DataCmp
import HandS.NoneIn
import HandS.Star
import HandS.Codes
import HandS.CallLocal
import HandS.Nested
import HandS.EndTab
import PySem.Challenge.RW_relatedrights_k36_whole_trees_asked
set_option Elab.async false
set_option linter.all false
set_option maxRecDepth 100000
set_option maxHeartbeats 4000000
/-! What a law draws: the source of numbers, data that never change, forms, parts, rules. -/
namespace Gen
open PySem PySem.Spec PyProof.Rows L2
/-! ### the source -/
/-- the source at p, with at most n mixed numbers drawn -/
def Src (H : Hp) (p : Addr) (n : Nat) : Prop := ∃ x y z : Int, H p = some (.lst [.int x, .int y, .int z]) ∧ 0 ≤ z ∧ z ≤ (n : Int)
/-- what was there is there still, but for the object at p -/
def But (p : Addr) (H H' : Hp) : Prop := ∀ b o, b ≠ p → H b = some o → H' b = some o
theorem But.refl (p : Addr) (H : Hp) : But p H H := fun _ _ _ h => h
theorem But.trans {p : Addr} {H H1 H2 : Hp} (a : But p H H1) (b : But p H1 H2) : But p H H2 := fun c o n h => b c o n (a c o n h)
theorem But.of {p : Addr} {H H' : Hp} (s : Same H H') : But p H H' := fun b o _ h => s b o h
theorem But.upd {p : Addr} {H : Hp} {o : HO} : But p H (upd H p o) := fun b x n h => by
  rw [upd_ne n]
  exact h
theorem But.new {p a : Addr} {H : Hp} {o : HO} (h : H a = none) : But p H (L2.upd H a o) := fun b x n e => by
  rw [upd_ne (ne_of_none e h)]
  exact e
theorem Src.le {H : Hp} {p : Addr} {n m : Nat} (h : Src H p n) (l : n ≤ m) : Src H p m := by
  obtain ⟨x, y, z, e, h0, h1⟩ := h
  exact ⟨x, y, z, e, h0, by omega⟩
theorem Src.same {H H' : Hp} {p : Addr} {n : Nat} (h : Src H p n) (s : Same H H') : Src H' p n := by
  obtain ⟨x, y, z, e, h0⟩ := h
  exact ⟨x, y, z, s _ _ e, h0⟩
theorem Src.new {H : Hp} {p a : Addr} {n : Nat} {o : HO} (h : Src H p n) (e : H a = none) : Src (L2.upd H a o) p n := by
  obtain ⟨x, y, z, e', h0⟩ := h
  exact ⟨x, y, z, by rw [upd_ne (ne_of_none e' e)]; exact e', h0⟩
theorem Src.ne {H : Hp} {p a : Addr} {n : Nat} (h : Src H p n) (e : H a = none) : p ≠ a := by
  obtain ⟨x, y, z, e', _⟩ := h
  exact ne_of_none e' e
theorem same_new {H : Hp} {a : Addr} {o : HO} (h : H a = none) : Same H (upd H a o) := fun b x e => by
  rw [upd_ne (ne_of_none e h)]
  exact e
theorem But.seq {K : PySem.W.Frag} {p a : Addr} {H H' : Hp} {xs : List V} (s : But p H H') (h : SqL K H a xs) (ne : a ≠ p) : SqL K H' a xs := by
  rcases h with (h | ⟨o, h⟩) | h
  · exact .inl (.inl (s _ _ ne h))
  · exact .inl (.inr ⟨o, s _ _ ne h⟩)
  · exact .inr h
/-! ### data that never change -/
mutual
inductive DT (H : Hp) : V → PyData → Prop
  | non : DT H .non .none
  | bl (b : Bool) : DT H (.bl b) (.bool b)
  | int (i : Int) : DT H (.int i) (.int i)
  | str (x : Str) : DT H (.str x) (.str x)
  | tup {a : Addr} {xs : List V} {ds : List PyData} : H a = some (.tup xs) → DTs H xs ds → DT H (.ref a) (.tuple ds)
inductive DTs (H : Hp) : List V → List PyData → Prop
  | nil : DTs H [] []
  | cons {v : V} {vs : List V} {d : PyData} {ds : List PyData} : DT H v d → DTs H vs ds → DTs H (v :: vs) (d :: ds)
end
/-- the tuples are kept -/
def Tups (H H' : Hp) : Prop := ∀ a xs, H a = some (.tup xs) → H' a = some (.tup xs)
mutual
theorem DT.keep {H H' : Hp} (s : Tups H H') : ∀ {v : V} {d : PyData}, DT H v d → DT H' v d
  | _, _, .non => .non
  | _, _, .bl b => .bl b
  | _, _, .int i => .int i
  | _, _, .str x => .str x
  | _, _, .tup h t => .tup (s _ _ h) (DTs.keep s t)
theorem DTs.keep {H H' : Hp} (s : Tups H H') : ∀ {vs : List V} {ds : List PyData}, DTs H vs ds → DTs H' vs ds
  | _, _, .nil => .nil
  | _, _, .cons h t => .cons (DT.keep s h) (DTs.keep s t)
end
theorem Same.tups {H H' : Hp} (s : Same H H') : Tups H H' := fun a xs h => s _ _ h
theorem But.tups {p : Addr} {H H' : Hp} {n : Nat} (s : But p H H') (r : Src H p n) : Tups H H' := fun a xs h => s _ _ (fun e => by
  obtain ⟨x, y, z, e', _⟩ := r
  rw [e, e'] at h
  cases h) h
theorem new_tups {H : Hp} {a : Addr} {o : HO} (h : H a = none) : Tups H (upd H a o) := Same.tups (same_new h)
mutual
theorem DT.dp {K : PySem.W.Frag} {H : Hp} : ∀ {v : V} {d : PyData}, DT H v d → Dp K H v d
  | _, _, .non => .non
  | _, _, .bl b => .bl b
  | _, _, .int i => .int i
  | _, _, .str x => .str x
  | _, _, .tup h t => .tup (SqT.of h) (DTs.dp t)
theorem DTs.dp {K : PySem.W.Frag} {H : Hp} : ∀ {vs : List V} {ds : List PyData}, DTs H vs ds → DpAll K H vs ds
  | _, _, .nil => .nil
  | _, _, .cons h t => .cons (DT.dp h) (DTs.dp t)
end
theorem DTs.length {H : Hp} : ∀ {vs : List V} {ds : List PyData}, DTs H vs ds → vs.length = ds.length
  | _, _, .nil => rfl
  | _, _, .cons _ t => congrArg Nat.succ (DTs.length t)
theorem DTs.append {H : Hp} : ∀ {vs ws : List V} {ds es : List PyData}, DTs H vs ds → DTs H ws es → DTs H (vs ++ ws) (ds ++ es)
  | _, _, _, _, .nil, g => g
  | _, _, _, _, .cons h t, g => .cons h (DTs.append t g)
theorem DTs.one {H : Hp} {v : V} {d : PyData} (h : DT H v d) : DTs H [v] [d] := .cons h .nil
theorem DTs.strs {H : Hp} : ∀ ls : List Str, DTs H (ls.map V.str) (ls.map PyData.str)
  | [] => .nil
  | x :: ls => .cons (.str x) (DTs.strs ls)
/-- a tuple just laid -/
theorem DT.laid {H : Hp} {a : Addr} {xs : List V} {ds : List PyData} (h : H a = none) (t : DTs H xs ds) : DT (upd H a (.tup xs)) (.ref a) (.tuple ds) := .tup upd_same (t.keep (new_tups h))
/-! ### titles, forms, leaves, parts, rules -/
def titles : List (Str × Int) := [("see", 0), ("own", 0), ("edit", 1), ("ban", 2)]
/-- the names of the titles up to a level -/
def upto (lv : Int) : List Str := (titles.filter fun t => decide (t.2 ≤ lv)).map (·.1)
def Title (r : Str) (lv : Int) : Prop := ∃ l, (r, l) ∈ titles ∧ l ≤ lv
theorem upto_title {r : Str} {lv : Int} (h : r ∈ upto lv) : Title r lv := by
  unfold upto at h
  obtain ⟨t, ht, rfl⟩ := List.mem_map.mp h
  obtain ⟨h1, h2⟩ := List.mem_filter.mp ht
  exact ⟨t.2, h1, of_decide_eq_true h2⟩
theorem upto_ne {lv : Int} (h : 0 ≤ lv) : upto lv ≠ [] := by
  unfold upto titles
  rw [List.filter_cons, if_pos (by simpa using h)]
  simp
theorem upto_len (lv : Int) : (upto lv).length ≤ 4 := by
  unfold upto
  rw [List.length_map]
  exact List.length_filter_le _ _
theorem Title.up {r : Str} {a b : Int} (h : Title r a) (l : a ≤ b) : Title r b := by
  obtain ⟨x, h1, h2⟩ := h
  exact ⟨x, h1, by omega⟩
inductive IsForm (ks : List Str) (lv : Int) : PyData → Prop
  | one {k : Str} : k = "user" ∨ k = "bot" → IsForm ks lv (.tuple [.str "one", .str k])
  | all {k : Str} : k = "user" ∨ k = "bot" → IsForm ks lv (.tuple [.str "all", .str k])
  | who {k r : Str} : k ∈ ks → Title r lv → IsForm ks lv (.tuple [.str "who", .str k, .str r])
inductive IsLeaf (ls : List Str) (lv : Int) : PyData → Prop
  | same {r : Str} : Title r lv → IsLeaf ls lv (.tuple [.str "same", .str r])
  | through {l r : Str} : l ∈ ls → Title r lv → IsLeaf ls lv (.tuple [.str "through", .str l, .str r])
inductive IsPart (ls : List Str) : Int → Nat → PyData → Prop
  | leaf {lv : Int} {m : Nat} {d : PyData} : IsLeaf ls lv d → IsPart ls lv (m + 1) d
  | many {lv : Int} {m : Nat} {w : Str} {ps : List PyData} : (w = "either" ∨ w = "both") → 2 ≤ ps.length → ps.length ≤ 4 → (∀ p ∈ ps, IsPart ls lv m p) → IsPart ls lv (m + 1) (.tuple [.str w, .tuple ps])
  | but {lv : Int} {m : Nat} {a b : PyData} : 0 < lv → IsPart ls lv m a → IsPart ls (lv - 1) m b → IsPart ls lv (m + 1) (.tuple [.str "but", a, b])
  | up {lv : Int} {m : Nat} {d : PyData} : IsPart ls lv m d → IsPart ls lv (m + 1) d
/-- a direct part: one to three different forms -/
def IsDirect (ks : List Str) (lv : Int) (d : PyData) : Prop := ∃ fs : List PyData, d = .tuple [.str "direct", .tuple fs] ∧ 1 ≤ fs.length ∧ fs.length ≤ 3 ∧ fs.Nodup ∧ ∀ f ∈ fs, IsForm ks lv f
inductive IsRule (ks ls : List Str) (lv : Int) : PyData → Prop
  | direct {d : PyData} : IsDirect ks lv d → IsRule ks ls lv d
  | part {d : PyData} : IsPart ls lv 3 d → IsRule ks ls lv d
  | but1 {a b : PyData} : 0 < lv → IsDirect ks lv a → IsPart ls (lv - 1) 2 b → IsRule ks ls lv (.tuple [.str "but", a, b])
  | but2 {a b c : PyData} : 0 < lv → IsDirect ks lv a → IsPart ls lv 3 b → IsPart ls (lv - 1) 2 c → IsRule ks ls lv (.tuple [.str "but", .tuple [.str "either", .tuple [a, b]], c])
  | two {w : Str} {a b : PyData} : (w = "either" ∨ w = "both") → (IsDirect ks lv a ∧ IsPart ls lv 3 b ∨ IsPart ls lv 3 a ∧ IsDirect ks lv b) → IsRule ks ls lv (.tuple [.str w, .tuple [a, b]])
theorem n1 : (("one" : Str) == ("all" : Str)) = false := by decide
theorem n2 : (("one" : Str) == ("who" : Str)) = false := by decide
theorem n3 : (("all" : Str) == ("one" : Str)) = false := by decide
theorem n4 : (("all" : Str) == ("who" : Str)) = false := by decide
theorem n5 : (("who" : Str) == ("one" : Str)) = false := by decide
theorem n6 : (("who" : Str) == ("all" : Str)) = false := by decide
theorem m1 : ¬ ("one" : Str) = ("all" : Str) := by decide
theorem m2 : ¬ ("one" : Str) = ("who" : Str) := by decide
theorem m3 : ¬ ("all" : Str) = ("one" : Str) := by decide
theorem m4 : ¬ ("all" : Str) = ("who" : Str) := by decide
theorem m5 : ¬ ("who" : Str) = ("one" : Str) := by decide
theorem m6 : ¬ ("who" : Str) = ("all" : Str) := by decide
/-- two forms are equal just if Python takes them so -/
theorem form_eqv {ks : List Str} {lv : Int} {a b : PyData} (h : IsForm ks lv a) (g : IsForm ks lv b) : (PyData.eqv a b = true ↔ a = b) := by
  cases h <;> cases g <;> simp [PyData.eqv, PyData.eqvAll, n1, n2, n3, n4, n5, n6, m1, m2, m3, m4, m5, m6]
theorem ok_bare {k : Str} (h : k = "user" ∨ k = "bot") : PyData.strOk k = true := by
  rcases h with rfl | rfl <;> decide +kernel
theorem ok_title {r : Str} {lv : Int} (h : Title r lv) : PyData.strOk r = true := by
  obtain ⟨l, hm, _⟩ := h
  simp only [titles, List.mem_cons, List.not_mem_nil, or_false, Prod.mk.injEq] at hm
  rcases hm with ⟨rfl, _⟩ | ⟨rfl, _⟩ | ⟨rfl, _⟩ | ⟨rfl, _⟩ <;> decide +kernel
theorem form_lay {ks : List Str} (hk : ∀ k ∈ ks, PyData.strOk k = true) {lv : Int} {a : PyData} (h : IsForm ks lv a) : a.canLay0 = true ∧ a.depth ≤ 1 := by
  cases h with
  | one hb => exact ⟨by simp [PyData.canLay0, PyData.canLayAll0, ok_bare hb, show PyData.strOk ("one" : Str) = true by decide +kernel], by simp [PyData.depth, PyData.depthAll]⟩
  | all hb => exact ⟨by simp [PyData.canLay0, PyData.canLayAll0, ok_bare hb, show PyData.strOk ("all" : Str) = true by decide +kernel], by simp [PyData.depth, PyData.depthAll]⟩
  | who hm ht => exact ⟨by simp [PyData.canLay0, PyData.canLayAll0, hk _ hm, ok_title ht, show PyData.strOk ("who" : Str) = true by decide +kernel], by simp [PyData.depth, PyData.depthAll]⟩
theorem form_shaped {ks : List Str} (hk : ∀ k ∈ ks, PyData.strOk k = true) {lv : Int} {a : PyData} (h : IsForm ks lv a) : SeqAt.shaped a = true := by
  obtain ⟨h1, h2⟩ := form_lay hk h
  unfold SeqAt.shaped
  rw [h1, Bool.true_and]
  exact decide_eq_true (by omega)
theorem forms_lay {ks : List Str} (hk : ∀ k ∈ ks, PyData.strOk k = true) {lv : Int} : ∀ {ds : List PyData}, (∀ d ∈ ds, IsForm ks lv d) → PyData.canLayAll0 ds = true ∧ PyData.depthAll ds ≤ 1
  | [], _ => ⟨by simp [PyData.canLayAll0], by simp [PyData.depthAll]⟩
  | d :: ds, h => by
    obtain ⟨h1, h2⟩ := form_lay hk (h d (List.mem_cons_self ..))
    obtain ⟨h3, h4⟩ := forms_lay hk (fun x hx => h x (List.mem_cons_of_mem _ hx))
    exact ⟨by simp [PyData.canLayAll0, h1, h3], by simp [PyData.depthAll]; omega⟩
theorem forms_shaped {ks : List Str} (hk : ∀ k ∈ ks, PyData.strOk k = true) {lv : Int} {ds : List PyData} (h : ∀ d ∈ ds, IsForm ks lv d) : SeqAt.shaped (.list ds) = true := by
  obtain ⟨h1, h2⟩ := forms_lay hk h
  unfold SeqAt.shaped
  rw [show PyData.canLay0 (.list ds) = true by simp [PyData.canLay0, h1], Bool.true_and]
  exact decide_eq_true (by simp [PyData.depth]; omega)
/-! ### lists of names -/
theorem names_shaped {ls : List Str} (h : ∀ k ∈ ls, PyData.strOk k = true) : SeqAt.shaped (.list (ls.map PyData.str)) = true := by
  have key : ∀ {ls : List Str}, (∀ k ∈ ls, PyData.strOk k = true) → PyData.canLayAll0 (ls.map PyData.str) = true ∧ PyData.depthAll (ls.map PyData.str) = 0 := by
    intro ls
    induction ls with
    | nil => intro _; exact ⟨by simp [PyData.canLayAll0], by simp [PyData.depthAll]⟩
    | cons x r ih =>
      intro h
      obtain ⟨h1, h2⟩ := ih (fun k hk => h k (List.mem_cons_of_mem _ hk))
      exact ⟨by simp [PyData.canLayAll0, PyData.canLay0, h1, h x (List.mem_cons_self ..)], by simp [PyData.depthAll, PyData.depth, h2]⟩
  obtain ⟨h1, h2⟩ := key h
  unfold SeqAt.shaped
  rw [show PyData.canLay0 (.list (ls.map PyData.str)) = true by simp [PyData.canLay0, h1], Bool.true_and]
  exact decide_eq_true (by simp [PyData.depth, h2])
theorem nil_shaped : SeqAt.shaped (.list []) = true := by decide +kernel
theorem eqv_nil (ds : List PyData) : PyData.eqv (.list ds) (.list []) = ds.isEmpty := by
  cases ds <;> simp [PyData.eqv, PyData.eqvAll]
/-- [one for one, high in titles if high <= level] -/
theorem lc_names {K : PySem.W.Frag} {p D t1 t2 t3 t4 : Addr} {H1 : Hp} {lv : Int} {σ : L2.St} {Qd : Hp → Prop} (l i j : Nat) (hli : l ≠ i) (hlj : l ≠ j) (hij : i ≠ j) (hσ : σ[l]? = some (some (.int lv))) (hi : i < σ.length) (hj : j < σ.length) (hD : H1 D = none)
    (hp : H1 p = some (.lst [.ref t1, .ref t2, .ref t3, .ref t4])) (h1 : H1 t1 = some (.tup [.str "see", .int 0])) (h2 : H1 t2 = some (.tup [.str "own", .int 0])) (h3 : H1 t3 = some (.tup [.str "edit", .int 1])) (h4 : H1 t4 = some (.tup [.str "ban", .int 2]))
    (hd : ∀ H, Same H1 H → H D = some (.lst ((upto lv).map V.str)) → Qd H) :
    ∃ W : Nat → Nat → Hp → Prop, (∃ m, W 0 m (upd H1 D (.lst []))) ∧ ∀ i' m H, W i' m H →
      ((Itl K p).stop i' H ∧ Qd H) ∨ ((Itl K p).go i' H ∧ ∃ Nx : Hp → Prop, (∀ H', Nx H' → ∃ m', m' < m ∧ W (i' + 1) m' H') ∧ ∀ x H', (Itl K p).yld i' H x H' → gTup K 2 (gCons (gName i) (gCons (gName j) gNil)) x (wipe σ [i, j]) H' fun σ2 H2 => wipe σ2 [i, j] = wipe σ [i, j] ∧
        tTest (tOp (rI0 fun a b => V.bl (decide (a ≤ b))) (tVar j) (tVar l)) σ2 H2 fun b H3 =>
        if b = true then tVar i σ2 H3 fun y H4 => ∃ acc, H4 D = some (.lst acc) ∧ acc.length < sizeLine ∧ Nx (upd H4 D (.lst (acc ++ [y]))) else Nx H3) := by
  have item : ∀ {n : Nat} {x : V} {H : Hp}, Same H1 H → [V.ref t1, .ref t2, .ref t3, .ref t4][n]? = some x → ∃ (t : Addr) (nm : Str) (hg : Int), x = .ref t ∧ H t = some (.tup [.str nm, .int hg]) ∧ titles[n]? = some (nm, hg) := by
    intro n x H sm hx
    match n, hx with
    | 0, hx => exact ⟨t1, _, _, (Option.some.inj hx).symm, sm _ _ h1, rfl⟩
    | 1, hx => exact ⟨t2, _, _, (Option.some.inj hx).symm, sm _ _ h2, rfl⟩
    | 2, hx => exact ⟨t3, _, _, (Option.some.inj hx).symm, sm _ _ h3, rfl⟩
    | 3, hx => exact ⟨t4, _, _, (Option.some.inj hx).symm, sm _ _ h4, rfl⟩
    | n + 4, hx => simp at hx
  refine lc_list (K := K) (a := p) (xs := [.ref t1, .ref t2, .ref t3, .ref t4]) (fun n H => Same H1 H ∧ H D = some (.lst ((((titles.take n).filter fun t => decide (t.2 ≤ lv)).map (·.1)).map V.str))) ?_ (fun n H _ h => SqL.of (h.1 _ _ hp)) ?_ (fun H h => hd H h.1 h.2)
  · exact ⟨same_new hD, upd_same⟩
  · rintro n x H hx ⟨sm, hb⟩
    obtain ⟨t, nm, hg, rfl, ht, htn⟩ := item sm hx
    have hn : n < 4 := (List.getElem?_eq_some_iff.mp htn).1
    have hwi : i < (wipe σ [i, j]).length := by rw [wipe_length]; exact hi
    have hwj : j < ((wipe σ [i, j]).set i (some (.str nm))).length := by rw [List.length_set, wipe_length]; exact hj
    have e1 : (((wipe σ [i, j]).set i (some (.str nm))).set j (some (.int hg)))[j]? = some (some (.int hg)) := List.getElem?_set_self hwj
    have e2 : (((wipe σ [i, j]).set i (some (.str nm))).set j (some (.int hg)))[i]? = some (some (.str nm)) := by
      rw [List.getElem?_set_ne (Ne.symm hij)]
      exact List.getElem?_set_self hwi
    have e3 : (((wipe σ [i, j]).set i (some (.str nm))).set j (some (.int hg)))[l]? = some (some (.int lv)) := by
      rw [List.getElem?_set_ne (Ne.symm hlj), List.getElem?_set_ne (Ne.symm hli)]
      show ((σ.set j none).set i none)[l]? = _
      rw [List.getElem?_set_ne (Ne.symm hli), List.getElem?_set_ne (Ne.symm hlj)]
      exact hσ
    have tk : titles.take (n + 1) = titles.take n ++ [(nm, hg)] := by rw [List.take_add_one, htn]; rfl
    refine ⟨t, _, rfl, SqT.of ht, rfl, _, _, rfl, _, _, rfl, rfl, ?_, ?_⟩
    · show ((((σ.set j none).set i none).set i (some (.str nm))).set j (some (.int hg)) |>.set j none |>.set i none) = (σ.set j none).set i none
      rw [List.set_set, List.set_comm (some (V.str nm)) none hij]
      rw [List.set_set, List.set_comm none none hij, List.set_set, List.set_set]
    · refine ⟨_, e1, _, e3, _, _, rfl, rfl, _, rfl, ?_⟩
      by_cases c : hg ≤ lv
      · rw [decide_eq_true c]
        refine iteT ⟨_, e2, _, hb, ?_, ?_⟩
        · rw [List.length_map, List.length_map]
          refine Nat.lt_of_le_of_lt (List.length_filter_le _ _) (Nat.lt_of_le_of_lt (List.length_take_le _ _) (small1000 (by omega)))
        · refine ⟨fun b o q => ?_, ?_⟩
          · rw [upd_ne (ne_of_none q hD)]
            exact sm _ _ q
          · rw [upd_same, tk, List.filter_append, List.map_append, List.map_append]
            simp [c]
      · rw [decide_eq_false c]
        refine iteF ⟨sm, ?_⟩
        rw [hb, tk, List.filter_append]
        simp [c]
theorem mem_strs {ks : List Str} {v : V} (h : v ∈ ks.map V.str) : ∃ k, k ∈ ks ∧ v = .str k := by
  obtain ⟨k, h1, h2⟩ := List.mem_map.mp h
  exact ⟨k, h1, h2.symm⟩
theorem strs_pos {ks : List Str} (h : ks ≠ []) : 0 < (ks.map V.str).length := by
  rw [List.length_map]
  exact List.length_pos_iff.mpr h
/-! ### promises -/
def spT : Sp := fun vs H Q _ => ∃ (p : Addr) (n : Nat) (b : Int), vs = [.ref p, .int b] ∧ Src H p n ∧ n < 100000000 ∧ 0 < b ∧ b < 1000000 ∧ ∀ (r : Int) (H' : Hp), 0 ≤ r → r < b → But p H H' → Src H' p (n + 1) → Q (.int r) H'
def spS : Sp := fun vs H Q _ => ∃ c : Int, vs = [.int c] ∧ ∀ (p : Addr) (H' : Hp), H p = none → Same H H' → Src H' p 0 → Q (.ref p) H'
def spP (K : PySem.W.Frag) : Sp := fun vs H Q _ => ∃ (p : Addr) (n : Nat) (a : Addr) (xs : List V), vs = [.ref p, .ref a] ∧ Src H p n ∧ n < 100000000 ∧ SqL K H a xs ∧ 0 < xs.length ∧ xs.length < 1000 ∧ a ≠ p ∧ ∀ v ∈ xs, ∀ H' : Hp, But p H H' → Src H' p (n + 1) → Q v H'
def spSome (K : PySem.W.Frag) : Sp := fun vs H Q _ => ∃ (p : Addr) (n : Nat) (a : Addr) (ks : List Str), vs = [.ref p, .ref a] ∧ Src H p n ∧ n < 10000000 ∧ SqL K H a (ks.map V.str) ∧ ks ≠ [] ∧ ks.length ≤ 10 ∧ (∀ k ∈ ks, PyData.strOk k = true) ∧ a ≠ p ∧
  ∀ (o : Addr) (ls : List Str) (H' : Hp), But p H H' → Src H' p (n + 20) → o ≠ p → H' o = some (.lst (ls.map V.str)) → ls.Sublist ks → ls ≠ [] → Q (.ref o) H'
def spForm (K : PySem.W.Frag) : Sp := fun vs H Q _ => ∃ (p : Addr) (n : Nat) (a : Addr) (ks : List Str) (lv : Int), vs = [.ref p, .ref a, .int lv] ∧ Src H p n ∧ n < 10000000 ∧ SqL K H a (ks.map V.str) ∧ ks ≠ [] ∧ ks.length ≤ 10 ∧ a ≠ p ∧ 0 ≤ lv ∧
  ∀ (v : V) (d : PyData) (H' : Hp), But p H H' → Src H' p (n + 3) → DT H' v d → IsForm ks lv d → Q v H'
def spForms (K : PySem.W.Frag) : Sp := fun vs H Q _ => ∃ (p : Addr) (n : Nat) (a : Addr) (ks : List Str) (lv : Int), vs = [.ref p, .ref a, .int lv] ∧ Src H p n ∧ n < 1000000 ∧ SqL K H a (ks.map V.str) ∧ ks ≠ [] ∧ ks.length ≤ 10 ∧ (∀ k ∈ ks, PyData.strOk k = true) ∧ a ≠ p ∧ 0 ≤ lv ∧
  ∀ (v : V) (fs : List PyData) (H' : Hp), But p H H' → Src H' p (n + 20) → DT H' v (.tuple fs) → 1 ≤ fs.length → fs.length ≤ 3 → fs.Nodup → (∀ f ∈ fs, IsForm ks lv f) → Q v H'
def spLeaf (K : PySem.W.Frag) : Sp := fun vs H Q _ => ∃ (p : Addr) (n : Nat) (a : Addr) (ls : List Str) (lv : Int), vs = [.ref p, .ref a, .int lv] ∧ Src H p n ∧ n < 10000000 ∧ SqL K H a (ls.map V.str) ∧ ls.length ≤ 10 ∧ (∀ k ∈ ls, PyData.strOk k = true) ∧ a ≠ p ∧ 0 ≤ lv ∧
  ∀ (v : V) (d : PyData) (H' : Hp), But p H H' → Src H' p (n + 5) → DT H' v d → IsLeaf ls lv d → Q v H'
def cost : Nat → Nat
  | 0 => 0
  | m + 1 => 20 + 4 * cost m
theorem cost_mono : ∀ {m k : Nat}, m ≤ k → cost m ≤ cost k
  | 0, _, _ => Nat.zero_le _
  | m + 1, 0, h => absurd h (Nat.not_succ_le_zero m)
  | m + 1, k + 1, h => by
    have := cost_mono (Nat.le_of_succ_le_succ h)
    show 20 + 4 * cost m ≤ 20 + 4 * cost k
    omega
def spPart (K : PySem.W.Frag) (m : Nat) : Sp := fun vs H Q _ => ∃ (p : Addr) (n : Nat) (a : Addr) (ls : List Str) (lv dp : Int), vs = [.ref p, .ref a, .int lv, .int dp] ∧ 0 < m ∧ Src H p n ∧ n + cost m < 1000000 ∧ SqL K H a (ls.map V.str) ∧ ls.length ≤ 10 ∧ (∀ k ∈ ls, PyData.strOk k = true) ∧ a ≠ p ∧ 0 ≤ lv ∧ dp ≤ m ∧
  ∀ (v : V) (d : PyData) (H' : Hp), But p H H' → Src H' p (n + cost m) → DT H' v d → IsPart ls lv m d → Q v H'
def spRule (K : PySem.W.Frag) : Sp := fun vs H Q _ => ∃ (p : Addr) (n : Nat) (ak al : Addr) (ks ls : List Str) (lv : Int), vs = [.ref p, .ref ak, .ref al, .int lv] ∧ Src H p n ∧ n < 500000 ∧ SqL K H ak (ks.map V.str) ∧ ks ≠ [] ∧ ks.length ≤ 10 ∧ (∀ k ∈ ks, PyData.strOk k = true) ∧ ak ≠ p ∧
  SqL K H al (ls.map V.str) ∧ ls.length ≤ 10 ∧ (∀ k ∈ ls, PyData.strOk k = true) ∧ al ≠ p ∧ 0 ≤ lv ∧ ∀ (v : V) (d : PyData) (H' : Hp), But p H H' → Src H' p (n + 5000) → DT H' v d → IsRule ks ls lv d → Q v H'
def spTi : Sp := fun vs H Q _ => vs = [] ∧ ∀ (p t1 t2 t3 t4 : Addr) (H' : Hp), Same H H' → H' p = some (.lst [.ref t1, .ref t2, .ref t3, .ref t4]) → H' t1 = some (.tup [.str "see", .int 0]) → H' t2 = some (.tup [.str "own", .int 0]) → H' t3 = some (.tup [.str "edit", .int 1]) → H' t4 = some (.tup [.str "ban", .int 2]) → Q (.ref p) H'
end Gen

set_option maxHeartbeats 4000000
/-! A drawn schema: entries, relations, rows. -/
namespace Gen
open PySem PySem.Spec PyProof.Rows L2
/-- tuple(xs), of a list or of a tuple -/
def rTupOf (K : PySem.W.Frag) : List V → Hp → L2.VK → Prop := fun xs H Q => ∃ p ys, xs = [.ref p] ∧ ((SqL K H p ys ∧ ∀ l, H l = none → Q (.ref l) (upd H l (.tup ys))) ∨ (SqT K H p ys ∧ Q (.ref p) H))
theorem DTs.take {H : Hp} : ∀ (k : Nat) {vs : List V} {ds : List PyData}, DTs H vs ds → DTs H (vs.take k) (ds.take k)
  | 0, _, _, _ => .nil
  | _ + 1, _, _, .nil => .nil
  | k + 1, _, _, .cons h t => .cons h (DTs.take k t)
theorem DTs.drop {H : Hp} : ∀ (k : Nat) {vs : List V} {ds : List PyData}, DTs H vs ds → DTs H (vs.drop k) (ds.drop k)
  | 0, _, _, h => h
  | _ + 1, _, _, .nil => .nil
  | k + 1, _, _, .cons _ t => DTs.drop k t
/-- one put in at a place -/
def putAt {α : Type} (k : Nat) (x : α) (xs : List α) : List α := xs.take k ++ [x] ++ xs.drop k
theorem putAt_perm {α : Type} (k : Nat) (x : α) (xs : List α) : (putAt k x xs).Perm (xs ++ [x]) := by
  unfold putAt
  have h1 : (xs.take k ++ [x] ++ xs.drop k).Perm (xs.take k ++ (xs.drop k ++ [x])) := by
    rw [List.append_assoc]
    exact List.Perm.append_left _ List.perm_append_comm
  refine h1.trans ?_
  rw [← List.append_assoc, List.take_append_drop]
theorem putAt_map {α β : Type} (f : α → β) (k : Nat) (x : α) (xs : List α) : (putAt k x xs).map f = putAt k (f x) (xs.map f) := by
  unfold putAt
  rw [List.map_append, List.map_append, List.map_take, List.map_drop]
  rfl
theorem putAt_length {α : Type} (k : Nat) (x : α) (xs : List α) : (putAt k x xs).length = xs.length + 1 := by
  have := (putAt_perm k x xs).length_eq
  rw [List.length_append] at this
  exact this
theorem putAt_mem {α : Type} {k : Nat} {x y : α} {xs : List α} (h : y ∈ putAt k x xs) : y = x ∨ y ∈ xs := by
  have := (putAt_perm k x xs).mem_iff.mp h
  rcases List.mem_append.mp this with z | z
  · exact .inr z
  · exact .inl (List.mem_singleton.mp z)
theorem DTs.putAt {H : Hp} {v : V} {d : PyData} {vs : List V} {ds : List PyData} (k : Nat) (h : DTs H vs ds) (g : DT H v d) : DTs H (vs.take k ++ [v] ++ vs.drop k) (Gen.putAt k d ds) := ((h.take k).append (DTs.one g)).append (h.drop k)
/-- but for two objects -/
def But2 (p f : Addr) (H H' : Hp) : Prop := ∀ b o, b ≠ p → b ≠ f → H b = some o → H' b = some o
theorem But2.refl (p f : Addr) (H : Hp) : But2 p f H H := fun _ _ _ _ h => h
theorem But2.but {p f : Addr} {H H1 H2 : Hp} (a : But2 p f H H1) (b : But p H1 H2) : But2 p f H H2 := fun c o n m h => b c o n (a c o n m h)
theorem But2.upd {p f : Addr} {H H1 : Hp} {o : HO} (a : But2 p f H H1) : But2 p f H (L2.upd H1 f o) := fun c x n m h => by
  rw [upd_ne m]
  exact a c x n m h
theorem But2.tups {p f : Addr} {H H' : Hp} {n : Nat} {ys : List V} (s : But2 p f H H') (r : Src H p n) (e : H f = some (.lst ys)) : Tups H H' := fun a xs h => by
  refine s _ _ (fun z => ?_) (fun z => ?_) h
  · obtain ⟨x, y, w, e', _⟩ := r
    rw [z, e'] at h
    cases h
  · rw [z, e] at h
    cases h
theorem upd_tups {H : Hp} {f : Addr} {xs ys : List V} (e : H f = some (.lst xs)) : Tups H (L2.upd H f (.lst ys)) := fun a zs h => by
  have n : a ≠ f := fun z => by
    rw [z, e] at h
    cases h
  rw [upd_ne n]
  exact h
theorem Src.upd {H : Hp} {p f : Addr} {n : Nat} {o : HO} (h : Src H p n) (e : f ≠ p) : Src (L2.upd H f o) p n := by
  obtain ⟨x, y, z, e', h0⟩ := h
  exact ⟨x, y, z, by rw [upd_ne (Ne.symm e)]; exact e', h0⟩
/-- an entry of a kind: its name and its rule -/
def ent (r : Str × PyData) : PyData := .tuple [.str r.1, r.2]
/-- a row of a schema: the kind and its entries -/
def row (r : Str × List (Str × PyData)) : PyData := .tuple [.str r.1, .tuple (r.2.map ent)]
inductive IsEntry (ks ls : List Str) : Str × PyData → Prop
  | link {l : Str} {gs : List Str} : l ∈ ls → gs.Sublist ks → gs ≠ [] → IsEntry ks ls (l, .tuple [.str "links", .tuple (gs.map PyData.str)])
  | right {t : Str} {lv : Int} {d : PyData} : (t, lv) ∈ titles → IsRule ks ls lv d → IsEntry ks ls (t, d)
/-- the entries of a kind -/
def IsRels (ks : List Str) (rs : List (Str × PyData)) : Prop := ∃ ls : List Str, ls <+: ["up", "in"] ∧ (rs.map (·.1)).Perm (ls ++ titles.map (·.1)) ∧ ∀ r ∈ rs, IsEntry ks ls r
def IsRow (ks : List Str) (r : Str × List (Str × PyData)) : Prop := (r.1 ∈ ks ∧ IsRels ks r.2) ∨ ((r.1 = "user" ∨ r.1 = "bot") ∧ r.2 = [])
/-- a drawn schema: its rows -/
def IsSchema (ks : List Str) (rows : List (Str × List (Str × PyData))) : Prop := ks ≠ [] ∧ ks <+: ["doc", "dir", "group"] ∧ (rows.map (·.1)).Perm (ks ++ (["user", "bot"] : List Str)) ∧ ∀ r ∈ rows, IsRow ks r
def spSchema : Sp := fun vs H Q _ => ∃ (p : Addr) (n : Nat) (most : Int), vs = [.ref p, .int most] ∧ Src H p n ∧ n < 400000 ∧ 1 ≤ most ∧ most ≤ 3 ∧
  ∀ (v : V) (ks : List Str) (rows : List (Str × List (Str × PyData))) (H' : Hp), But p H H' → Src H' p (n + 70000) → DT H' v (.tuple (rows.map row)) → IsSchema ks rows → (ks.length : Int) ≤ most → Q v H'
theorem ok_names {ks : List Str} (h : ks <+: ["doc", "dir", "group"]) : ∀ k ∈ ks, PyData.strOk k = true := fun k hk => by
  have m := h.sublist.subset hk
  simp only [List.mem_cons, List.not_mem_nil, or_false] at m
  rcases m with rfl | rfl | rfl <;> decide +kernel
theorem ok_links {ls : List Str} (h : ls <+: ["up", "in"]) : ∀ k ∈ ls, PyData.strOk k = true := fun k hk => by
  have m := h.sublist.subset hk
  simp only [List.mem_cons, List.not_mem_nil, or_false] at m
  rcases m with rfl | rfl <;> decide +kernel
end Gen

set_option maxHeartbeats 4000000
/-! Rules of a plan, the forms in a rule, rows of a state. -/
namespace Gen
open PySem PySem.Spec PyProof.Rows L2
theorem DT.tup_inv {H : Hp} {v : V} {ds : List PyData} (h : DT H v (.tuple ds)) : ∃ a xs, v = .ref a ∧ H a = some (.tup xs) ∧ DTs H xs ds := by
  cases h with
  | tup h t => exact ⟨_, _, rfl, h, t⟩
theorem DT.str_inv {H : Hp} {v : V} {x : Str} (h : DT H v (.str x)) : v = .str x := by
  cases h
  rfl
theorem DTs.cons_inv {H : Hp} {vs : List V} {d : PyData} {ds : List PyData} (h : DTs H vs (d :: ds)) : ∃ v ws, vs = v :: ws ∧ DT H v d ∧ DTs H ws ds := by
  cases h with
  | cons h t => exact ⟨_, _, rfl, h, t⟩
theorem DTs.nil_inv {H : Hp} {vs : List V} (h : DTs H vs []) : vs = [] := by
  cases h
  rfl
theorem DTs.get {H : Hp} : ∀ {vs : List V} {ds : List PyData} {i : Nat} {v : V}, DTs H vs ds → vs[i]? = some v → ∃ d, ds[i]? = some d ∧ DT H v d
  | _, _, _, _, .nil, e => by simp at e
  | _, _, 0, _, .cons h _, e => ⟨_, rfl, Option.some.inj e ▸ h⟩
  | _, _, i + 1, v, .cons _ t, e => by
    rw [List.getElem?_cons_succ] at e
    obtain ⟨d, e1, h⟩ := DTs.get t e
    exact ⟨d, by rw [List.getElem?_cons_succ]; exact e1, h⟩
theorem DTs.mem {H : Hp} : ∀ {vs : List V} {ds : List PyData} {v : V}, DTs H vs ds → v ∈ vs → ∃ d, d ∈ ds ∧ DT H v d
  | _, _, _, .nil, e => by cases e
  | _, _, v, .cons h t, e => by
    rcases List.mem_cons.mp e with rfl | e
    · exact ⟨_, List.mem_cons_self .., h⟩
    · obtain ⟨d, m, g⟩ := DTs.mem t e
      exact ⟨d, List.mem_cons_of_mem _ m, g⟩
/-- a pair with a name in front -/
theorem DT.pair_inv {H : Hp} {v : V} {k : Str} {d : PyData} (h : DT H v (.tuple [.str k, d])) : ∃ a w, v = .ref a ∧ H a = some (.tup [.str k, w]) ∧ DT H w d := by
  obtain ⟨a, xs, rfl, ha, t⟩ := h.tup_inv
  obtain ⟨v1, ws, rfl, h1, t1⟩ := t.cons_inv
  obtain ⟨v2, ws2, rfl, h2, t2⟩ := t1.cons_inv
  rw [t2.nil_inv, h1.str_inv] at ha
  exact ⟨a, v2, rfl, ha, h2⟩
abbrev Plan := List (Str × List (Str × PyData))
def planD (pl : Plan) : PyData := .tuple (pl.map row)
abbrev Rules := List ((Str × Str) × PyData)
def rulesOf (pl : Plan) : Rules := pl.flatMap fun r => r.2.map fun e => ((r.1, e.1), e.2)
def keyOf (k : Str × Str) : List Key := [.inr k.1, .inr k.2]
theorem keyOf_inj {a b : Str × Str} (h : keyOf a = keyOf b) : a = b := by
  unfold keyOf at h
  injection h with h1 h2
  injection h2 with h2 _
  injection h1 with h1
  injection h2 with h2
  exact Prod.ext h1 h2
/-- a dict of rules -/
def KD (H : Hp) (kvs : List (List Key × V)) (rs : Rules) : Prop := kvs.map (·.1) = rs.map (fun r => keyOf r.1) ∧ DTs H (kvs.map (·.2)) (rs.map (·.2))
theorem KD.keep {H H' : Hp} {kvs : List (List Key × V)} {rs : Rules} (h : KD H kvs rs) (s : Tups H H') : KD H' kvs rs := ⟨h.1, h.2.keep s⟩
theorem KD.length {H : Hp} {kvs : List (List Key × V)} {rs : Rules} (h : KD H kvs rs) : kvs.length = rs.length := by
  have := congrArg List.length h.1
  rwa [List.length_map, List.length_map] at this
theorem valV_not {kvs : List (List Key × V)} {k : List Key} (h : k ∉ kvs.map (·.1)) : valV kvs k = none := by
  have e := valV_any k kvs
  cases c : valV kvs k with
  | none => rfl
  | some v =>
    rw [c] at e
    obtain ⟨kv, m, d⟩ := List.any_eq_true.mp e
    exact absurd (List.mem_map.mpr ⟨kv, m, of_decide_eq_true d⟩) h
theorem KD.put {H : Hp} {kvs : List (List Key × V)} {rs : Rules} {k : Str × Str} {v : V} {d : PyData} (h : KD H kvs rs) (g : DT H v d) (n : k ∉ rs.map (·.1)) : KD H (putK kvs (keyOf k) v) (rs ++ [(k, d)]) := by
  have nk : keyOf k ∉ kvs.map (·.1) := by
    rw [h.1]
    intro z
    obtain ⟨r, m, e⟩ := List.mem_map.mp z
    exact n (List.mem_map.mpr ⟨r, m, keyOf_inj e⟩)
  rw [putK_new v (valV_not nk)]
  refine ⟨?_, ?_⟩
  · rw [List.map_append, List.map_append, h.1]
    rfl
  · rw [List.map_append, List.map_append]
    exact h.2.append (DTs.one g)
theorem KD.val {H : Hp} : ∀ {kvs : List (List Key × V)} {rs : Rules} {k : Str × Str} {d : PyData}, KD H kvs rs → (rs.map (·.1)).Nodup → (k, d) ∈ rs → ∃ v, valV kvs (keyOf k) = some v ∧ DT H v d
  | [], rs, k, d, h, _, m => by
    have := h.length
    cases rs with
    | nil => cases m
    | cons _ _ => cases this
  | kv :: kvs, [], k, d, h, _, m => by cases m
  | kv :: kvs, r :: rs, k, d, h, nd, m => by
    obtain ⟨h1, h2⟩ := h
    rw [List.map_cons, List.map_cons] at h1 h2
    injection h1 with e1 e2
    obtain ⟨v, ws, ev, g, t⟩ := h2.cons_inv
    injection ev with ev1 ev2
    subst ev1 ev2
    rw [List.map_cons, List.nodup_cons] at nd
    rcases List.mem_cons.mp m with rfl | m
    · exact ⟨kv.2, valV_pos e1, g⟩
    · have ne : ¬ kv.1 = keyOf k := fun z => by
        rw [e1] at z
        have := keyOf_inj z
        exact nd.1 (List.mem_map.mpr ⟨(k, d), m, this.symm⟩)
      obtain ⟨v, e, g'⟩ := KD.val (kvs := kvs) ⟨e2, t⟩ nd.2 m
      exact ⟨v, by rw [valV_neg ne]; exact e, g'⟩
/-- a dict of the rules of a plan -/
def spRules : Sp := fun vs H Q _ => ∃ (v : V) (pl : Plan), vs = [v] ∧ DT H v (planD pl) ∧ ((rulesOf pl).map (·.1)).Nodup ∧ (rulesOf pl).length < 1000 ∧ ∀ (D : Addr) (kvs : List (List Key × V)) (H' : Hp), Same H H' → H D = none → H' D = some (.dT kvs) → KD H' kvs (rulesOf pl) → Q (.ref D) H'
theorem take_get {α : Type} {xs : List α} {i : Nat} {x : α} (e : xs[i]? = some x) : xs.take (i + 1) = xs.take i ++ [x] := by rw [List.take_add_one, e]; rfl
theorem rulesOf_append (a b : Plan) : rulesOf (a ++ b) = rulesOf a ++ rulesOf b := List.flatMap_append
theorem rulesOf_take {pl : Plan} {i : Nat} {r : Str × List (Str × PyData)} (e : pl[i]? = some r) : rulesOf (pl.take (i + 1)) = rulesOf (pl.take i) ++ r.2.map fun e => ((r.1, e.1), e.2) := by
  rw [take_get e, rulesOf_append]
  show _ ++ rulesOf [r] = _
  unfold rulesOf
  rw [List.flatMap_cons, List.flatMap_nil, List.append_nil]
theorem rulesOf_split {pl : Plan} {i : Nat} {r : Str × List (Str × PyData)} (e : pl[i]? = some r) : ∃ more, rulesOf pl = rulesOf (pl.take i) ++ (r.2.map fun e => ((r.1, e.1), e.2)) ++ more := by
  refine ⟨rulesOf (pl.drop (i + 1)), ?_⟩
  rw [← rulesOf_take e, ← rulesOf_append, List.take_append_drop]
theorem map_get {α β : Type} {f : α → β} {xs : List α} {i : Nat} {y : β} (e : (xs.map f)[i]? = some y) : ∃ x, xs[i]? = some x ∧ y = f x := by
  rw [List.getElem?_map] at e
  cases c : xs[i]? with
  | none => rw [c] at e; cases e
  | some x => rw [c] at e; exact ⟨x, rfl, (Option.some.inj e).symm⟩
def IsNumber (i : Int) : Prop := i = 0 ∨ i = 1 ∨ i = 2 ∨ i = 3 ∨ i = 10 ^ 20
theorem IsNumber.pos {i : Int} (h : IsNumber i) : 0 ≤ i := by
  rcases h with rfl | rfl | rfl | rfl | rfl <;> decide
def spNumber : Sp := fun vs H Q _ => ∃ (p : Addr) (n : Nat), vs = [.ref p] ∧ Src H p n ∧ n < 10000000 ∧ ∀ (i : Int) (H' : Hp), But p H H' → Src H' p (n + 1) → IsNumber i → Q (.int i) H'
mutual
/-- the forms of the direct part of a rule -/
inductive FI : Nat → PyData → List PyData → Prop
  | direct {m : Nat} {fs : List PyData} : FI (m + 1) (.tuple [.str "direct", .tuple fs]) fs
  | many {m : Nat} {w : Str} {ps : List PyData} {fss : List (List PyData)} : (w = "either" ∨ w = "both") → FIs m ps fss → FI (m + 1) (.tuple [.str w, .tuple ps]) fss.flatten
  | but {m : Nat} {a b : PyData} {fa fb : List PyData} : FI m a fa → FI m b fb → FI (m + 1) (.tuple [.str "but", a, b]) (fa ++ fb)
  | same {m : Nat} {r : Str} : FI (m + 1) (.tuple [.str "same", .str r]) []
  | through {m : Nat} {l r : Str} : FI (m + 1) (.tuple [.str "through", .str l, .str r]) []
inductive FIs : Nat → List PyData → List (List PyData) → Prop
  | nil {m : Nat} : FIs m [] []
  | cons {m : Nat} {d : PyData} {ds : List PyData} {f : List PyData} {fss : List (List PyData)} : FI m d f → FIs m ds fss → FIs m (d :: ds) (f :: fss)
end
theorem FIs.get {m : Nat} : ∀ {ps : List PyData} {fss : List (List PyData)} {i : Nat} {d : PyData}, FIs m ps fss → ps[i]? = some d → ∃ f, fss[i]? = some f ∧ FI m d f
  | _, _, _, _, .nil, e => by simp at e
  | _, _, 0, _, .cons h _, e => ⟨_, rfl, Option.some.inj e ▸ h⟩
  | _, _, i + 1, d, .cons _ t, e => by
    rw [List.getElem?_cons_succ] at e
    obtain ⟨f, e1, h⟩ := FIs.get t e
    exact ⟨f, by rw [List.getElem?_cons_succ]; exact e1, h⟩
theorem FIs.length {m : Nat} : ∀ {ps : List PyData} {fss : List (List PyData)}, FIs m ps fss → ps.length = fss.length
  | _, _, .nil => rfl
  | _, _, .cons _ t => congrArg Nat.succ (FIs.length t)
/-- a new list of the forms in a rule -/
def spFormsIn (m : Nat) : Sp := fun vs H Q _ => ∃ (v : V) (d : PyData) (fs : List PyData), vs = [v] ∧ DT H v d ∧ FI m d fs ∧ fs.length < 1000 ∧ ∀ (l : Addr) (xs : List V) (H' : Hp), Same H H' → H l = none → H' l = some (.lst xs) → DTs H' xs fs → Q (.ref l) H'
theorem flatten_le {fss : List (List PyData)} {i : Nat} {f : List PyData} (e : fss[i]? = some f) : f.length ≤ fss.flatten.length := (List.sublist_flatten_of_mem (List.mem_of_getElem? e)).length_le
theorem take_flatten {fss : List (List PyData)} {i : Nat} {f : List PyData} (e : fss[i]? = some f) : (fss.take (i + 1)).flatten = (fss.take i).flatten ++ f := by
  rw [take_get e, List.flatten_append, List.flatten_cons, List.flatten_nil, List.append_nil]
theorem take_flatten_le (fss : List (List PyData)) (i : Nat) : (fss.take i).flatten.length ≤ fss.flatten.length := by
  conv => rhs; rw [← List.take_append_drop i fss, List.flatten_append, List.length_append]
  omega
theorem strNe {a b : Str} (h : (a == b) = false) : ¬ V.str a = V.str b := fun z => by
  injection z with z
  rw [z] at h
  simp at h
mutual
theorem FI.up : ∀ {m : Nat} {d : PyData} {fs : List PyData}, FI m d fs → FI (m + 1) d fs
  | _, _, _, .direct => .direct
  | _, _, _, .many w h => .many w (FIs.up h)
  | _, _, _, .but a b => .but (FI.up a) (FI.up b)
  | _, _, _, .same => .same
  | _, _, _, .through => .through
theorem FIs.up : ∀ {m : Nat} {ds : List PyData} {fss : List (List PyData)}, FIs m ds fss → FIs (m + 1) ds fss
  | _, _, _, .nil => .nil
  | _, _, _, .cons h t => .cons (FI.up h) (FIs.up t)
end
theorem FI.le {m k : Nat} {d : PyData} {fs : List PyData} (h : FI m d fs) (l : m ≤ k) : FI k d fs := by
  obtain ⟨j, rfl⟩ := Nat.le.dest l
  clear l
  induction j with
  | zero => exact h
  | succ j ih => exact ih.up
theorem FI.head {m : Nat} {d : PyData} {fs : List PyData} (h : FI m d fs) : ∃ w ds, d = .tuple (.str w :: ds) ∧ (w == ("links" : Str)) = false := by
  cases h with
  | direct => exact ⟨_, _, rfl, by decide⟩
  | many hw _ => rcases hw with rfl | rfl <;> exact ⟨_, _, rfl, by decide⟩
  | but _ _ => exact ⟨_, _, rfl, by decide⟩
  | same => exact ⟨_, _, rfl, by decide⟩
  | through => exact ⟨_, _, rfl, by decide⟩
theorem IsLeaf.fi {ls : List Str} {lv : Int} {d : PyData} {m : Nat} (h : IsLeaf ls lv d) : FI (m + 1) d [] := by
  cases h with
  | same _ => exact .same
  | through _ _ => exact .through
theorem FIs.nils {m : Nat} : ∀ {ps : List PyData}, (∀ p ∈ ps, FI m p []) → ∃ fss, FIs m ps fss ∧ fss.flatten = []
  | [], _ => ⟨[], .nil, rfl⟩
  | p :: ps, h => by
    obtain ⟨fss, a, b⟩ := FIs.nils (fun x hx => h x (List.mem_cons_of_mem _ hx))
    exact ⟨[] :: fss, .cons (h p (List.mem_cons_self ..)) a, by rw [List.flatten_cons, b]; rfl⟩
theorem IsPart.fi {ls : List Str} {lv : Int} {m : Nat} {d : PyData} (h : IsPart ls lv m d) : FI m d [] := by
  induction h with
  | leaf h => exact h.fi
  | many hw _ _ _ ih =>
    obtain ⟨fss, a, b⟩ := FIs.nils ih
    exact b ▸ .many hw a
  | but _ _ _ iha ihb => exact .but iha ihb
  | up _ ih => exact ih.up
theorem IsDirect.fi {ks : List Str} {lv : Int} {d : PyData} {m : Nat} (h : IsDirect ks lv d) : ∃ fs, FI (m + 1) d fs ∧ fs.length ≤ 3 ∧ ∀ f ∈ fs, IsForm ks lv f := by
  obtain ⟨fs, rfl, _, h3, _, h5⟩ := h
  exact ⟨fs, .direct, h3, h5⟩
theorem IsRule.fi {ks ls : List Str} {lv : Int} {d : PyData} (h : IsRule ks ls lv d) : ∃ fs, FI 5 d fs ∧ fs.length ≤ 3 ∧ ∀ f ∈ fs, IsForm ks lv f := by
  cases h with
  | direct h => exact h.fi
  | part h => exact ⟨[], h.fi.le (by decide), by decide, fun f hf => by cases hf⟩
  | but1 _ h1 h2 =>
    obtain ⟨fs, a, b, c⟩ := h1.fi (m := 3)
    exact ⟨fs, by have z := FI.but a (h2.fi.le (k := 4) (by decide)); rwa [List.append_nil] at z, b, c⟩
  | but2 _ h1 h2 h3 =>
    obtain ⟨fs, a, b, c⟩ := h1.fi (m := 2)
    refine ⟨fs, ?_, b, c⟩
    have z := FI.many (m := 3) (w := "either") (.inl rfl) (.cons a (.cons h2.fi .nil))
    have z2 := FI.but z (h3.fi.le (k := 4) (by decide))
    rwa [show [fs, []].flatten ++ [] = fs by simp] at z2
  | two hw h =>
    rcases h with ⟨h1, h2⟩ | ⟨h2, h1⟩
    · obtain ⟨fs, a, b, c⟩ := h1.fi (m := 3)
      refine ⟨fs, ?_, b, c⟩
      have z := FI.many (m := 4) hw (.cons a (.cons (h2.fi.le (k := 4) (by decide)) .nil))
      rwa [show [fs, []].flatten = fs by simp] at z
    · obtain ⟨fs, a, b, c⟩ := h1.fi (m := 3)
      refine ⟨fs, ?_, b, c⟩
      have z := FI.many (m := 4) hw (.cons (h2.fi.le (k := 4) (by decide)) (.cons a .nil))
      rwa [show [[], fs].flatten = fs by simp] at z
inductive IsF : PyData → Prop
  | one {k : Str} : IsF (.tuple [.str "one", .str k])
  | all {k : Str} : IsF (.tuple [.str "all", .str k])
  | who {k r : Str} : IsF (.tuple [.str "who", .str k, .str r])
theorem IsForm.f {ks : List Str} {lv : Int} {d : PyData} (h : IsForm ks lv d) : IsF d := by
  cases h with
  | one _ => exact .one
  | all _ => exact .all
  | who _ _ => exact .who
def links (gs : List Str) : PyData := .tuple [.str "links", .tuple (gs.map PyData.str)]
/-- a rule that takes rows of one kind or another, or none -/
inductive RuleOK : PyData → Prop
  | link {gs : List Str} : gs ≠ [] → gs.length < 1000 → RuleOK (links gs)
  | forms {d : PyData} {fs : List PyData} : FI 5 d fs → fs.length < 1000 → SeqAt.shaped (.list fs) = true → (∀ f ∈ fs, IsF f) → RuleOK d
inductive IsSubject (d : PyData) : PyData → Prop
  | link {gs : List Str} {g : Str} {i : Int} : d = links gs → g ∈ gs → IsNumber i → IsSubject d (.tuple [.str "one", .tuple [.str g, .int i]])
  | one {fs : List PyData} {k : Str} {i : Int} : FI 5 d fs → PyData.tuple [.str "one", .str k] ∈ fs → IsNumber i → IsSubject d (.tuple [.str "one", .tuple [.str k, .int i]])
  | all {fs : List PyData} {k : Str} : FI 5 d fs → PyData.tuple [.str "all", .str k] ∈ fs → IsSubject d (.tuple [.str "all", .str k])
  | who {fs : List PyData} {k r : Str} {i : Int} : FI 5 d fs → PyData.tuple [.str "who", .str k, .str r] ∈ fs → IsNumber i → IsSubject d (.tuple [.str "who", .tuple [.str k, .int i], .str r])
/-- a row of a state of a plan -/
def IsRowD (pl : Plan) (x : PyData) : Prop := ∃ (k t : Str) (d s : PyData) (i : Int), ((k, t), d) ∈ rulesOf pl ∧ IsNumber i ∧ IsSubject d s ∧ x = .tuple [.tuple [.str k, .int i], .str t, s]
structure PlanOK (pl : Plan) : Prop where
  nd : ((rulesOf pl).map (·.1)).Nodup
  pos : 0 < (rulesOf pl).length
  few : (rulesOf pl).length < 1000
  ok : ∀ r ∈ rulesOf pl, RuleOK r.2
def spRow : Sp := fun vs H Q _ => ∃ (p : Addr) (n : Nat) (v : V) (pl : Plan), vs = [.ref p, v] ∧ Src H p n ∧ n < 1000000 ∧ DT H v (planD pl) ∧ PlanOK pl ∧
  ∀ (x : V) (H' : Hp), But p H H' → Src H' p (n + 10) → (x = .non ∨ ∃ d, DT H' x d ∧ IsRowD pl d) → Q x H'
theorem keys_mem {H : Hp} {v : V} : ∀ {kvs : List (List Key × V)} {rs : Rules} {bs : List Addr}, IsKeys H kvs bs → kvs.map (·.1) = rs.map (fun r => keyOf r.1) → v ∈ bs.map V.ref → ∃ b r, v = .ref b ∧ r ∈ rs ∧ H b = some (.tup [.str r.1.1, .str r.1.2])
  | [], rs, [], _, _, m => by cases m
  | kv :: kvs, [], b :: bs, _, e, m => by cases e
  | kv :: kvs, r :: rs, b :: bs, .cons h t, e, m => by
    rw [List.map_cons, List.map_cons] at e
    injection e with e1 e2
    rcases List.mem_cons.mp m with rfl | m
    · refine ⟨b, r, rfl, List.mem_cons_self .., ?_⟩
      rw [e1] at h
      exact h
    · obtain ⟨b', r', h1, h2, h3⟩ := keys_mem t e2 m
      exact ⟨b', r', h1, List.mem_cons_of_mem _ h2, h3⟩
theorem keys_len {H : Hp} : ∀ {kvs : List (List Key × V)} {bs : List Addr}, IsKeys H kvs bs → kvs.length = bs.length
  | _, _, .nil => rfl
  | _, _, .cons _ t => congrArg Nat.succ (keys_len t)
theorem DTs.strs_inv {H : Hp} : ∀ {gs : List Str} {vs : List V}, DTs H vs (gs.map PyData.str) → vs = gs.map V.str
  | [], _, h => h.nil_inv
  | g :: gs, vs, h => by
    obtain ⟨v, ws, rfl, h1, h2⟩ := DTs.cons_inv (d := .str g) (ds := gs.map PyData.str) h
    rw [h1.str_inv, strs_inv h2]
    rfl
def spRows : Sp := fun vs H Q _ => ∃ (p : Addr) (n : Nat) (v : V) (pl : Plan) (most : Int), vs = [.ref p, v, .int most] ∧ Src H p n ∧ n < 500000 ∧ DT H v (planD pl) ∧ PlanOK pl ∧ 0 ≤ most ∧ most < 500 ∧
  ∀ (l : Addr) (xs : List V) (ds : List PyData) (H' : Hp), But p H H' → Src H' p (n + 6000) → H l = none → H' l = some (.lst xs) → DTs H' xs ds → (∀ d ∈ ds, IsRowD pl d) → (ds.length : Int) ≤ most → Q (.ref l) H'
end Gen

set_option maxHeartbeats 4000000
/-! Whole trees: the mathematics. -/
namespace Wood
open PySem PySem.Spec PyProof.Rows L2 Gen
inductive Sb where
  | one (k : Str) (n : Int)
  | all (k : Str)
deriving DecidableEq
inductive T where
  | set (ss : List Sb)
  | ring (k : Str) (n : Int) (r : Str)
  | any (ps : List T)
  | both (ps : List T)
  | but (a b : T)
  | opn (k : Str) (n : Int) (r : Str) (t : T)
def obj (k : Str) (n : Int) : PyData := .tuple [.str k, .int n]
def Sb.data : Sb → PyData
  | .one k n => .tuple [.str "one", obj k n]
  | .all k => .tuple [.str "all", .str k]
mutual
def T.data : T → PyData
  | .set ss => .tuple [.str "set", .tuple (ss.map Sb.data)]
  | .ring k n r => .tuple [.str "ring", obj k n, .str r]
  | .any ps => .tuple [.str "any", .tuple (datas ps)]
  | .both ps => .tuple [.str "both", .tuple (datas ps)]
  | .but a b => .tuple [.str "but", a.data, b.data]
  | .opn k n r t => .tuple [.str "open", obj k n, .str r, t.data]
def datas : List T → List PyData
  | [] => []
  | t :: ts => t.data :: datas ts
end
theorem datas_map : ∀ ts : List T, datas ts = ts.map T.data
  | [] => by simp [datas]
  | t :: ts => by simp [datas, datas_map ts]
def inner : T → List T
  | .any ps => ps
  | .both ps => ps
  | .but a b => [a, b]
  | .opn _ _ _ t => [t]
  | _ => []
mutual
def isIn (k : Str) (n : Int) : T → Bool
  | .set ss => decide (Sb.one k n ∈ ss) || decide (Sb.all k ∈ ss)
  | .ring _ _ _ => false
  | .any ps => anyIn k n ps
  | .both ps => allIn k n ps
  | .but a b => isIn k n a && !isIn k n b
  | .opn _ _ _ t => isIn k n t
def anyIn (k : Str) (n : Int) : List T → Bool
  | [] => false
  | t :: ts => isIn k n t || anyIn k n ts
def allIn (k : Str) (n : Int) : List T → Bool
  | [] => true
  | t :: ts => isIn k n t && allIn k n ts
end
/-- one or more together; one alone is itself -/
def pack (c : List T → T) : List T → Option T
  | [] => none
  | [t] => some t
  | ts => some (c ts)
mutual
/-- without what brings nobody -/
def less : T → Option T
  | .set ss => if ss = [] then none else some (.set ss)
  | .ring _ _ _ => none
  | .any ps => pack .any (lessL ps)
  | .both ps => if (lessL ps).length < ps.length then none else pack .both (lessL ps)
  | .but a b => match less a with
    | none => none
    | some x => match less b with
      | none => some x
      | some y => some (.but x y)
  | .opn k n r t => match less t with
    | none => none
    | some x => some (.opn k n r x)
def lessL : List T → List T
  | [] => []
  | t :: ts => match less t with
    | none => lessL ts
    | some x => x :: lessL ts
end
mutual
/-- all trees with their paths, in reading order -/
def pre (p : List Nat) : T → List (List Nat × T)
  | .any ps => (p, .any ps) :: preL p 0 ps
  | .both ps => (p, .both ps) :: preL p 0 ps
  | .but a b => (p, .but a b) :: (pre (p ++ [0]) a ++ (pre (p ++ [1]) b ++ []))
  | .opn k n r t => (p, .opn k n r t) :: (pre (p ++ [0]) t ++ [])
  | t => [(p, t)]
def preL (p : List Nat) (k : Nat) : List T → List (List Nat × T)
  | [] => []
  | t :: ts => pre (p ++ [k]) t ++ preL p (k + 1) ts
end
theorem pre_eq (p : List Nat) (t : T) : pre p t = (p, t) :: preL p 0 (inner t) := by
  cases t <;> simp [pre, preL, inner]
mutual
def size : T → Nat
  | .any ps => 1 + sizes ps
  | .both ps => 1 + sizes ps
  | .but a b => 1 + (size a + (size b + 0))
  | .opn _ _ _ t => 1 + (size t + 0)
  | _ => 1
def sizes : List T → Nat
  | [] => 0
  | t :: ts => size t + sizes ts
end
theorem size_eq (t : T) : size t = 1 + sizes (inner t) := by cases t <;> simp [size, sizes, inner]
theorem sizes_append : ∀ (a b : List T), sizes (a ++ b) = sizes a + sizes b
  | [], b => by simp [sizes]
  | t :: ts, b => by simp [sizes, sizes_append ts b]; omega
mutual
theorem pre_len (p : List Nat) : ∀ t : T, (pre p t).length = size t
  | .set _ => by simp [pre, size]
  | .ring _ _ _ => by simp [pre, size]
  | .any ps => by simp [pre, size, preL_len p 0 ps]; omega
  | .both ps => by simp [pre, size, preL_len p 0 ps]; omega
  | .but a b => by simp [pre, size, pre_len _ a, pre_len _ b]; omega
  | .opn _ _ _ t => by simp [pre, size, pre_len _ t]; omega
theorem preL_len (p : List Nat) (k : Nat) : ∀ ts : List T, (preL p k ts).length = sizes ts
  | [] => by simp [preL, sizes]
  | t :: ts => by simp [preL, sizes, pre_len _ t, preL_len p (k + 1) ts]
end
mutual
/-- how deep -/
def deep : T → Nat
  | .any ps => 1 + deeps ps
  | .both ps => 1 + deeps ps
  | .but a b => 1 + max (deep a) (max (deep b) 0)
  | .opn _ _ _ t => 1 + max (deep t) 0
  | _ => 1
def deeps : List T → Nat
  | [] => 0
  | t :: ts => max (deep t) (deeps ts)
end
theorem deep_eq (t : T) : deep t = 1 + deeps (inner t) := by cases t <;> simp [deep, deeps, inner]
theorem deep_mem : ∀ {ts : List T} {t : T}, t ∈ ts → deep t ≤ deeps ts
  | x :: xs, t, h => by
    rcases List.mem_cons.mp h with rfl | h
    · simp [deeps]; omega
    · have := deep_mem h; simp [deeps]; omega
/-- a name as the program has it -/
def NameOK (x : Str) : Prop := x.length ≤ 8 ∧ Txt.isascii x = true ∧ Txt.isalpha x = true ∧ Txt.islower x = true
def SbOK : Sb → Prop
  | .one k n => NameOK k ∧ 0 ≤ n
  | .all k => NameOK k
end Wood

set_option maxHeartbeats 4000000
/-! enumerate(tuple) -/
namespace L2
open PySem PySem.Spec PyProof.Rows
/-- the tuple at a, each item in a new pair -/
def IteT (K : PySem.W.Frag) (a : Addr) : It :=
  ⟨fun i H => ∃ (xs : List V) (x : V), SqT K H a xs ∧ xs[i]? = some x, fun i H v H' => ∃ T x, v = .ref T ∧ H T = none ∧ H' = upd H T (.tup [.int (i : Nat), x]) ∧ ∀ xs, SqT K H a xs → xs[i]? = some x, fun i H => ∃ xs : List V, SqT K H a xs ∧ xs.length ≤ i⟩
theorem turn_enumT {P : Program} {w : World} {K : PySem.W.Frag} {elts : List Expr} {kk : Nat} {tpos : Pos} (a e it : Addr) :
    Turn P w K (.Tuple elts kk tpos) (IteT K a) [e, it] e (fun i h => (∃ old, IsEnum h e it ((i : Nat) : Int) old) ∧ h.IsTupleIter it a i ∧ e ≠ it) where
  mem := by simp
  obj := fun i h st b hb => by
    obtain ⟨⟨old, he⟩, ⟨o, ho, hc, hd⟩, _⟩ := st
    have e' : b = e ∨ b = it := by simpa using hb
    rcases e' with z | z
    · rw [z]; exact ⟨_, he, fun v q => nomatch q⟩
    · rw [z]; exact ⟨o, ho, fun v q => by rw [hd] at q; cases q⟩
  keep := fun i h h' st k => let ⟨⟨old, he⟩, hi, hne⟩ := st; ⟨⟨old, k e (by simp) _ he⟩, hi.at fun o q => k it (by simp) o q, hne⟩
  item := by
    intro X hP hw hK hc i pins s σ H E I hf st hg
    subst hP hw hK
    obtain ⟨⟨old, he⟩, hit, hne⟩ := st
    obtain ⟨xs, x, hq, hx⟩ := hg
    obtain ⟨its, rv, p, hz⟩ := I.tuple hq
    obtain ⟨u, hu, ru⟩ := rv.get hx
    have hel : e < s.heap.objs.size := Heap.lt_size he
    have hil : it < s.heap.objs.size := by obtain ⟨_, q, _⟩ := hit; exact Heap.lt_size q
    have hal : a ≠ it := fun z => by
      obtain ⟨o, ho, hc, _⟩ := hit
      obtain ⟨o', ho', hc', _⟩ := p
      rw [z, ho] at ho'
      injection ho' with z2
      rw [← z2, hc] at hc'
      exact absurd hc' (by decide)
    have hae : e ∉ [it, a] := fun z => by
      have e' : e = it ∨ e = a := by simpa using z
      rcases e' with z | z
      · exact hne z
      · obtain ⟨o', ho', hc', _⟩ := p
        rw [← z] at ho'
        rw [IsEnum, ho'] at he
        injection he with z2
        rw [z2] at hc'
        exact absurd hc' (by show ¬ Value.type "enumerate" = Value.type "tuple"; decide)
    refine wpAny_pyNext_enum_itemD (Draws.tuple (A := X.A.in1) (by exact I.ok.hd hc) it a hal its.toArray) he (by exact ⟨hit, p⟩) (by
      have := List.getElem?_eq_some_iff.mp hu
      obtain ⟨h, _⟩ := this
      simpa using h) hne hae fun x' h' tk hP ho st' hT hsz hk => ?_
    obtain ⟨hit', _⟩ := st'
    have ex : x' = u := by
      have z : its[i]? = some x' := by simpa using hP
      rw [hu] at z
      injection z with z
      exact z.symm
    subst ex
    refine ⟨_, rfl, wpAny_letOwnedTupleGo_enum (s := { s with heap := h', toks := tk + 1 }) ho fun h'' he' sb => ?_⟩
    have hT2 : h''.get? s.heap.objs.size = some { cls := .type "tuple", data := .seq #[.int i tk, x'] } := (sb.2 _ (Nat.ne_of_gt hel)).trans hT
    have new : ObjOk X.prog X.w (upd H s.heap.objs.size (.tup [.int (i : Nat), x])) h'' s.heap.objs.size (.tup [.int (i : Nat), x]) :=
      ⟨by show 2 ≤ sizeLine; decide, [.int i tk, x'], .cons ⟨_, rfl⟩ (.cons ru .nil), ⟨_, hT2, rfl, _, rfl⟩⟩
    have I1 : Inv X pins σ (upd H s.heap.objs.size (.tup [.int (i : Nat), x])) { s with heap := h'', toks := tk + 1 } :=
      I.turnedNew (ch := [e, it]) (fun b ob hb q => (sb.2 b (fun z => hb (by simp [z]))).trans (hk b ob (fun z => hb (by simp [z])) (fun z => hb (by simp [z])) q)) hf (Nat.le_refl _) new
    refine ⟨.ref s.heap.objs.size, _, I1, rfl, ⟨_, x, rfl, I.hok.fresh (Nat.le_refl _), rfl, fun ys hy => by rw [I.tuple_inj hy hq]; exact hx⟩, ⟨⟨x', ?_⟩, hit'.at fun o q => (sb.2 it (Ne.symm hne)).trans q, hne⟩, fun b hb => ?_⟩
    · have e1 : ((i + 1 : Nat) : Int) = (i : Int) + 1 := by omega
      rw [e1]; exact he'
    · have hb' : b < s.heap.objs.size := by
        have e' : b = e ∨ b = it := by simpa using hb
        rcases e' with z | z
        · rw [z]; exact hel
        · rw [z]; exact hil
      rw [upd_ne (Nat.ne_of_lt hb')]
      exact (hf b hb).1
  done := by
    intro X hP hw hK hc i pins s σ H E I hf st hg
    subst hP hw hK
    obtain ⟨⟨old, he⟩, hit, hne⟩ := st
    obtain ⟨xs, hq, hx⟩ := hg
    obtain ⟨its, rv, p, hz⟩ := I.tuple hq
    obtain ⟨f0, f1, f2, f3, f4, f5⟩ := hf it (by simp)
    have hl := rv.length
    have hT : s.TypeIs (.ref e) "enumerate" := ⟨_, he, rfl⟩
    unfold pyNext
    refine wpAny_bind (wpAny_attempt (wpAny_callSpecial?_slot (name := Str.ofString "__next__") hT F.slot_enumerate_next
      (wpAny_call_entry F.slot_enumerate_next hT F.entry_enumerate_next ?_ (F.args_enumerate_next_1 _))))
    show wpAny _ _ (field (.ref e) 2 >>= _) _ _ _
    refine wpAny_bind (wpAny_field he rfl (x := .ref it) rfl ?_)
    refine wpAny_bind (wpAny_nextOf_tuple_end (by exact I.ok.hd hc) hit p (by simp; omega) fun h' x he' hx' => ?_)
    obtain ⟨o, ho, hc⟩ := hx'
    refine wpAny_bind (wpAny_isInstance (T := "StopIteration") (b := true) ⟨o, ho, hc⟩ isSubtype_stop ?_)
    exact wpAny_pure ⟨rfl, I.turned (t' := s.toks) (fun b o hb q => he' b o hb q) f0 f1 f3 f4 f5⟩
  self := fun A i s Q E st h => let ⟨⟨_, he⟩, _⟩ := st; wpAny_pyIter_enum he h
section
set_option maxHeartbeats 1000000
/-- enumerate(v), from 0: its two new objects, whatever v begins -/
theorem enum0_new {v : Value} {o : Obj} {G : Heap → Prop} (B : Begins v o G) :
    Meets (Builtin.«enumerate.__new__» ⟨[.type "enumerate", v], []⟩) (fun _ R s => G s.heap ∧ R (.ok (.ret (.ref (s.heap.push o).objs.size)))
      { s with heap := (s.heap.push o).push { cls := .type "enumerate", data := .fields #[.none, .bool false, .ref s.heap.objs.size, rawInt 0, .none, .none] } }) :=
  .of_wp fun prog w A R s h => by
    obtain ⟨hp, g, d, tk, os⟩ := s
    obtain ⟨hg, hR⟩ := h
    have sub0 := sub_enumerate
    have begin0 : ∀ {A' : Around} {E : Value → Shared → Prop} {Q : Value → Shared → Prop}, Q (.ref hp.objs.size) ⟨hp.push o, g, d, tk, os⟩ → wpAny (model prog w) A' (pyIter v) Q E ⟨hp, g, d, tk, os⟩ :=
      fun q => B.iter prog w _ _ ⟨hp, g, d, tk, os⟩ _ hg q
    wp_walk using begin0
    refine wpAny_stack_any fun st => wpAny_pure ?_
    split
    · rename_i c _ _ _ _ _
      cases (c == Value.type "enumerate") <;> (wp_walk using begin0; exact ⟨_, rfl, hR⟩)
    · wp_walk using begin0
      exact ⟨_, rfl, hR⟩
theorem enum0_call {prog : Program} {w : World} {A : Around} {E : Value → Shared → Prop} {s : Shared} {v : Value} {o : Obj} {G : Heap → Prop} {Q : Value → Shared → Prop} (B : Begins v o G) (hg : G s.heap)
    (h : ∀ h', IsEnum h' (s.heap.objs.size + 1) s.heap.objs.size 0 .none → h'.get? s.heap.objs.size = some o → (∀ b o, s.heap.get? b = some o → h'.get? b = some o) → Q (.ref (s.heap.objs.size + 1)) { s with heap := h' }) :
    wpAny (model prog w) A (call (.type "enumerate") [v]) Q E s := by
  refine callType_new F.called_enumerate (by decide) (F.typeCall_enumerate_1 _) (F.newCall_enumerate_1 _) (fun obj => F.args_object_init_2 obj _) F.entry_enumerate_new (enum0_new B) ⟨hg, ?_⟩
  have size1 : (s.heap.push o).objs.size = s.heap.objs.size + 1 := Heap.size_push ..
  have at1 : ((s.heap.push o).push { cls := .type "enumerate", data := .fields #[.none, .bool false, .ref s.heap.objs.size, rawInt 0, .none, .none] }).get? (s.heap.objs.size + 1) = some { cls := .type "enumerate", data := .fields #[.none, .bool false, .ref s.heap.objs.size, rawInt 0, .none, .none] } := by
    rw [← size1]
    exact Heap.get?_push_size _ rfl
  rw [size1]
  exact ⟨⟨_, at1, rfl⟩, h _ at1 (Heap.get?_push_of_some _ (Heap.get?_push_size _ B.free)) fun b o x => Heap.get?_push_of_some _ (Heap.get?_push_of_some _ x)⟩
end
def iEnumT (K : PySem.W.Frag) (ta : TA) : TI := fun σ H R => ta σ H fun vs H1 => ∃ a xs, vs = [.ref a] ∧ SqT K H1 a xs ∧ R (IteT K a) H1
theorem pi_enumT {X : Cx} {e : Expr} {ta : TA} {p pos tpos : Pos} {elts : List Expr} {kk : Nat} (hg : Gl X "enumerate") (hm : X.mg "enumerate" = none) (ha : PA X [e] ta) (hs : starEach [e] X.env = [(false, eval e X.env)] := by rfl) :
    PI X (.Tuple elts kk tpos) (.Call (.Name "enumerate" p) [e] [] pos) (iEnumT X.K ta) := by
  refine ⟨fun pins s σ H R I h => ?_⟩
  refine Call_ (ld_blt I hg hm boot_enumerate (PyProof.Rows.callWith_type1 (thn (ha.run pos pins s σ H _ I h) fun us s1 ⟨vs, H1, I1, r1, a, xs, ex, hq, q⟩ => ?_) hs rfl))
  subst ex
  obtain ⟨u, rfl, r⟩ := vals1 r1
  cases r
  obtain ⟨its, rv, t, _⟩ := I1.tuple hq
  refine enum0_call (begins_tuple a its.toArray) t fun h' he hit hk => wpAny_pyIter_enum he ?_
  have I2 : Inv X pins σ H1 { s1 with heap := h' } := I1.kept (t' := s1.toks) hk
  refine ⟨s1.heap.objs.size + 1, [s1.heap.objs.size + 1, s1.heap.objs.size], _, _, H1, rfl, I2, turn_enumT a (s1.heap.objs.size + 1) s1.heap.objs.size, ⟨⟨.none, he⟩, ⟨_, hit, rfl, rfl⟩, Nat.succ_ne_self _⟩, fun b hb => ?_, q⟩
  have hle : s1.heap.objs.size ≤ b := by
    rcases (by simpa using hb : b = s1.heap.objs.size + 1 ∨ b = s1.heap.objs.size) with z | z
    · rw [z]; exact Nat.le_add_right _ _
    · rw [z]; exact Nat.le_refl _
  exact I1.fpOk hle (I1.hok.fresh hle)
/-- one pair after the other -/
theorem walk_enumT {K : PySem.W.Frag} {a : Addr} {xs : List V} : Walk (IteT K a) xs.length (fun H => SqT K H a xs) (YPair (fun i => some (.int (i : Nat))) fun i => xs[i]?) where
  goes := fun i H hi h => ⟨xs, xs[i], h, List.getElem?_eq_getElem hi⟩
  stops := fun H h => ⟨xs, h, Nat.le_refl _⟩
  yields := fun i H v H' hi h ⟨T, x, ev, n, eH, f⟩ => ⟨T, _, x, ev, n, eH, rfl, f xs h⟩
end L2

set_option maxHeartbeats 4000000
/-! x in t, t a tuple of data of any depth -/
namespace L2
open PySem PySem.Spec PyProof.Rows
def rInDT (K : PySem.W.Frag) : R2 := fun x y H Q => ∃ d ds, Dp K H x d ∧ Dp K H y (.tuple ds) ∧ SeqAt.shaped d = true ∧ SeqAt.shaped (.tuple ds) = true ∧ Q (.bl (ds.any fun z => PyData.eqv z d)) H
theorem op_inDT {X : Cx} (hu : X.A.units + 65 < cLine) : OpR X (compareOp .In) (rInDT X.K) := by
  intro pins s σ H x y v u Q I rx ry ⟨d, ds, hd, he, sd, se, q⟩
  obtain ⟨as, r1⟩ := Dp.reads I d x v hd rx
  obtain ⟨bs, r2⟩ := Dp.reads I (.tuple ds) y u he ry
  exact SeqAt.in_tuple_reads r2 r1 (SeqAt.canLay_of_shaped se) (SeqAt.canLay_of_shaped sd) (room_in_shaped sd hu) ⟨.bl _, H, I, rfl, q⟩
end L2

set_option maxHeartbeats 4000000
namespace Gen
open PySem PySem.Spec PyProof.Rows L2
def rLenQ (K : PySem.W.Frag) : List V → Hp → VK → Prop := fun xs H Q => ∃ p ys, xs = [.ref p] ∧ (SqL K H p ys ∨ SqT K H p ys) ∧ Q (.int ys.length) H
theorem iteB {b : Bool} {A B : Prop} (h1 : b = true → A) (h2 : b = false → B) : if b = true then A else B := by
  cases b
  · rw [if_neg Bool.false_ne_true]; exact h2 rfl
  · rw [if_pos rfl]; exact h1 rfl
theorem le1000 {n : Nat} (h : n ≤ 1000) : n ≤ sizeLine := Nat.le_of_lt (small1000 h)
theorem dT {p : Prop} [Decidable p] (h : decide p = true) : p := of_decide_eq_true h
theorem dF {p : Prop} [Decidable p] (h : decide p = false) : ¬ p := of_decide_eq_false h
theorem iteY {b : Bool} {A B : Prop} (e : b = true) (h : A) : if b = true then A else B := by rw [if_pos e]; exact h
theorem iteN {b : Bool} {A B : Prop} (e : b = false) (h : B) : if b = true then A else B := by rw [if_neg (by rw [e]; exact Bool.false_ne_true)]; exact h
theorem DT.one_inv {H : Hp} {v : V} {a : PyData} (h : DT H v (.tuple [a])) : ∃ p x, v = .ref p ∧ H p = some (.tup [x]) ∧ DT H x a := by
  obtain ⟨p, xs, rfl, hp, t⟩ := h.tup_inv
  obtain ⟨x, ws, rfl, h1, t⟩ := t.cons_inv
  rw [t.nil_inv] at hp
  exact ⟨p, x, rfl, hp, h1⟩
theorem DT.two_inv {H : Hp} {v : V} {a b : PyData} (h : DT H v (.tuple [a, b])) : ∃ p x y, v = .ref p ∧ H p = some (.tup [x, y]) ∧ DT H x a ∧ DT H y b := by
  obtain ⟨p, xs, rfl, hp, t⟩ := h.tup_inv
  obtain ⟨x, ws, rfl, h1, t⟩ := t.cons_inv
  obtain ⟨y, ws, rfl, h2, t⟩ := t.cons_inv
  rw [t.nil_inv] at hp
  exact ⟨p, x, y, rfl, hp, h1, h2⟩
theorem DT.three_inv {H : Hp} {v : V} {a b c : PyData} (h : DT H v (.tuple [a, b, c])) : ∃ p x y z, v = .ref p ∧ H p = some (.tup [x, y, z]) ∧ DT H x a ∧ DT H y b ∧ DT H z c := by
  obtain ⟨p, xs, rfl, hp, t⟩ := h.tup_inv
  obtain ⟨x, ws, rfl, h1, t⟩ := t.cons_inv
  obtain ⟨y, ws, rfl, h2, t⟩ := t.cons_inv
  obtain ⟨z, ws, rfl, h3, t⟩ := t.cons_inv
  rw [t.nil_inv] at hp
  exact ⟨p, x, y, z, rfl, hp, h1, h2, h3⟩
theorem DT.four_inv {H : Hp} {v : V} {a b c d : PyData} (h : DT H v (.tuple [a, b, c, d])) : ∃ p x y z u, v = .ref p ∧ H p = some (.tup [x, y, z, u]) ∧ DT H x a ∧ DT H y b ∧ DT H z c ∧ DT H u d := by
  obtain ⟨p, xs, rfl, hp, t⟩ := h.tup_inv
  obtain ⟨x, ws, rfl, h1, t⟩ := t.cons_inv
  obtain ⟨y, ws, rfl, h2, t⟩ := t.cons_inv
  obtain ⟨z, ws, rfl, h3, t⟩ := t.cons_inv
  obtain ⟨u, ws, rfl, h4, t⟩ := t.cons_inv
  rw [t.nil_inv] at hp
  exact ⟨p, x, y, z, u, rfl, hp, h1, h2, h3, h4⟩
theorem DT.int_inv {H : Hp} {v : V} {x : Int} (h : DT H v (.int x)) : v = .int x := by
  cases h
  rfl
theorem Same.dt {H H' : Hp} (s : Same H H') {v : V} {d : PyData} (h : DT H v d) : DT H' v d := h.keep (Same.tups s)
theorem Same.dts {H H' : Hp} (s : Same H H') {v : List V} {d : List PyData} (h : DTs H v d) : DTs H' v d := h.keep (Same.tups s)
theorem strEq {a b : Str} : decide (V.str a = V.str b) = decide (a = b) := by
  by_cases c : a = b
  · subst c; simp
  · rw [decide_eq_false c, decide_eq_false (fun z => c (by injection z))]
section
variable {X : Cx} {K : PySem.W.Frag} {T id : String} {name : Str} {r : V → List V → Hp → VK → Prop} {o e : Expr} {es : List Expr} {to : TE} {t : TA} {apos cpos : Pos}
theorem pe_bm0K (hK : X.K = K) (pa : PlainAttrs T) (slot : Slot T name id) (hty : typeOf (.builtin id) = pure (.type "method_descriptor")) (hm : MtR X id r) (ho : PE X o to)
    (hbase : attributeBase o name X.env (eval o X.env) = eval o X.env := by rfl) (hline : (apos.endLine == cpos.line) = true := by rfl) : PE X (.Call (.Attribute o name apos) [] [] cpos) (tBM0 K T r to) := by
  subst hK
  exact pe_bm0 pa slot hty hm ho hbase hline
theorem pe_bmK (hK : X.K = K) (pa : PlainAttrs T) (slot : Slot T name id) (hty : typeOf (.builtin id) = pure (.type "method_descriptor")) (hm : MtR X id r) (ho : PE X o to) (ha : PA X (e :: es) t)
    (hbase : attributeBase o name X.env (eval o X.env) = eval o X.env := by rfl)
    (hfew : ((backTo cpos (starEach (e :: es) X.env)).all (fun x => !x.1) && (backToKw cpos (keywordEach [] X.env)).all (fun x => x.1.isSome)
      && decide ((e :: es).length + ([] : List Keyword).length + (if ([] : List Keyword).isEmpty then 0 else 1) < 30)) = true := by rfl)
    (hline : (apos.endLine == cpos.line) = true := by rfl) (hs : starEach (e :: es) X.env = (false, eval e X.env) :: starEach es X.env := by rfl) (hplain : (backTo cpos (starEach es X.env)).any (·.1) = false := by rfl) :
    PE X (.Call (.Attribute o name apos) (e :: es) [] cpos) (tBM K T r to t) := by
  subst hK
  exact pe_bm pa slot hty hm ho ha hbase hfew hline hs hplain
end
end Gen

set_option maxHeartbeats 8000000
namespace Wood
open PySem PySem.Spec PyProof.Rows L2 Gen
def top (i : Nat) : Stmt := PySem.Challenge.pw_relatedrights_k36_whole_trees_asked.main.body.getD i (.Pass ⟨0, 0, 0, 0⟩)
local macro_rules | `(tactic| walk_at "sz") => `(tactic| first | assumption | omega | (simp only [List.length_map, List.length_append, List.length_cons, List.length_nil, List.length_reverse] at *; omega))
local macro_rules | `(tactic| walk_at "hq") => `(tactic| first | assumption | exact upd_same | (refine same_new (by assumption) _ _ ?_; walk_at "hq") | (refine (show Same _ _ by assumption) _ _ ?_; walk_at "hq") | (refine (upd_ne (by assumption)).trans ?_; walk_at "hq"))
local macro_rules | `(tactic| walk_at "ty") => `(tactic| first | exact .base (.int _) | exact .base (.str _) | exact .base (.bl _) | exact .base .non | (apply TyX.base; apply TyOf.tup; walk_at "hq") | (apply TyX.base; apply TyOf.lst; walk_at "hq"))
local macro_rules | `(tactic| walk_at "dt") => `(tactic| first | assumption | exact DT.str _ | exact DT.int _ | exact DT.bl _ | exact DT.non | (refine Same.dt (same_new (by assumption)) ?_; walk_at "dt") | (refine Same.dt (by assumption) ?_; walk_at "dt"))
local macro_rules | `(tactic| walk_at "at") => `(tactic| first | with_reducible rfl | rfl | assumption | (show _ = some _; walk_at "hq") | (apply SqT.of; walk_at "hq") | (apply SqL.of; walk_at "hq") | (apply Or.inl; apply SqL.of; walk_at "hq") | (apply Or.inr; apply SqT.of; walk_at "hq") | (apply Or.inl; apply SqT.of; walk_at "hq") | (apply Or.inr; apply SqL.of; walk_at "hq") | exact atI_nat (j := 0) rfl | exact atI_nat (j := 1) rfl | exact atI_nat (j := 2) rfl | exact atI_nat (j := 3) rfl | exact .ty _ | exact .int _ | exact .str _ | exact .bl _ | exact ClsV.ty _ | walk_at "ty" | exact kit_ty (by decide +kernel) | exact True.intro | (show tyV _ _ _ _; exact .inl ⟨rfl, _, SqL.of (by walk_at "hq")⟩) | (show TruV _ _ _ _; first | exact .inl ⟨_, SqL.of (by walk_at "hq"), rfl⟩ | exact .inr (.inl ⟨_, SqT.of (by walk_at "hq"), rfl⟩)) | (show DT _ _ _; walk_at "dt") | (apply DT.dp; walk_at "dt") | (apply Exists.intro; apply SqT.of; walk_at "hq") | (apply Exists.intro; apply SqL.of; walk_at "hq") | (show _ ≤ sizeLine; decide) | omega | (refine small1000 ?_; walk_at "sz") | (refine le1000 ?_; walk_at "sz"))
local macro_rules | `(tactic| walk_at "ite") => `(tactic| refine iteB (fun c => ?_) (fun c => ?_))
local macro_rules | `(tactic| walk_at "st") => `(tactic| first | (apply Exists.intro) | (apply And.intro; focus (walk_at "at"; done)) | (refine iteT ?_) | (refine iteF ?_) | (refine iteY (by assumption) ?_) | (refine iteN (by assumption) ?_) | (refine iteY (decide_eq_true (by first | assumption | omega)) ?_) | (refine iteN (decide_eq_false (by first | assumption | omega)) ?_))
local macro_rules | `(tactic| walk_at "rd") => `(tactic| repeat (walk_at "st"))
abbrev S_is_name : Stmt := top 6
theorem sc_is_name : FnScope ["value"] ["value"] (defScope S_is_name) := ⟨rfl, rfl, rfl, by decide +kernel, rfl, by decide +kernel, by decide +kernel⟩
/-- is it a name -/
def nameB (x : Str) : Bool := decide (x.length ≤ 8) && (Txt.isascii x && (Txt.isalpha x && Txt.islower x))
def spName : Sp := fun vs H Q _ => ∃ x : Str, vs = [.str x] ∧ x.length ≤ 1000 ∧ Q (.bl (nameB x)) H
section
variable {P : Program} {w : World} {K : PySem.W.Frag} {mg : Str → Option Value} {base : Heap}
theorem ok_is_name  {f : Addr} {fd : FuncData} (F : Fun K "is_name" "is_name" S_is_name f fd) (m_isinstance : mg "isinstance" = none) (m_str : mg "str" = none) (m_len : mg "len" = none) {t_LONGEST_NAME : Tok} (m_LONGEST_NAME : mg "LONGEST_NAME" = some (.int (8) t_LONGEST_NAME))  : FnOk P w K mg base CX0 1 f fd ["value"] spName := by
  refine F.ok sc_is_name (fun vs H Q E h => ?_) (fun cdv A outer s H vs Q E hr h => ?_)
  · obtain ⟨x, rfl, _⟩ := h; rfl
  · obtain ⟨x, rfl, hl, q⟩ := h
    refine ⟨_, pss_cons (ps_if (PW.pt (pw_or (pt_not (pt_val (pe_callB (r := rIsi K) (call_isi) (by rfl) m_isinstance (by decide +kernel) (pa_cons (pv 0) (pa_cons (pe_bltn (v := .ty "str") (by rfl) m_str (by decide +kernel) rfl) pa_nil))))) (pw_or1 (pt_cmpR op_gt (pe_callB (call_len_str) (by rfl) m_len PySem.boot_len (pa_cons (pv 0) pa_nil)) (pe_glob (v := .int (8)) rfl m_LONGEST_NAME ⟨_, rfl⟩) (nomark _)))))
        (pss_one (ps_ret (pe_bl)))
        (pss_nil))
      (pss_one (ps_ret (pe_and (pe_bm0K (K := K) rfl PySem.F.plainAttrs_str PySem.F.slot_str_isascii PySem.F.type_str_isascii mt_isascii (pv 0)) (pe_and (pe_bm0K (K := K) rfl PySem.F.plainAttrs_str PySem.F.slot_str_isalpha PySem.F.type_str_isalpha mt_isalpha (pv 0)) (pe_one (pe_bm0K (K := K) rfl PySem.F.plainAttrs_str PySem.F.slot_str_islower PySem.F.type_str_islower mt_islower (pv 0))))))), ?_⟩
    walk_at "rd"
    refine iteB (fun c => ?_) (fun c => ?_)
    · walk_at "rd"
      rw [show nameB x = false by unfold nameB; rw [decide_eq_false (by have := dT c; omega)]; rfl] at q
      exact q
    · rw [show nameB x = (Txt.isascii x && (Txt.isalpha x && Txt.islower x)) by unfold nameB; rw [decide_eq_true (by have := dF c; omega)]; rfl] at q
      walk_at "rd"
      refine iteB (fun c => ?_) (fun c => ?_)
      · rw [c, Bool.true_and] at q
        walk_at "rd"
        refine iteB (fun c => ?_) (fun c => ?_)
        · rw [c, Bool.true_and] at q
          walk_at "rd"
          exact q
        · rw [c] at q
          exact q
      · rw [c] at q
        exact q
end

abbrev S_is_number : Stmt := top 7
theorem sc_is_number : FnScope ["value"] ["value"] (defScope S_is_number) := ⟨rfl, rfl, rfl, by decide +kernel, rfl, by decide +kernel, by decide +kernel⟩
def spNumber : Sp := fun vs H Q _ => ∃ i : Int, vs = [.int i] ∧ Q (.bl (decide (0 ≤ i))) H
section
variable {P : Program} {w : World} {K : PySem.W.Frag} {mg : Str → Option Value} {base : Heap}
theorem ok_is_number  {f : Addr} {fd : FuncData} (F : Fun K "is_number" "is_number" S_is_number f fd) (m_type : mg "type" = none) (m_int : mg "int" = none)  : FnOk P w K mg base CX0 1 f fd ["value"] spNumber := by
  refine F.ok sc_is_number (fun vs H Q E h => ?_) (fun cdv A outer s H vs Q E hr h => ?_)
  · obtain ⟨x, rfl, _⟩ := h; rfl
  · obtain ⟨i, rfl, q⟩ := h
    refine ⟨_, pss_one (ps_ret (pe_and (pe_cmpR op_isTy (pe_callTy RZ.call_type4 (by rfl) m_type (by decide +kernel) (pa_cons (pv 0) pa_nil)) (pe_bltn (v := .ty "int") (by rfl) m_int (by decide +kernel) rfl) (nomark _)) (pe_one (pe_cmpR op_ge (pv 0) (pe_int) (nomark _))))), ?_⟩
    walk_at "rd"
    exact q
end

abbrev S_is_named_pair : Stmt := top 12
theorem sc_is_named_pair : FnScope ["value"] ["value"] (defScope S_is_named_pair) := ⟨rfl, rfl, rfl, by decide +kernel, rfl, by decide +kernel, by decide +kernel⟩
def NmOK (k : Str) : Prop := nameB k = true
theorem NmOK.len {k : Str} (h : NmOK k) : k.length ≤ 1000 := by
  unfold NmOK nameB at h
  rw [Bool.and_eq_true] at h
  have := dT h.1
  omega
def SOK : Sb → Prop
  | .one k n => NmOK k ∧ 0 ≤ n
  | .all k => NmOK k
def spPair : Sp := fun vs H Q _ => ∃ v k n, vs = [v] ∧ DT H v (obj k n) ∧ NmOK k ∧ 0 ≤ n ∧ Q (.bl true) H
section
variable {P : Program} {w : World} {K : PySem.W.Frag} {mg : Str → Option Value} {base : Heap}
theorem ok_is_named_pair  {f : Addr} {fd : FuncData} (F : Fun K "is_named_pair" "is_named_pair" S_is_named_pair f fd) (m_isinstance : mg "isinstance" = none) (m_tuple : mg "tuple" = none) (m_len : mg "len" = none) {f_is_name : Addr} {fd_is_name : FuncData} (G_is_name : FnOk P w K mg base CX0 1 f_is_name fd_is_name ["value"] spName) (g_is_name : mg "is_name" = some (.ref f_is_name)) (k_is_name : PySem.W.keepIn K (.ref f_is_name) = true) (b_is_name : Binds K fd_is_name ["value"] []) {f_is_number : Addr} {fd_is_number : FuncData} (G_is_number : FnOk P w K mg base CX0 1 f_is_number fd_is_number ["value"] spNumber) (g_is_number : mg "is_number" = some (.ref f_is_number)) (k_is_number : PySem.W.keepIn K (.ref f_is_number) = true) (b_is_number : Binds K fd_is_number ["value"] [])  : FnOk P w K mg base CX0 2 f fd ["value"] spPair := by
  refine F.ok sc_is_named_pair (fun vs H Q E h => ?_) (fun cdv A outer s H vs Q E hr h => ?_)
  · obtain ⟨x, _, _, rfl, _⟩ := h; rfl
  · obtain ⟨v, k, n, rfl, hv, hk, hn, q⟩ := h
    refine ⟨_, pss_one (ps_ret (pe_and (pe_callB (r := rIsi K) (call_isi) (by rfl) m_isinstance (by decide +kernel) (pa_cons (pv 0) (pa_cons (pe_bltn (v := .ty "tuple") (by rfl) m_tuple (by decide +kernel) rfl) pa_nil))) (pe_and (pe_cmpR op_eq (pe_callB (r := rLenQ K) (call_len_seq) (by rfl) m_len PySem.boot_len (pa_cons (pv 0) pa_nil)) (pe_int) (nomark _)) (pe_and (pe_call G_is_name (hr.mono (by decide)) (by rfl) g_is_name k_is_name b_is_name .nil pass0 (pa_cons (pe_ix (r := rIxT K) ix_tup (pv 0) (pe_int) (fun _ _ => rfl)) pa_nil)) (pe_one (pe_call G_is_number (hr.mono (by decide)) (by rfl) g_is_number k_is_number b_is_number .nil pass0 (pa_cons (pe_ix (r := rIxT K) ix_tup (pv 0) (pe_int) (fun _ _ => rfl)) pa_nil))))))), ?_⟩
    obtain ⟨p, x, y, rfl, hp, hx, hy⟩ := hv.two_inv
    obtain rfl := hx.str_inv
    obtain rfl := hy.int_inv
    have e : decide (0 ≤ n) = true := decide_eq_true hn
    have e2 : nameB k = true := hk
    have hl := NmOK.len hk
    walk_at "rd"
    rw [e]
    exact q
end

abbrev S_is_subject : Stmt := top 11
theorem sc_is_subject : FnScope ["value"] ["value"] (defScope S_is_subject) := ⟨rfl, rfl, rfl, by decide +kernel, rfl, by decide +kernel, by decide +kernel⟩
def spSubject : Sp := fun vs H Q _ => ∃ v d, vs = [v] ∧ DT H v d.data ∧ SOK d ∧ Q (.bl true) H
section
variable {P : Program} {w : World} {K : PySem.W.Frag} {mg : Str → Option Value} {base : Heap}
theorem ok_is_subject  {f : Addr} {fd : FuncData} (F : Fun K "is_subject" "is_subject" S_is_subject f fd) (m_isinstance : mg "isinstance" = none) (m_tuple : mg "tuple" = none) (m_len : mg "len" = none) (m_str : mg "str" = none) {f_is_name : Addr} {fd_is_name : FuncData} (G_is_name : FnOk P w K mg base CX0 1 f_is_name fd_is_name ["value"] spName) (g_is_name : mg "is_name" = some (.ref f_is_name)) (k_is_name : PySem.W.keepIn K (.ref f_is_name) = true) (b_is_name : Binds K fd_is_name ["value"] []) {f_is_named_pair : Addr} {fd_is_named_pair : FuncData} (G_is_named_pair : FnOk P w K mg base CX0 2 f_is_named_pair fd_is_named_pair ["value"] spPair) (g_is_named_pair : mg "is_named_pair" = some (.ref f_is_named_pair)) (k_is_named_pair : PySem.W.keepIn K (.ref f_is_named_pair) = true) (b_is_named_pair : Binds K fd_is_named_pair ["value"] [])  : FnOk P w K mg base CX0 3 f fd ["value"] spSubject := by
  refine F.ok sc_is_subject (fun vs H Q E h => ?_) (fun cdv A outer s H vs Q E hr h => ?_)
  · obtain ⟨x, _, rfl, _⟩ := h; rfl
  · obtain ⟨v, d, rfl, hv, ok, q⟩ := h
    refine ⟨_, pss_cons (ps_if (PW.pt (pw_or (pt_not (pt_val (pe_callB (r := rIsi K) (call_isi) (by rfl) m_isinstance (by decide +kernel) (pa_cons (pv 0) (pa_cons (pe_bltn (v := .ty "tuple") (by rfl) m_tuple (by decide +kernel) rfl) pa_nil))))) (pw_or (pt_cmpR op_ne (pe_callB (r := rLenQ K) (call_len_seq) (by rfl) m_len PySem.boot_len (pa_cons (pv 0) pa_nil)) (pe_int) (nomark _)) (pw_or1 (pt_not (pt_val (pe_callB (r := rIsi K) (call_isi) (by rfl) m_isinstance (by decide +kernel) (pa_cons (pe_ix (r := rIxT K) ix_tup (pv 0) (pe_int) (fun _ _ => rfl)) (pa_cons (pe_bltn (v := .ty "str") (by rfl) m_str (by decide +kernel) rfl) pa_nil)))))))))
        (pss_one (ps_ret (pe_bl)))
        (pss_nil))
      (pss_cons (ps_if (pt_cmpR op_eq (pe_ix (r := rIxT K) ix_tup (pv 0) (pe_int) (fun _ _ => rfl)) (pe_str) (nomark _))
        (pss_one (ps_ret (pe_call G_is_name (hr.mono (by decide)) (by rfl) g_is_name k_is_name b_is_name .nil pass0 (pa_cons (pe_ix (r := rIxT K) ix_tup (pv 0) (pe_int) (fun _ _ => rfl)) pa_nil))))
        (pss_nil))
      (pss_one (ps_ret (pe_and (pe_cmpR op_eq (pe_ix (r := rIxT K) ix_tup (pv 0) (pe_int) (fun _ _ => rfl)) (pe_str) (nomark _)) (pe_one (pe_call G_is_named_pair (hr.mono (by decide)) (by rfl) g_is_named_pair k_is_named_pair b_is_named_pair .nil pass0 (pa_cons (pe_ix (r := rIxT K) ix_tup (pv 0) (pe_int) (fun _ _ => rfl)) pa_nil))))))), ?_⟩
    cases d with
    | one k n =>
      obtain ⟨p, x, y, rfl, hp, hx, hy⟩ := hv.two_inv
      obtain rfl := hx.str_inv
      obtain ⟨o1, o2⟩ := ok
      walk_at "rd"
      exact q
    | all k =>
      obtain ⟨p, x, y, rfl, hp, hx, hy⟩ := hv.two_inv
      obtain rfl := hx.str_inv
      obtain rfl := hy.str_inv
      have hl := NmOK.len ok
      have e2 : nameB k = true := ok
      walk_at "rd"
      rw [e2]
      exact q
end

end Wood

set_option maxHeartbeats 4000000
/-! Dicts whose keys are tuples of any depth (texts, ints, None, tuples), over the layer: {} , d[k], k in d, d[k] = v, get, setdefault, len. -/
namespace L2
open PySem PySem.Spec PyProof.Rows
mutual
/-- the value v is the key k -/
inductive NK (H : Hp) : NestedKey → V → Prop
  | non : NK H .none .non
  | int (i : Int) : NK H (.num i) (.int i)
  | txt (x : Str) : NK H (.text x) (.str x)
  | tup {a : Addr} {vs : List V} {ks : List NestedKey} : H a = some (.tup vs) → NKs H ks vs → NK H (.tup ks) (.ref a)
inductive NKs (H : Hp) : List NestedKey → List V → Prop
  | nil : NKs H [] []
  | cons {k : NestedKey} {v : V} {ks : List NestedKey} {vs : List V} : NK H k v → NKs H ks vs → NKs H (k :: ks) (v :: vs)
end
mutual
theorem NK.keep {H H' : Hp} (s : ∀ a xs, H a = some (.tup xs) → H' a = some (.tup xs)) : ∀ {k : NestedKey} {v : V}, NK H k v → NK H' k v
  | _, _, .non => .non
  | _, _, .int i => .int i
  | _, _, .txt x => .txt x
  | _, _, .tup h t => .tup (s _ _ h) (NKs.keep s t)
theorem NKs.keep {H H' : Hp} (s : ∀ a xs, H a = some (.tup xs) → H' a = some (.tup xs)) : ∀ {ks : List NestedKey} {vs : List V}, NKs H ks vs → NKs H' ks vs
  | _, _, .nil => .nil
  | _, _, .cons h t => .cons (NK.keep s h) (NKs.keep s t)
end
section
variable {P : Program} {w : World} {H : Hp} {h : Heap}
mutual
theorem NK.is (ok : HOk P w H h) : ∀ {k : NestedKey} {v : V} {u : Value}, NK H k v → RelV v u → NestedIs h k u
  | _, _, u, .non, r => by obtain rfl : u = Value.none := r; exact .none
  | _, _, u, .int i, r => by obtain ⟨t, rfl⟩ := r; exact .int i t
  | _, _, u, .txt x, r => by obtain ⟨t, rfl⟩ := r; exact .text x t
  | _, _, u, .tup (a := a) (vs := vs) e t, r => by
    obtain rfl : u = Value.ref a := r
    obtain ⟨_, its, r, o, h1, h2, n, h3⟩ := (show ObjOk P w H h a (.tup vs) from ok a _ e)
    exact .tup h1 h2 h3 (by simpa using NKs.are ok t r)
theorem NKs.are (ok : HOk P w H h) : ∀ {ks : List NestedKey} {vs : List V} {us : List Value}, NKs H ks vs → Vals vs us → NestedAll h ks us
  | _, _, _, .nil, r => by cases r; exact .nil
  | _, _, _, .cons a t, r => by
    cases r with
    | cons r1 r2 => exact .cons (NK.is ok a r1) (NKs.are ok t r2)
end
end
/-- the entries at d -/
def NdObj (P : Program) (w : World) (d : Addr) (xs : List (NestedKey × Addr × Value)) : Heap → Prop := fun h =>
  ∃ o es ep, h.get? d = some o ∧ o.ExactDict ∧ o.data = .dict es ep ∧ es.toList = xs.map (entryOfKey (nestedKind P w)) ∧ (xs.map (·.1)).Nodup
theorem NdObj.at {P : Program} {w : World} {d : Addr} {xs : List (NestedKey × Addr × Value)} {h h' : Heap} (x : NdObj P w d xs h) (k : ∀ o, h.get? d = some o → h'.get? d = some o) : NdObj P w d xs h' := by
  obtain ⟨o, es, ep, h1, h2⟩ := x
  exact ⟨o, es, ep, k o h1, h2⟩
abbrev NT (H : Hp) : List (NestedKey × V) → List (NestedKey × Addr × Value) → Prop := Paired fun p q => p.1 = q.1 ∧ (p.1.depth ≤ 8 ∧ NK H p.1 (.ref q.2.1)) ∧ RelV p.2 q.2.2
/-- a dict with the keys and values kvs, in order -/
def ND (P : Program) (w : World) (H : Hp) (d : Addr) (kvs : List (NestedKey × V)) : Prop :=
  (d == sysModules) = false ∧ kvs.length ≤ sizeLine ∧ ∃ xs, NT H kvs xs ∧ H d = some (.ext (NdObj P w d xs))
theorem NT.val {H : Hp} {kvs : List (NestedKey × V)} {xs : List (NestedKey × Addr × Value)} (r : NT H kvs xs) (k : NestedKey) : RelO (valV kvs k) ((atKey xs k).map (·.2)) := by
  induction r with
  | nil => exact True.intro
  | @cons p q ps qs h t ih =>
    obtain ⟨h1, _, h2⟩ := h
    by_cases e : p.1 = k
    · have e' : q.1 = k := h1.symm.trans e
      have b : atKey (q :: qs) k = some q.2 := by simp [atKey, List.find?_cons, e']
      rw [valV_pos e, b]; exact h2
    · have e' : ¬ q.1 = k := fun z => e (h1.trans z)
      have b : atKey (q :: qs) k = atKey qs k := by simp [atKey, List.find?_cons, e']
      rw [valV_neg e, b]; exact ih
theorem NT.repl {H : Hp} {kvs : List (NestedKey × V)} {xs : List (NestedKey × Addr × Value)} (r : NT H kvs xs) (k : NestedKey) {y : V} {u : Value} (ry : RelV y u) :
    NT H (kvs.map fun kv => if kv.1 = k then (kv.1, y) else kv) (xs.map (putAt k u)) := by
  induction r with
  | nil => exact .nil
  | @cons p q ps qs h t ih =>
    rw [List.map_cons, List.map_cons]
    refine .cons ?_ ih
    obtain ⟨h1, h2, h3⟩ := h
    unfold putAt
    by_cases e : p.1 = k
    · rw [if_pos e, if_pos (h1.symm.trans e)]; exact ⟨h1, h2, ry⟩
    · rw [if_neg e, if_neg (fun z => e (h1.trans z))]; exact ⟨h1, h2, h3⟩
theorem NT.put {H : Hp} {kvs : List (NestedKey × V)} {xs : List (NestedKey × Addr × Value)} (r : NT H kvs xs) {k : NestedKey} {b : Addr} {y : V} {u : Value} (hd : k.depth ≤ 8) (hb : NK H k (.ref b)) (ry : RelV y u) :
    NT H (putK kvs k y) (storedH xs k b u) := by
  have e : (kvs.any fun kv => decide (kv.1 = k)) = (atKey xs k).isSome := by
    rw [valV_any, (r.val k).isSome_eq, Option.isSome_map]
  unfold putK storedH
  rw [e]
  by_cases q : (atKey xs k).isSome = true
  · rw [if_pos q, if_pos q]; exact r.repl k ry
  · rw [if_neg q, if_neg q]; exact Paired.snoc r ⟨rfl, ⟨hd, hb⟩, ry⟩
theorem NT.keeps {H H' : Hp} {kvs : List (NestedKey × V)} {xs : List (NestedKey × Addr × Value)} (r : NT H kvs xs) (ht : ∀ b ys, H b = some (.tup ys) → H' b = some (.tup ys)) : NT H' kvs xs :=
  Paired.mapP r fun _ _ z => ⟨z.1, ⟨z.2.1.1, z.2.1.2.keep ht⟩, z.2.2⟩
theorem ND.keep {P : Program} {w : World} {H H' : Hp} {d : Addr} {kvs : List (NestedKey × V)} (x : ND P w H d kvs) (e : ∀ o, H d = some o → H' d = some o) (ht : ∀ b ys, H b = some (.tup ys) → H' b = some (.tup ys)) : ND P w H' d kvs := by
  obtain ⟨a, b, xs, c, o⟩ := x
  exact ⟨a, b, xs, c.keeps ht, e _ o⟩
theorem ND.there {P : Program} {w : World} {H : Hp} {d : Addr} {kvs : List (NestedKey × V)} (x : ND P w H d kvs) : ∃ φ, H d = some (.ext φ) := by
  obtain ⟨_, _, xs, _, e⟩ := x
  exact ⟨_, e⟩
section
variable {P : Program} {w : World} {H : Hp} {h : Heap} {d : Addr} {kvs : List (NestedKey × V)}
theorem nd_of (ok : HOk P w H h) (x : ND P w H d kvs) : (d == sysModules) = false ∧ kvs.length ≤ sizeLine ∧ ∃ xs, NT H kvs xs ∧ H d = some (.ext (NdObj P w d xs)) ∧ h.DictOfH (nestedKind P w) d xs := by
  obtain ⟨a, b, xs, c, e⟩ := x
  refine ⟨a, b, xs, c, e, ?_⟩
  obtain ⟨⟨o, es, ep, h1, h2, h3, h4, h5⟩, _, _⟩ := (show ObjOk P w H h d (.ext (NdObj P w d xs)) from ok d _ e)
  refine ⟨o, es, ep, h1, h2, h3, h4, fun x hx => ?_, h5⟩
  have all : ∀ {l : List (NestedKey × V)} {m : List (NestedKey × Addr × Value)}, NT H l m → ∀ x ∈ m, (nestedKind P w).is h x.1 x.2.1 := by
    intro l m q
    induction q with
    | nil => intro x hx; exact nomatch hx
    | @cons p q ps qs hq t ih =>
      intro x hx
      rcases List.mem_cons.mp hx with e | hx
      · subst e
        exact ⟨NK.is ok (v := .ref x.2.1) (u := .ref x.2.1) (hq.1 ▸ hq.2.1.2) rfl, hq.1 ▸ hq.2.1.1⟩
      · exact ih x hx
  exact all c x hx
end
section
variable {X : Cx} {pins : List (Addr × Obj)} {σ : St} {H : Hp} {s : Shared} {a : Addr} {kvs : List (NestedKey × V)} {k : NestedKey} {y v : V} {u r : Value} {A : Around} {E : Value → Shared → Prop}
theorem NK.ref {H : Hp} {ks : List NestedKey} {y : V} (h : NK H (.tup ks) y) : ∃ b, y = .ref b := by
  cases h with
  | tup _ _ => exact ⟨_, rfl⟩
/-- what stands for a key of a dict: a tuple, not too deep -/
def KeyN (H : Hp) (k : NestedKey) (y : V) : Prop := k.depth ≤ 8 ∧ ∃ b, y = .ref b ∧ NK H k (.ref b)
theorem KeyN.is {h : Heap} {P : Program} {w : World} {b : Addr} (ok : HOk P w H h) (x : KeyN H k (.ref b)) : (nestedKind P w).is h k b := by
  obtain ⟨d, c, e, n⟩ := x
  cases e
  exact ⟨NK.is ok (v := .ref b) (u := .ref b) n rfl, d⟩
theorem nd_getItem {Q : Value → Shared → Prop} (hu : A.units + 9 < cLine) (I : Inv X pins σ H s) (g : ND X.prog X.w H a kvs) (hk : KeyN H k y) (hv : valV kvs k = some v) (ry : RelV y u) (h : ∀ w' s', Inv X pins σ H s' → RelV v w' → Q w' s') :
    wpAny (model X.prog X.w) A (getItem (.ref a) u) Q E s := by
  obtain ⟨b, rfl, _⟩ := id hk.2
  cases (show u = Value.ref b from ry)
  obtain ⟨hd, z, xs, rel, e, dd⟩ := nd_of I.hok g
  obtain ⟨w', hw, rw'⟩ := RelO.some_of (v := v) (o := (atKey xs k).map (·.2)) (by rw [← hv]; exact rel.val k)
  obtain ⟨p, hp, hp2⟩ := Option.map_eq_some_iff.mp hw
  refine wpAny_getItem_heap (knd := nestedKind X.prog X.w) (show A.in1.units + 8 < cLine by show A.units + 1 + 8 < cLine; omega) (hk.is I.hok) dd hp ?_
  rw [hp2]
  exact h w' _ (I.tok _) rw'
theorem nd_in {Q : Value → Shared → Prop} (hu : A.units + 9 < cLine) (I : Inv X pins σ H s) (g : ND X.prog X.w H a kvs) (hk : KeyN H k y) (ry : RelV y u) (h : ∀ s', Inv X pins σ H s' → Q (.bool (valV kvs k).isSome) s') :
    wpAny (model X.prog X.w) A (compareOp .In u (.ref a)) Q E s := by
  obtain ⟨b, rfl, _⟩ := id hk.2
  cases (show u = Value.ref b from ry)
  obtain ⟨hd, z, xs, rel, e, dd⟩ := nd_of I.hok g
  refine wpAny_in_heap (knd := nestedKind X.prog X.w) (show A.in1.units + 8 < cLine by show A.units + 1 + 8 < cLine; omega) (hk.is I.hok) hd dd ?_
  have q := (rel.val k).isSome_eq
  rw [Option.isSome_map] at q
  rw [← q]
  exact h _ (I.tok _)
theorem nd_notIn {Q : Value → Shared → Prop} (hu : A.units + 9 < cLine) (I : Inv X pins σ H s) (g : ND X.prog X.w H a kvs) (hk : KeyN H k y) (ry : RelV y u) (h : ∀ s', Inv X pins σ H s' → Q (.bool (!(valV kvs k).isSome)) s') :
    wpAny (model X.prog X.w) A (compareOp .NotIn u (.ref a)) Q E s := by
  obtain ⟨b, rfl, _⟩ := id hk.2
  cases (show u = Value.ref b from ry)
  obtain ⟨hd, z, xs, rel, e, dd⟩ := nd_of I.hok g
  refine wpAny_notIn_heap (knd := nestedKind X.prog X.w) (show A.in1.units + 8 < cLine by show A.units + 1 + 8 < cLine; omega) (hk.is I.hok) hd dd ?_
  have q := (rel.val k).isSome_eq
  rw [Option.isSome_map] at q
  rw [← q]
  exact h _ (I.tok _)
/-- an entry is put: the tracked heap behind it -/
def NPut (P : Program) (w : World) (H : Hp) (a : Addr) (kvs : List (NestedKey × V)) (H' : Hp) : Prop := ∃ φ, H' = upd H a (.ext φ) ∧ ND P w H' a kvs
theorem nd_put {h' : Heap} {t' : Nat} {xs : List (NestedKey × Addr × Value)} {kvs' : List (NestedKey × V)} (I : Inv X pins σ H s) (g : ND X.prog X.w H a kvs) (rel : NT H kvs' xs) (l : kvs'.length ≤ sizeLine) (dd : h'.DictOfH (nestedKind X.prog X.w) a xs) (hs : Heap.SameBut a s.heap h') :
    ∃ H', NPut X.prog X.w H a kvs' H' ∧ Inv X pins σ H' { s with heap := h', toks := t' } := by
  obtain ⟨hd, z, xs0, rel0, e⟩ := id g
  obtain ⟨o, es, ep, h1, h2, h3, h4, _, h5⟩ := dd
  have new : NdObj X.prog X.w a xs h' := ⟨o, es, ep, h1, h2, h3, h4, h5⟩
  refine ⟨upd H a (.ext (NdObj X.prog X.w a xs)), ⟨_, rfl, hd, l, xs, rel.keeps fun c ys ec => ?_, upd_same⟩, ?_⟩
  · rw [upd_ne (ne_of ec e (fun z => nomatch z))]
    exact ec
  · exact d_write I (by rw [e]; exact True.intro) hs ⟨o, h1⟩ ⟨new, ⟨o, h1⟩, fun h1 h2 x k => x.at k⟩
theorem nd_setItem {Q : Unit → Shared → Prop} (hu : A.units + 9 < cLine) (I : Inv X pins σ H s) (g : ND X.prog X.w H a kvs) (hk : KeyN H k y) (hl : kvs.length < sizeLine) (ry : RelV y u) (rv : RelV v r)
    (h : ∀ H' s', NPut X.prog X.w H a (putK kvs k v) H' → Inv X pins σ H' s' → Q () s') : wpAny (model X.prog X.w) A (setItem (.ref a) u r) Q E s := by
  obtain ⟨b, rfl, hn⟩ := id hk.2
  cases (show u = Value.ref b from ry)
  obtain ⟨hd, z, xs, rel, e, dd⟩ := nd_of I.hok g
  have hz : xs.length ≤ sizeLine := by rw [← Paired.length rel]; exact z
  have hl' : (putK kvs k v).length ≤ sizeLine := by have := length_putK kvs k v; omega
  refine wpAny_setItem_heap (knd := nestedKind X.prog X.w) (hsz := hz) (show A.in1.units + 8 < cLine by show A.units + 1 + 8 < cLine; omega) (hk.is I.hok) dd fun h' dd' hs => ?_
  obtain ⟨H', n, I'⟩ := nd_put (t' := s.toks + (nestedKind X.prog X.w).draws k) I g (rel.put hk.1 hn rv) hl' dd' hs
  exact h H' _ n I'
theorem nd_get2 {Q : Value → Shared → Prop} {x : V} (hu : A.units + 9 < cLine) (I : Inv X pins σ H s) (g : ND X.prog X.w H a kvs) (hk : KeyN H k y) (ry : RelV y u) (rx : RelV x r) (h : ∀ w' s', Inv X pins σ H s' → RelV ((valV kvs k).getD x) w' → Q w' s') :
    wpAny (model X.prog X.w) A (call (.builtin "dict.get") [.ref a, u, r]) Q E s := by
  obtain ⟨b, rfl, _⟩ := id hk.2
  cases (show u = Value.ref b from ry)
  obtain ⟨hd, z, xs, rel, e, dd⟩ := nd_of I.hok g
  refine call_meetsIn PySem.F.slot_dict_get dd.typeIs PySem.F.entry_dict_get (PySem.F.args_dict_get_3 _ _ _) (meetsH_dict_get_default (nestedKind X.prog X.w) a b hd r) ⟨(show A.in1.units + 8 < cLine by show A.units + 1 + 8 < cLine; omega), k, xs, hk.is I.hok, dd, h _ _ (I.tok _) ?_⟩
  exact (rel.val k).getD rx
theorem nd_get1 {Q : Value → Shared → Prop} (hu : A.units + 9 < cLine) (I : Inv X pins σ H s) (g : ND X.prog X.w H a kvs) (hk : KeyN H k y) (ry : RelV y u) (h : ∀ w' s', Inv X pins σ H s' → RelV ((valV kvs k).getD .non) w' → Q w' s') :
    wpAny (model X.prog X.w) A (call (.builtin "dict.get") [.ref a, u]) Q E s := by
  obtain ⟨b, rfl, _⟩ := id hk.2
  cases (show u = Value.ref b from ry)
  obtain ⟨hd, z, xs, rel, e, dd⟩ := nd_of I.hok g
  refine call_meetsIn PySem.F.slot_dict_get dd.typeIs PySem.F.entry_dict_get (PySem.F.args_dict_get_2 _ _) (meetsH_dict_get (nestedKind X.prog X.w) a b hd) ⟨(show A.in1.units + 8 < cLine by show A.units + 1 + 8 < cLine; omega), k, xs, hk.is I.hok, dd, h _ _ (I.tok _) ?_⟩
  exact (rel.val k).getD rfl
theorem nd_setd {Q : Value → Shared → Prop} {x : V} (hu : A.units + 9 < cLine) (I : Inv X pins σ H s) (g : ND X.prog X.w H a kvs) (hk : KeyN H k y) (hl : kvs.length < sizeLine) (ry : RelV y u) (rx : RelV x r)
    (h1 : ∀ v, valV kvs k = some v → ∀ w' s', Inv X pins σ H s' → RelV v w' → Q w' s') (h2 : valV kvs k = none → ∀ H' w' s', NPut X.prog X.w H a (putK kvs k x) H' → Inv X pins σ H' s' → RelV x w' → Q w' s') :
    wpAny (model X.prog X.w) A (call (.builtin "dict.setdefault") [.ref a, u, r]) Q E s := by
  obtain ⟨b, rfl, hn⟩ := id hk.2
  cases (show u = Value.ref b from ry)
  obtain ⟨hd, z, xs, rel, e, dd⟩ := nd_of I.hok g
  have hz : xs.length ≤ sizeLine := by rw [← Paired.length rel]; exact z
  have hl' : (putK kvs k x).length ≤ sizeLine := by have := length_putK kvs k x; omega
  have rv := rel.val k
  refine call_setdefault_heap (knd := nestedKind X.prog X.w) (hsz := hz) (show A.in1.units + 8 < cLine by show A.units + 1 + 8 < cLine; omega) (hk.is I.hok) hd dd (fun p hp => ?_) fun hn' h' dd' hs => ?_
  · rw [hp] at rv
    cases c : valV kvs k with
    | none => rw [c] at rv; exact rv.elim
    | some v => rw [c] at rv; exact h1 v c _ _ (I.tok _) rv
  · rw [hn'] at rv
    cases c : valV kvs k with
    | some v => rw [c] at rv; exact rv.elim
    | none =>
      obtain ⟨H', n, I'⟩ := nd_put (t' := s.toks + (nestedKind X.prog X.w).draws k) I g (rel.put hk.1 hn rx) hl' dd' hs
      exact h2 c H' _ _ n I' rx
end
end L2

set_option maxHeartbeats 4000000
/-! Sets whose members are keys of any depth: what is asked of a member. -/
namespace L2
open PySem PySem.Spec PyProof.Rows
section
variable {P : Program} {w : World}
/-- a question that changes nothing, with an answer in B -/
def Asks (P : Program) (w : World) (m : Sem Bool) (s : Shared) (B : Bool → Prop) : Prop := ∀ (A : Around) (E : Value → Shared → Prop) (Q : Bool → Shared → Prop), (∀ b, B b → Q b s) → wpAny (model P w) A m Q E s
theorem Asks.pure {s : Shared} {B : Bool → Prop} {b : Bool} (h : B b) : Asks P w (Pure.pure b) s B := fun A E Q q => wpAny_pure (q b h)
theorem byval_tuple {n : Nat} {s : Shared} {a : Addr} {o : Obj} {vs : Array Value} {m : Nat} (ho : s.heap.get? a = some o) (hc : o.cls = .type "tuple") (hd : o.data = .seq vs m)
    (all : ∀ v ∈ vs.toList, Asks P w (hashByValue n v) s fun _ => True) : Asks P w (hashByValue (n + 1) (.ref a)) s fun _ => True := fun A E Q q => by
  have ty : s.TypeIs (.ref a) "tuple" := ⟨o, ho, hc⟩
  unfold hashByValue
  refine wpAny_bind (wpAny_specialOf ty F.slot_tuple_hash.lookup ?_)
  show wpAny _ _ (seqItems? (.ref a) >>= _) _ _ s
  refine wpAny_bind (wpAny_seqItems ho hd (wpAny_bind ?_))
  show wpAny _ _ (forIn vs _ _) _ _ s
  rw [← Array.forIn_toList]
  refine wpAny_forIn_list _ (fun left r s1 => (r.1 = none) ∧ s1 = s ∧ ∀ v ∈ left, Asks P w (hashByValue n v) s fun _ => True) _ ?_ ?_ _ _ ⟨rfl, rfl, all⟩
  · rintro v left r s1 ⟨e, rfl, rest⟩
    refine wpAny_bind (rest v List.mem_cons_self _ _ _ fun b _ => ?_)
    cases b
    · simp only [Bool.not_false, if_true]
      exact wpAny_pure (wpAny_pure (q false True.intro))
    · simp only [Bool.not_true, Bool.false_eq_true, if_false]
      exact wpAny_pure ⟨rfl, rfl, fun u hu => rest u (List.mem_cons_of_mem _ hu)⟩
  · rintro ⟨r1, r2⟩ s1 ⟨e, rfl, _⟩
    simp only at e
    subst e
    exact wpAny_pure (q true True.intro)
theorem clsst_tuple {n : Nat} {s : Shared} {a : Addr} {o : Obj} {vs : Array Value} {m : Nat} (ho : s.heap.get? a = some o) (hc : o.cls = .type "tuple") (hd : o.data = .seq vs m)
    (all : ∀ v ∈ vs.toList, Asks P w (ofAClassStatement n v) s (· = false)) : Asks P w (ofAClassStatement (n + 1) (.ref a)) s (· = false) := fun A E Q q => by
  have ty : s.TypeIs (.ref a) "tuple" := ⟨o, ho, hc⟩
  unfold ofAClassStatement
  refine wpAny_bind (wpAny_typeOf ty ?_)
  dsimp only
  rw [show (("tuple" : String) == "tuple") = true from rfl]
  simp only [if_true]
  try refine wpAny_bind (wpAny_pure ?_)
  try simp only [Bool.not_true, Bool.false_eq_true, if_false]
  show wpAny _ _ (seqItems? (.ref a) >>= _) _ _ s
  refine wpAny_bind (wpAny_seqItems ho hd ?_)
  dsimp only
  refine wpAny_bind ?_
  show wpAny _ _ (forIn vs _ _) _ _ s
  rw [← Array.forIn_toList]
  refine wpAny_forIn_list _ (fun left r s1 => (r.1 = none) ∧ s1 = s ∧ ∀ v ∈ left, Asks P w (ofAClassStatement n v) s (· = false)) _ ?_ ?_ _ _ ⟨rfl, rfl, all⟩
  · rintro v left r s1 ⟨e, rfl, rest⟩
    refine wpAny_bind (rest v List.mem_cons_self _ _ _ fun b hb => ?_)
    subst hb
    simp only [Bool.false_eq_true, if_false]
    exact wpAny_pure ⟨rfl, rfl, fun u hu => rest u (List.mem_cons_of_mem _ hu)⟩
  · rintro ⟨r1, r2⟩ s1 ⟨e, rfl, _⟩
    simp only at e
    subst e
    exact wpAny_pure (q false rfl)
mutual
theorem byval_key : ∀ (k : NestedKey) (v : Value) (n : Nat) (s : Shared), NestedIs s.heap k v → Asks P w (hashByValue n v) s fun _ => True
  | .none, _, n, s, x => by cases x; cases n <;> exact Asks.pure True.intro
  | .num i, _, n, s, x => by cases x <;> cases n <;> exact Asks.pure True.intro
  | .text y, _, n, s, x => by cases x; cases n <;> exact Asks.pure True.intro
  | .tup ks, _, 0, s, x => by
    cases x with
    | tup h1 h2 h3 h4 => exact Asks.pure True.intro
  | .tup ks, _, n + 1, s, x => by
    cases x with
    | tup h1 h2 h3 h4 => exact byval_tuple h1 h2 h3 (byval_keys ks _ n s h4)
theorem byval_keys : ∀ (ks : List NestedKey) (vs : List Value) (n : Nat) (s : Shared), NestedAll s.heap ks vs → ∀ v ∈ vs, Asks P w (hashByValue n v) s fun _ => True
  | [], _, n, s, x, v, hv => by cases x; cases hv
  | k :: ks, _, n, s, x, v, hv => by
    cases x with
    | cons x1 x2 =>
      rcases List.mem_cons.mp hv with rfl | hv
      · exact byval_key k _ n s x1
      · exact byval_keys ks _ n s x2 v hv
end
mutual
theorem clsst_key : ∀ (k : NestedKey) (v : Value) (n : Nat) (s : Shared), NestedIs s.heap k v → k.depth ≤ n → Asks P w (ofAClassStatement n v) s (· = false)
  | .none, _, n, s, x, _ => by cases x; cases n <;> exact Asks.pure rfl
  | .num i, _, n, s, x, _ => by cases x <;> cases n <;> exact Asks.pure rfl
  | .text y, _, n, s, x, _ => by cases x; cases n <;> exact Asks.pure rfl
  | .tup ks, _, 0, s, x, d => by
    simp only [NestedKey.depth] at d
    omega
  | .tup ks, _, n + 1, s, x, d => by
    simp only [NestedKey.depth] at d
    cases x with
    | tup h1 h2 h3 h4 => exact clsst_tuple h1 h2 h3 (clsst_keys ks _ n s h4 (by omega))
theorem clsst_keys : ∀ (ks : List NestedKey) (vs : List Value) (n : Nat) (s : Shared), NestedAll s.heap ks vs → NestedKey.depthAll ks ≤ n → ∀ v ∈ vs, Asks P w (ofAClassStatement n v) s (· = false)
  | [], _, n, s, x, _, v, hv => by cases x; cases hv
  | k :: ks, _, n, s, x, d, v, hv => by
    simp only [NestedKey.depthAll] at d
    cases x with
    | cons x1 x2 =>
      rcases List.mem_cons.mp hv with rfl | hv
      · exact clsst_key k _ n s x1 (by omega)
      · exact clsst_keys ks _ n s x2 (by omega) v hv
end
end
/-- a member: a tuple that is the key k -/
abbrev Mem (P : Program) (w : World) (h : Heap) (k : NestedKey) (b : Addr) : Prop := (nestedKind P w).is h k b
/-- comparing members is not seen -/
theorem seen_key {P : Program} {w : World} {A : Around} {E : Value → Shared → Prop} {s : Shared} {k : NestedKey} {b : Addr} {Q : Bool → Shared → Prop} (hk : Mem P w s.heap k b) {ys : List Value}
    (hy : ∀ y ∈ ys, ∃ j c, y = Value.ref c ∧ Mem P w s.heap j c) (q : Q false s) : wpAny (model P w) A (searchCouldBeSeen (.ref b) ys) Q E s := by
  unfold searchCouldBeSeen
  refine wpAny_bind (wpAny_forIn_list _ (fun left r s1 => (r.1 = none) ∧ s1 = s ∧ ∀ y ∈ left, ∃ j c, y = Value.ref c ∧ Mem P w s.heap j c) _ ?_ ?_ _ _ ⟨rfl, rfl, hy⟩)
  · rintro v left r s1 ⟨e, rfl, rest⟩
    obtain ⟨j, c, rfl, hc⟩ := rest v List.mem_cons_self
    have more : ∀ y ∈ left, ∃ j c, y = Value.ref c ∧ Mem P w s1.heap j c := fun u hu => rest u (List.mem_cons_of_mem _ hu)
    dsimp only
    by_cases very : (b == c || (carriedByValue (.ref b) && carriedByValue (.ref c))) = true
    · exact wp_if_pos very (wpAny_pure ⟨rfl, rfl, more⟩)
    · refine wp_if_neg very (wpAny_bind ((nestedKind P w).quiet hk ?_))
      simp only [Bool.not_true, Bool.false_eq_true, if_false]
      refine wpAny_bind ((nestedKind P w).quiet hc ?_)
      simp only [Bool.not_true, Bool.false_eq_true, if_false]
      refine wpAny_bind (clsst_key k _ 8 s1 hk.1 hk.2 _ _ _ fun x hx => ?_)
      subst hx
      simp only [Bool.false_eq_true, if_false]
      refine wpAny_bind (clsst_key j _ 8 s1 hc.1 hc.2 _ _ _ fun x hx => ?_)
      subst hx
      simp only [Bool.false_eq_true, if_false]
      exact wpAny_pure ⟨rfl, rfl, more⟩
  · rintro ⟨r1, r2⟩ s1 ⟨e, rfl, _⟩
    simp only at e
    subst e
    exact wpAny_pure q
end L2

set_option maxHeartbeats 4000000
/-! Sets whose members are keys of any depth: the table, searching, adding. -/
namespace L2
open PySem PySem.Spec PyProof.Rows
/-- the c-th step of a search for the hash z -/
abbrev stp (m : Nat) (z : Int) (c : Nat) : SetTable.Probe := nth m (runAt m (SetTable.bits z % (m + 1)) (SetTable.bits z)) c
theorem stp_way (m : Nat) (z : Int) (c : Nat) : (stp m z c).j = way m z c := rfl
theorem stp_more (m : Nat) (z : Int) (c q : Nat) : nth m (stp m z c) q = stp m z (c + q) := (nth_add m c _ q).symm
theorem stp_clean (m : Nat) (z : Int) (c : Nat) : (stp m z c).dummy = none := by
  have all : ∀ (n : Nat) (p : SetTable.Probe), p.dummy = none → (nth m p n).dummy = none := fun n => by
    induction n with
    | zero => exact fun p e => e
    | succ n ih =>
      refine fun p e => ih (adv m p) ?_
      unfold adv
      split
      · exact e
      · exact e
  exact all c _ rfl
/-- at a stands the set of the keys of L (their tuples beside them) -/
structure SetN (P : Program) (w : World) (h : Heap) (a : Addr) (L : List (Addr × NestedKey)) (es : Array (Int × Value)) (ep : Nat) (t : SetTable) : Prop where
  obj : ∃ o, h.get? a = some o ∧ o.ExactSet ∧ o.data = .set es ep t
  ents : es.toList = L.map fun p => (p.2.hash w, Value.ref p.1)
  tab : TabOk t (L.map fun p => p.2.hash w)
  one : (L.map (·.2)).Nodup
  mem : ∀ p ∈ L, Mem P w h p.2 p.1
  led : w.params.followText "set-order" = true ∨ t.led = true
  room : L.length * 5 < t.mask * 3
  few : L.length < 64
section
variable {P : Program} {w : World} {A : Around} {E : Value → Shared → Prop} {s : Shared} {a : Addr} {L : List (Addr × NestedKey)} {es : Array (Int × Value)} {ep : Nat} {t : SetTable}
theorem ents_size {L : List (Addr × NestedKey)} {es : Array (Int × Value)} (e : es.toList = L.map fun p => (p.2.hash w, Value.ref p.1)) : es.size = L.length := by
  rw [← Array.length_toList, e, List.length_map]
theorem ents_at {L : List (Addr × NestedKey)} {es : Array (Int × Value)} (e : es.toList = L.map fun p => (p.2.hash w, Value.ref p.1)) {i : Nat} {p : Addr × NestedKey} (hi : L[i]? = some p) : es[i]? = some (p.2.hash w, Value.ref p.1) := by
  rw [← Array.getElem?_toList, e, List.getElem?_map, hi]
  rfl
theorem SetN.fits (R : SetN P w s.heap a L es ep t) : t.fits es.size = true := by
  have l1 := R.tab.sz
  rw [List.length_map] at l1
  have l2 := ents_size R.ents
  have l3 := R.room
  unfold SetTable.fits SetTable.fill
  rw [R.tab.dm, Bool.and_eq_true, beq_iff_eq, decide_eq_true_eq]
  show t.place.size = es.size ∧ t.place.size + 0 ≤ t.mask
  omega
theorem SetN.stays (R : SetN P w s.heap a L es ep t) : ¬ t.gaveWay = true := by
  unfold SetTable.gaveWay
  rw [mask_odd R.tab.mok]
  decide
theorem SetN.place_lt (R : SetN P w s.heap a L es ep t) {i j : Nat} (e : t.place.toList[i]? = some j) : i < L.length := by
  have l1 := (List.getElem?_eq_some_iff.mp e).1
  rw [Array.length_toList, R.tab.sz, List.length_map] at l1
  exact l1
/-- the search, from its c-th step on -/
theorem find_key (R : SetN P w s.heap a L es ep t) {x : Addr} {k : NestedKey} (hx : Mem P w s.heap k x) (hu : A.units + 8 < cLine) {K : Nat} (KF : K < 10 * SetTable.turns t.mask)
    (free : way t.mask (k.hash w) K ∉ t.place.toList) (used : ∀ c, c < K → way t.mask (k.hash w) c ∈ t.place.toList) {Q : SetFound → Shared → Prop}
    (yes : k ∈ L.map (·.2) → Q (.there none) s) (no : k ∉ L.map (·.2) → Q (.free (way t.mask (k.hash w) K) false) s) :
    ∀ (f c : Nat) (st : Option SetTable.Probe), st.getD (t.probeStart (k.hash w)) = stp t.mask (k.hash w) c → c ≤ K → K - c < f →
      (∀ (i : Nat) p, L[i]? = some p → p.2 = k → ∃ c', c ≤ c' ∧ c' < K ∧ t.place.toList[i]? = some (way t.mask (k.hash w) c')) →
      wpAny (model P w) A (setSearchFrom a (.ref x) (k.hash w) true f st) Q E s := by
  intro f
  induction f with
  | zero => exact fun c st _ _ z _ => absurd z (Nat.not_lt_zero _)
  | succ f ih =>
    intro c st hst hcK hf later
    obtain ⟨ob, hob, exact_, hdat⟩ := R.obj
    have state : ∀ {Q' : (Array (Int × Value) × Nat × SetTable) → Shared → Prop}, Q' (es, ep, t) s → wpAny (model P w) A (setState a) Q' E s := fun q => wpAny_setState_of hob hdat R.fits q
    have hashes : ∀ (i : Nat) p, L[i]? = some p → (es[i]?.map (·.1)).getD 0 = p.2.hash w := fun i p e => by rw [ents_at R.ents e]; rfl
    have spec := go_spec t R.tab.ris R.tab.dm (fun i => (es[i]?.map (·.1)).getD 0) (k.hash w) (10 * SetTable.turns t.mask) (K - c) (stp t.mask (k.hash w) c) (stp_clean _ _ _) (by omega)
      (fun q hq => by rw [stp_more, stp_way]; exact used (c + q) (by omega)) (by rw [stp_more, stp_way, Nat.add_sub_cancel' hcK]; exact free)
    have go_eq : t.probe (fun i => (es[i]?.map (·.1)).getD 0) (k.hash w) (st.getD (t.probeStart (k.hash w))) = SetTable.probe.go t (fun i => (es[i]?.map (·.1)).getD 0) (k.hash w) (10 * SetTable.turns t.mask) (stp t.mask (k.hash w) c) := by rw [hst]; rfl
    rw [setSearchFrom_succ]
    refine wpAny_bind (state ?_)
    dsimp only
    refine wp_if_neg R.stays ?_
    try refine wpAny_bind (wpAny_pure ?_)
    rw [go_eq]
    rcases spec with ⟨q, i, hq, hi, _, first, pr⟩ | ⟨none_, pr⟩
    · rw [pr]
      rw [stp_more, stp_way] at hi
      simp only [stp_more, stp_way]
      have hil := R.place_lt hi
      obtain ⟨p, hp⟩ : ∃ p, L[i]? = some p := ⟨L[i], List.getElem?_eq_getElem hil⟩
      have hpL := List.mem_of_getElem? hp
      have rest : wpAny (model P w) A (searchRest a (.ref x) (k.hash w) true f es t (way t.mask (k.hash w) (c + q)) i (stp t.mask (k.hash w) (c + (q + 1)))) Q E s := by
        unfold searchRest
        rw [ents_at R.ents hp]
        dsimp only
        refine wpAny_bind (wpAny_holding ((nestedKind P w).eqBool hu (R.mem p hpL) hx (wpAny_bind (state ?_))))
        dsimp only
        by_cases same : p.2 = k
        · exact wp_if_pos (by simp [same]) (wpAny_pure (yes (List.mem_map.mpr ⟨p, hpL, same⟩)))
        · refine wp_if_neg (by simp [same]) ?_
          try refine wpAny_bind (wpAny_pure ?_)
          rw [sameMem]
          have live : t.slot (way t.mask (k.hash w) (c + q)) = .live i := slot_live R.tab.ris hi
          simp only [if_true, live, ents_at R.ents hp]
          refine wpAny_bind (wpAny_isSame_ref_self (wpAny_bind (wpAny_pure ?_)))
          simp only [if_true]
          refine wp_if_neg (by simp [same]) (ih (c + (q + 1)) _ rfl (by omega) (by omega) fun i' p' e' k' => ?_)
          obtain ⟨c', g1, g2, g3⟩ := later i' p' e' k'
          have not_first : ¬ c' < c + q := fun z => first (c' - c) i' (by omega) (by rw [stp_more, stp_way, Nat.add_sub_cancel' g1]; exact g3) (by show (es[i']?.map (·.1)).getD 0 = _; rw [hashes i' p' e', k'])
          have not_here : c' ≠ c + q := fun z => by
            rw [z] at g3
            have l2 := slot_live R.tab.ris g3
            rw [live] at l2
            injection l2 with l2
            rw [← l2, hp] at e'
            injection e' with e'
            exact same (e' ▸ k')
          exact ⟨c', by omega, g2, g3⟩
      by_cases byLed : t.led = true
      · refine wp_if_neg (by simp [byLed]) ?_
        try refine wpAny_bind (wpAny_pure ?_)
        exact rest
      · refine wp_if_pos (by simp [byLed]) (wpAny_bind (seen_key hx (fun y hy => ?_) ?_))
        · obtain ⟨e, he, rfl⟩ := List.mem_map.mp hy
          have he' : e ∈ es.toList := by
            have z : e ∈ es ∧ e.1 = k.hash w := by simpa using he
            simpa using z.1
          rw [R.ents] at he'
          obtain ⟨p', m', rfl⟩ := List.mem_map.mp he'
          exact ⟨p'.2, p'.1, rfl, R.mem p' m'⟩
        · refine wp_if_neg (by decide) ?_
          try refine wpAny_bind (wpAny_pure ?_)
          exact rest
    · rw [pr]
      simp only [stp_more, stp_way, Nat.add_sub_cancel' hcK]
      refine wpAny_pure (no fun m => ?_)
      obtain ⟨p', m', k'⟩ := List.mem_map.mp m
      obtain ⟨i', li', e'⟩ := List.getElem_of_mem m'
      have at' : L[i']? = some p' := by rw [List.getElem?_eq_getElem li', e']
      obtain ⟨c', g1, g2, g3⟩ := later i' p' at' k'
      exact none_ (c' - c) i' (by omega) (by rw [stp_more, stp_way, Nat.add_sub_cancel' g1]; exact g3) (by show (es[i']?.map (·.1)).getD 0 = _; rw [hashes i' p' at', k'])
/-- the whole search, as adding asks for it -/
theorem search_key (R : SetN P w s.heap a L es ep t) {x : Addr} {k : NestedKey} (hx : Mem P w s.heap k x) (hu : A.units + 8 < cLine) {Q : SetFound → Shared → Prop} (yes : k ∈ L.map (·.2) → Q (.there none) s)
    (no : ∀ K, k ∉ L.map (·.2) → way t.mask (k.hash w) K ∉ t.place.toList → (∀ c, c < K → way t.mask (k.hash w) c ∈ t.place.toList) → Q (.free (way t.mask (k.hash w) K) false) s) :
    wpAny (model P w) A (setSearch a (.ref x) (k.hash w) true) Q E s := by
  have room := R.room
  obtain ⟨K, KF, free, used⟩ := R.tab.first (by rw [List.length_map]; omega) (k.hash w)
  have turns : 10 * SetTable.turns t.mask < 100000 := by
    unfold SetTable.turns
    rcases R.tab.mok with e | e | e <;> omega
  unfold setSearch
  refine find_key R hx hu KF free used yes (fun z => no K z free used) 100000 0 none rfl (Nat.zero_le _) (by omega) fun i p e k' => ?_
  have hi : (L.map fun p => p.2.hash w)[i]? = some (k.hash w) := by rw [List.getElem?_map, e, ← k']; rfl
  have lt : i < t.place.toList.length := by
    rw [Array.length_toList, R.tab.sz, List.length_map]
    exact (List.getElem?_eq_some_iff.mp e).1
  obtain ⟨c, hc, ec⟩ := R.tab.before free hi (List.getElem?_eq_getElem lt)
  exact ⟨c, Nat.zero_le _, hc, by rw [List.getElem?_eq_getElem lt, ec]⟩
end
end L2

set_option maxHeartbeats 4000000
/-! Sets whose members are keys of any depth: the table laid anew, adding. -/
namespace L2
open PySem PySem.Spec PyProof.Rows
theorem range_pick {α : Type} : ∀ L : List α, (List.range L.length).filterMap (fun i => L[i]?) = L
  | [] => rfl
  | x :: xs => by
    rw [List.length_cons, List.range_succ_eq_map, List.filterMap_cons_some (show (x :: xs)[0]? = some x from rfl), List.filterMap_map]
    exact congrArg (x :: ·) (range_pick xs)
theorem pick_hash {w : World} {L : List (Addr × NestedKey)} {hs : Array Int} (e : ∀ (i : Nat) p, L[i]? = some p → hs.getD i 0 = p.2.hash w) : ∀ l : List Nat, (∀ i ∈ l, i < L.length) → ((l.filterMap fun i => L[i]?).map fun p => p.2.hash w) = l.map fun i => hs.getD i 0
  | [], _ => rfl
  | i :: l, h => by
    have hi := List.getElem?_eq_getElem (h i List.mem_cons_self)
    rw [List.filterMap_cons_some hi, List.map_cons, List.map_cons, pick_hash e l fun j hj => h j (List.mem_cons_of_mem _ hj), e i _ hi]
theorem pick_rows {w : World} {L : List (Addr × NestedKey)} {es : Array (Int × Value)} {order : Array Nat} (e : es.toList = L.map fun p => (p.2.hash w, Value.ref p.1)) (pm : order.toList.Perm (List.range L.length)) :
    ∃ L2 : List (Addr × NestedKey), (order.filterMap (es[·]?)).toList = (L2.map fun p => (p.2.hash w, Value.ref p.1)) ∧ L2.Perm L ∧ (L2.map fun p => p.2.hash w) = order.toList.map fun i => (es.map (·.1)).getD i 0 := by
  refine ⟨order.toList.filterMap fun i => L[i]?, ?_, ?_, ?_⟩
  · rw [Array.toList_filterMap, List.map_filterMap]
    refine congrFun (congrArg List.filterMap (funext fun i => ?_)) _
    rw [← Array.getElem?_toList, e, List.getElem?_map]
  · have z := pm.filterMap fun i => L[i]?
    rwa [range_pick] at z
  · refine pick_hash (fun i p hp => ?_) _ fun i hi => List.mem_range.mp (pm.mem_iff.mp hi)
    have q : (es.map (·.1))[i]? = some (p.2.hash w) := by rw [Array.getElem?_map, ents_at e hp]; rfl
    rw [Array.getD_eq_getD_getElem?, q]
    rfl
section
variable {P : Program} {w : World} {A : Around} {E : Value → Shared → Prop} {s : Shared} {a : Addr} {L : List (Addr × NestedKey)} {es : Array (Int × Value)} {ep : Nat} {t : SetTable}
theorem Mem.same {h h' : Heap} {k : NestedKey} {b : Addr} {o : Obj} (m : Mem P w h k b) (ho : h.get? a = some o) (hd : o.data = .set es ep t) (sb : Heap.SameBut a h h') : Mem P w h' k b :=
  ⟨NestedIs.at (fun c oc vs n hc hs => by
    refine (sb.2 c fun z => ?_).trans hc
    rw [z, ho] at hc
    cases hc
    rw [hd] at hs
    cases hs) k _ m.1, m.2⟩
theorem TabOk.swap {t' : SetTable} {hs : List Int} (T : TabOk t hs) (e1 : t'.place = t.place) (e2 : t'.dummies = t.dummies) (e3 : t'.mask = t.mask) : TabOk t' hs :=
  ⟨e1 ▸ T.ris, e2 ▸ T.dm, e1 ▸ T.sz, e3 ▸ T.mok, by rw [e1, e3]; exact T.bd, by rw [e1, e3]; exact T.reach⟩
/-- the table laid anew, larger -/
theorem grow_key {o : Obj} (ho : s.heap.get? a = some o) (hx : o.ExactSet) (hd : o.data = .set es ep t) (re : es.toList = L.map fun p => (p.2.hash w, Value.ref p.1)) (sz : t.place.size = es.size) (dm : t.dummies = #[]) (fl : es.size ≤ t.mask)
    (one : (L.map (·.2)).Nodup) (mem : ∀ p ∈ L, Mem P w s.heap p.2 p.1) (ld : w.params.followText "set-order" = true ∨ t.led = true) (few : L.length < 64) {wanted M : Nat}
    (hw : SetTable.sizeAbove wanted - 1 = M) (hM : MaskOk M) (hw2 : SetTable.sizeAbove wanted ≤ 128) (hn : L.length * 5 < M * 3) {Q : Unit → Shared → Prop}
    (q : ∀ h' L' es' ep' t', Heap.SameBut a s.heap h' → SetN P w h' a L' es' ep' t' → L'.Perm L → Q () { s with heap := h' }) : wpAny (model P w) A (setRelay a wanted) Q E s := by
  have n1 := ents_size re
  have fits : t.fits es.size = true := by
    unfold SetTable.fits SetTable.fill
    rw [dm, Bool.and_eq_true, beq_iff_eq, decide_eq_true_eq]
    show t.place.size = es.size ∧ t.place.size + 0 ≤ t.mask
    omega
  obtain ⟨t', order, eq, pm, T, em, el, _, _⟩ := relaid_ok t (hs := es.map (·.1)) (wanted := wanted) hw hM (by rw [Array.size_map, n1]; omega)
  rw [Array.size_map, n1] at pm
  obtain ⟨L2, r1, r2, r3⟩ := pick_rows re pm
  have n2 : (order.filterMap (es[·]?)).size = es.size := by
    rw [ents_size r1, r2.length_eq, n1]
  rw [setRelay_eq]
  refine wpAny_bind (wpAny_setState_of ho hd fits ?_)
  dsimp only
  refine wp_if_neg (by rw [sizeLine_eq]; omega) ?_
  try refine wpAny_bind (wpAny_pure ?_)
  rw [eq]
  dsimp only
  refine wpAny_bind (wp_if_neg (by rw [n2]; simp) ?_)
  try refine wpAny_bind (wpAny_pure ?_)
  refine wpAny_pure ?_
  dsimp only
  have sb : Heap.SameBut a s.heap (s.heap.update a (Obj.putSet (order.filterMap (es[·]?)) t')) := Heap.SameBut.update ..
  refine wpAny_storeSet_of ho hd (q _ L2 _ (ep + 1) t' sb ⟨⟨_, store_at ho hd, ⟨hx.1, hx.2.1, hx.2.2⟩, rfl⟩, r1, ?_, (r2.map (·.2)).nodup_iff.mpr one, fun p m => (mem p (r2.mem_iff.mp m)).same ho hd sb, by rw [el]; exact ld, by rw [r2.length_eq, em]; exact hn, by rw [r2.length_eq]; exact few⟩ r2) (by rw [n2, n1, sizeLine_eq]; omega)
  rw [r3]
  exact T
theorem putAt_perm2 {α : Type} (L : List α) (p : Nat) (x : α) : (L.take p ++ x :: L.drop p).Perm (x :: L) := by
  have z : (L.take p ++ x :: L.drop p).Perm (x :: (L.take p ++ L.drop p)) := List.perm_middle
  rwa [List.take_append_drop] at z
/-- adding a member -/
theorem add_key (R : SetN P w s.heap a L es ep t) {x : Addr} {k : NestedKey} (hx : Mem P w s.heap k x) (hu : A.units + 8 < cLine) (few : L.length + 1 < 64) {Q : Bool → Shared → Prop}
    (q : ∀ b h' L' es' ep' t', Heap.SameBut a s.heap h' → SetN P w h' a L' es' ep' t' → (k ∈ L.map (·.2) → L' = L) → (k ∉ L.map (·.2) → L'.Perm ((x, k) :: L)) → Q b { s with heap := h' }) :
    wpAny (model P w) A (setAddHashed a (.ref x) (k.hash w)) Q E s := by
  obtain ⟨o, ho, exact_, hd⟩ := R.obj
  have n0 := ents_size R.ents
  have room := R.room
  unfold setAddHashed
  refine wpAny_holding ?_
  rw [show (100000 : Nat) = 99999 + 1 from rfl, setAddHashedIn_succ]
  refine wpAny_bind (wpAny_setState_of ho hd R.fits ?_)
  dsimp only
  refine wp_if_neg (by simp [byScan, Value.scannable]) ?_
  try refine wpAny_bind (wpAny_pure ?_)
  refine wpAny_bind (search_key R hx hu (fun there => ?_) fun K out free used => ?_)
  · dsimp only
    exact wpAny_pure (q false s.heap L es ep t (Heap.SameBut.refl a s.heap) R (fun _ => rfl) fun z => absurd there z)
  dsimp only
  refine wpAny_bind (wpAny_setState_of ho hd R.fits ?_)
  dsimp only
  obtain ⟨p1, _, T, em, el, _, _, _, ef⟩ := R.tab.put free used
  generalize hpt : t.put (way t.mask (k.hash w) K) = pt at p1 T em el ef ⊢
  obtain ⟨t1, pl⟩ := pt
  dsimp only at p1 T em el ef ⊢
  -- the new rows
  have rows : (SetTable.insertAt es pl (k.hash w, Value.ref x)).toList = (L.take pl ++ (x, k) :: L.drop pl).map fun p => (p.2.hash w, Value.ref p.1) := by
    rw [SetTable.toList_insertAt, R.ents, List.map_append, List.map_cons, List.map_take, List.map_drop]
  rw [← p1] at T
  have T1 : TabOk t1 ((L.take pl ++ (x, k) :: L.drop pl).map fun p => p.2.hash w) := by
    rw [List.map_append, List.map_cons, List.map_take, List.map_drop]
    exact T
  have pm := putAt_perm2 L pl (x, k)
  generalize L.take pl ++ (x, k) :: L.drop pl = L1 at rows T1 pm
  have n1 := ents_size rows
  have n2 : L1.length = L.length + 1 := pm.length_eq
  generalize SetTable.insertAt es pl (k.hash w, Value.ref x) = es1 at rows n1 ⊢
  have one1 : (L1.map (·.2)).Nodup := (pm.map (·.2)).nodup_iff.mpr (by rw [List.map_cons]; exact List.nodup_cons.mpr ⟨out, R.one⟩)
  -- the rest, by the table that is stored
  have rest : ∀ t2 : SetTable, t2.place = t1.place → t2.dummies = t1.dummies → t2.mask = t1.mask → t2.led = t1.led →
      wpAny (model P w) A (do
        storeSet a es1 t2
        if !false && t2.tooFull then setRelay a (SetTable.grown (es.size + 1))
        return true) Q E s := by
    intro t2 e1 e2 e3 e4
    have T2 := T1.swap e1 e2 e3
    have sb : Heap.SameBut a s.heap (s.heap.update a (Obj.putSet es1 t2)) := Heap.SameBut.update ..
    have ho1 := store_at (es' := es1) (t' := t2) ho hd
    refine wpAny_bind (wpAny_storeSet_of ho hd ?_ (by rw [n1, n2, sizeLine_eq]; omega))
    generalize s.heap.update a (Obj.putSet es1 t2) = h1 at sb ho1 ⊢
    have mem1 : ∀ p ∈ L1, Mem P w h1 p.2 p.1 := fun p m => by
      rcases List.mem_cons.mp (pm.mem_iff.mp m) with rfl | m
      · exact hx.same ho hd sb
      · exact (R.mem p m).same ho hd sb
    have led2 : w.params.followText "set-order" = true ∨ t2.led = true := by rw [e4, el]; exact R.led
    have mask2 : t2.mask = t.mask := e3.trans em
    have fill2 : t2.fill = L.length + 1 := by
      have z : t2.fill = t1.fill := by unfold SetTable.fill; rw [e1, e2]
      rw [z, ef, List.length_map]
    by_cases full : t2.tooFull = true
    · have bound : (L.length + 1) * 5 ≥ t.mask * 3 := by
        have z := full
        unfold SetTable.tooFull at z
        rwa [decide_eq_true_eq, fill2, mask2] at z
      have way2 : (t.mask = 7 ∧ L.length = 4) ∨ (t.mask = 31 ∧ L.length = 18) := by
        rcases R.tab.mok with e | e | e
        · rw [e] at bound room; exact .inl ⟨e, by omega⟩
        · rw [e] at bound room; exact .inr ⟨e, by omega⟩
        · rw [e] at bound; exact absurd bound (by omega)
      have sz2 : t2.place.size = es1.size := by
        have z := T2.sz
        rw [List.length_map, n2] at z
        rw [z, n1, n2]
      have grow : ∀ M, SetTable.sizeAbove (SetTable.grown (L.length + 1)) - 1 = M → MaskOk M → SetTable.sizeAbove (SetTable.grown (L.length + 1)) ≤ 128 → (L.length + 1) * 5 < M * 3 →
          wpAny (model P w) A (setRelay a (SetTable.grown (L.length + 1))) (fun _ s' => wpAny (model P w) A (Pure.pure true) Q E s') E { s with heap := h1 } := fun M g1 g2 g3 g4 =>
        grow_key (s := { s with heap := h1 }) ho1 ⟨exact_.1, exact_.2.1, exact_.2.2⟩ rfl rows sz2 T2.dm (by rw [n1, n2, mask2]; rcases way2 with ⟨e, e'⟩ | ⟨e, e'⟩ <;> omega) one1 mem1 led2 (by rw [n2]; exact few) g1 g2 g3 (by rw [n2]; exact g4)
          fun h2 L2 es2 ep2 t3 sb2 R2 pm2 => wpAny_pure (q true h2 L2 es2 ep2 t3 (sb.trans sb2) R2 (fun z => absurd z out) fun _ => pm2.trans pm)
      rw [n0]
      first
        | refine wp_if_pos (by simp [full]) (wpAny_bind ?_)
        | refine wpAny_bind (wp_if_pos (by simp [full]) ?_)
      rcases way2 with ⟨_, e'⟩ | ⟨_, e'⟩
      · exact grow 31 (by rw [e', size_20]) (.inr (.inl rfl)) (by rw [e', size_20]; decide) (by omega)
      · exact grow 127 (by rw [e', size_76]) (.inr (.inr rfl)) (by rw [e', size_76]; decide) (by omega)
    · have roomy : L1.length * 5 < t2.mask * 3 := by
        have z := full
        unfold SetTable.tooFull at z
        rw [decide_eq_true_eq, fill2] at z
        rw [n2]
        omega
      have fin := q true h1 L1 es1 (ep + 1) t2 sb ⟨⟨_, ho1, ⟨exact_.1, exact_.2.1, exact_.2.2⟩, rfl⟩, rows, T2, one1, mem1, led2, roomy, by rw [n2]; exact few⟩ (fun z => absurd z out) fun _ => pm
      first
        | exact wp_if_neg (by simp [full]) (wpAny_pure fin)
        | exact wpAny_bind (wp_if_neg (by simp [full]) (wpAny_pure (wpAny_pure fin)))
        | exact wp_if_neg (by simp [full]) (wpAny_bind (wpAny_pure (wpAny_pure fin)))
  by_cases plain : t1.plain = true
  · first
      | refine wpAny_bind (wp_if_pos plain (byval_key k _ 8 s hx.1 _ _ _ fun b _ => ?_))
      | refine wp_if_pos plain (wpAny_bind (byval_key k _ 8 s hx.1 _ _ _ fun b _ => ?_))
    cases b
    · exact rest { t1 with plain := false } rfl rfl rfl rfl
    · exact rest t1 rfl rfl rfl rfl
  · first
      | refine wpAny_bind (wp_if_neg plain (wpAny_pure ?_))
      | refine wp_if_neg plain (wpAny_bind (wpAny_pure ?_))
    exact rest t1 rfl rfl rfl rfl
end
end L2

set_option maxHeartbeats 4000000
/-! Sets whose members are keys of any depth: filled from what is walked. -/
namespace L2
open PySem PySem.Spec PyProof.Rows
/-- what a set holds of the first i of ks -/
structure Took (ks : List (Addr × NestedKey)) (i : Nat) (L : List (Addr × NestedKey)) : Prop where
  from_ : ∀ p ∈ L, p ∈ ks.take i
  all_ : ∀ p ∈ ks.take i, p.2 ∈ L.map (·.2)
  len_ : L.length ≤ i
theorem Took.step {ks L M : List (Addr × NestedKey)} {i : Nat} {x : Addr × NestedKey} (g : Took ks i L) (e : ks[i]? = some x) (same : x.2 ∈ L.map (·.2) → M = L) (more : x.2 ∉ L.map (·.2) → M.Perm (x :: L)) : Took ks (i + 1) M := by
  have tk : ks.take (i + 1) = ks.take i ++ [x] := by rw [List.take_add_one, e]; rfl
  by_cases c : x.2 ∈ L.map (·.2)
  · rw [same c]
    refine ⟨fun p m => by rw [tk]; exact List.mem_append_left _ (g.from_ p m), fun p m => ?_, Nat.le_succ_of_le g.len_⟩
    rw [tk] at m
    rcases List.mem_append.mp m with m | m
    · exact g.all_ p m
    · rw [List.mem_singleton.mp m]; exact c
  · have pm := more c
    refine ⟨fun p m => ?_, fun p m => ?_, by rw [pm.length_eq]; exact Nat.succ_le_succ g.len_⟩
    · rw [tk]
      rcases List.mem_cons.mp (pm.mem_iff.mp m) with rfl | m
      · exact List.mem_append_right _ (List.mem_singleton.mpr rfl)
      · exact List.mem_append_left _ (g.from_ p m)
    · rw [(pm.map (·.2)).mem_iff, List.map_cons]
      rw [tk] at m
      rcases List.mem_append.mp m with m | m
      · exact List.mem_cons_of_mem _ (g.all_ p m)
      · rw [List.mem_singleton.mp m]; exact List.mem_cons_self
section
variable {P : Program} {w : World} {A : Around}
theorem Mem.keep {h h' : Heap} {k : NestedKey} {b : Addr} (m : Mem P w h k b) (kp : ∀ c o, h.get? c = some o → h'.get? c = some o) : Mem P w h' k b :=
  ⟨NestedIs.at (fun c oc vs n hc _ => kp c oc hc) k _ m.1, m.2⟩
theorem SetN.keep {h h' : Heap} {a : Addr} {L : List (Addr × NestedKey)} {es : Array (Int × Value)} {ep : Nat} {t : SetTable} (R : SetN P w h a L es ep t) (ka : ∀ o, h.get? a = some o → h'.get? a = some o) (mem : ∀ p ∈ L, Mem P w h' p.2 p.1) : SetN P w h' a L es ep t := by
  obtain ⟨o, e, r⟩ := R.obj
  exact { R with obj := ⟨o, ka o e, r⟩, mem := mem }
/-- the empty set, as it is made -/
abbrev set0 (w : World) : Obj := { cls := .type "set", dict := none, data := .set #[] 0 (.fresh 0 0 (!w.params.followText "set-order")) }
theorem SetN.empty {h : Heap} {a : Addr} (e : h.get? a = some (set0 w)) : SetN P w h a [] #[] 0 (.fresh 0 0 (!w.params.followText "set-order")) where
  obj := ⟨_, e, ⟨rfl, rfl, rfl⟩, rfl⟩
  ents := rfl
  tab := ⟨List.Pairwise.nil, rfl, rfl, .inl rfl, fun x m => (nomatch m), fun i z j e => (nomatch (show (none : Option Int) = some z from e))⟩
  one := List.nodup_nil
  mem := fun p m => nomatch m
  led := by
    show _ ∨ (!w.params.followText "set-order") = true
    cases w.params.followText "set-order"
    · exact .inr rfl
    · exact .inl rfl
  room := by show 0 * 5 < 7 * 3; decide
  few := by show 0 < 64; decide
variable {I : Addr} {fp wr : List Addr} {G : Array GenState → Array GenState → Prop} {n : Nat} {Pv : Nat → Value → Prop} {St : Nat → Shared → Prop} {R : Result → Shared → Prop}
theorem fill_set (W : WalksS P w A.in1 I fp wr G n Pv St) (S : Addr) (hS : S ∉ fp) (ks : List (Addr × NestedKey)) (hn : n = ks.length) (few : ks.length < 64) (val : ∀ i v, Pv i v → ∃ p, ks[i]? = some p ∧ v = .ref p.1)
    (h0 : Heap) (mem : ∀ p ∈ ks, Mem P w h0 p.2 p.1) (newS : h0.get? S = none) (newW : ∀ b ∈ wr, h0.get? b = none) (hu : A.in1.units + 8 < cLine) :
    ∀ (m i : Nat) (s : Shared), i + m = n → St i s → (∀ b o, h0.get? b = some o → s.heap.get? b = some o) → (∃ L es ep t, SetN P w s.heap S L es ep t ∧ Took ks i L) →
      (∀ s' L es ep t, Moved (S :: wr) G s s' → SetN P w s'.heap S L es ep t → Took ks n L → (∀ b o, h0.get? b = some o → s'.heap.get? b = some o) → R (.ok (.ret .none)) s') →
      codeAny (model P w) A (.builtin "set.update.loop" ⟨[.ref S, .ref I], []⟩) R s := by
  have nS : S ∉ wr := fun z => hS (W.sub _ z)
  have wide : ∀ b ∈ wr, b ∈ S :: wr := fun b z => List.mem_cons_of_mem _ z
  have through : ∀ {s s' : Shared}, Moved wr G s s' → (∀ b o, h0.get? b = some o → s.heap.get? b = some o) → ∀ b o, h0.get? b = some o → s'.heap.get? b = some o := fun mv kp b o e =>
    mv.heap b o (fun z => by rw [newW b z] at e; cases e) (kp b o e)
  have at_ : ∀ {i : Nat} {L : List (Addr × NestedKey)} {h : Heap}, Took ks i L → (∀ b o, h0.get? b = some o → h.get? b = some o) → ∀ p ∈ L, Mem P w h p.2 p.1 := fun g kp p z => (mem p (List.mem_of_mem_take (g.from_ p z))).keep kp
  intro m
  induction m with
  | zero =>
    rintro i s rfl st kp ⟨L, es, ep, t, set_, g⟩ fin
    refine codeAny_builtin F.entry_set_update_loop ?_
    rw [Around.under_plainId (F.plain_set_update_loop) _]
    show wpAny _ A.in1 (pyNext (Value.ref I) >>= _) _ _ s
    refine wpAny_bind (W.done s _ _ st fun s' mv => wpAny_pure ?_)
    exact fin s' L es ep t (mv.mono wide) (set_.keep (fun o e => mv.heap S o nS e) (at_ g (through mv kp))) g (through mv kp)
  | succ m ih =>
    rintro i s hi st kp ⟨L, es, ep, t, set_, g⟩ fin
    refine codeAny_builtin F.entry_set_update_loop ?_
    rw [Around.under_plainId (F.plain_set_update_loop) _]
    show wpAny _ A.in1 (pyNext (Value.ref I) >>= _) _ _ s
    refine wpAny_bind (W.item i s _ _ (by omega) st fun v s' pv st' mv => ?_)
    obtain ⟨p, hp, rfl⟩ := val i v pv
    have kp' := through mv kp
    have set' := set_.keep (h' := s'.heap) (fun o e => mv.heap S o nS e) (at_ g kp')
    have hx : Mem P w s'.heap p.2 p.1 := (mem p (List.mem_of_getElem? hp)).keep kp'
    show wpAny _ A.in1 (holding [Value.ref p.1] (setAdd S (.ref p.1)) >>= _) _ _ s'
    refine wpAny_bind (wpAny_holding ?_)
    unfold setAdd
    refine wpAny_holding (wpAny_bind ((nestedKind P w).pyHash hu hx ?_))
    refine add_key (s := { s' with toks := s'.toks + (nestedKind P w).draws p.2 }) set' hx hu (by have := g.len_; omega) fun b h' M es' ep' t' sb set2 same more => ?_
    have g' := g.step hp same more
    have kp2 : ∀ b o, h0.get? b = some o → h'.get? b = some o := fun b o e => (sb.2 b (fun z => by rw [z, newS] at e; cases e)).trans (kp' b o e)
    refine wpAny_pure ⟨plainId_quiet F.plain_set_update_loop _, ih (i + 1) _ (by omega) (W.frame _ s' _ _ st' (Nat.le_add_right _ _) fun b z o e => ?_) kp2 ⟨M, es', ep', t', set2, g'⟩ fun s2 M2 es2 ep2 t2 mv2 set3 g2 kp3 => ?_⟩
    · exact (sb.2 b (fun y => hS (y ▸ z))).trans e
    · refine fin s2 M2 es2 ep2 t2 (Moved.trans W.gtrans ((mv.mono wide).then_heap (Nat.le_add_right _ _) fun b o z e => ?_) mv2) set3 g2 kp3
      exact (sb.2 b (fun y => z (y ▸ List.mem_cons_self))).trans e
end
end L2

set_option maxHeartbeats 4000000
/-! Sets whose members are keys of any depth: set(list), set(tuple). -/
namespace L2
open PySem PySem.Spec PyProof.Rows
/-- set(xs), xs a list of keys -/
theorem make_set_list {P : Program} {w : World} {A : Around} {E : Value → Shared → Prop} {s : Shared} {l : Addr} {items : Array Value} (ks : List (Addr × NestedKey)) {Q : Value → Shared → Prop} (calm : A.handled = none) (at_ : s.heap.IsList l items)
    (its : items.toList = ks.map fun p => Value.ref p.1) (mem : ∀ p ∈ ks, Mem P w s.heap p.2 p.1) (few : ks.length < 64) (room : A.units + 11 < cLine)
    (done : ∀ (h' : Heap) (tk : Nat) L es ep t, SetN P w h' s.heap.objs.size L es ep t → Took ks ks.length L → (∀ b o, s.heap.get? b = some o → h'.get? b = some o) → Q (.ref s.heap.objs.size) { s with heap := h', toks := tk }) :
    wpAny (model P w) A (call (.type "set") [.ref l]) Q E s := by
  have count : items.size = ks.length := by rw [← Array.length_toList, its, List.length_map]
  have free : ∀ b, s.heap.objs.size ≤ b → s.heap.get? b = none := fun b z => by
    cases e : s.heap.get? b with
    | none => rfl
    | some o => exact absurd (Heap.lt_size e) (Nat.not_lt.mpr z)
  obtain ⟨mro1, mro2, mro⟩ := (F.called_set).mro
  have made := (F.called_set).made
  have under := (F.called_set).sub
  have no_type := (F.called_set).notType
  have may := (F.called_set).canCreate
  have typed := F.typeCall_set_1 (Value.ref l)
  refine wpAny_call (codeAny_of_tree (show wpAny _ _ (callAny (.type "set") _) _ _ _ from ?_))
  refine wpAny_pure ⟨(Code.quiet_builtin _ (by decide +kernel)), (codeAny_builtin (F.entry_type_call) ?_)⟩
  rw [Around.under_plain (weight_type_call_type "set" [Value.ref l] []) (by rfl)]
  repeat (any_goals first | assumption | wp_step)
  refine codeAny_mono (code_set_led1 (Value.ref l) (E := E) (Q₁ := fun v s1 => (v = .ref s.heap.objs.size) ∧ s1 = { s with heap := s.heap.push (set0 w) }) ⟨rfl, rfl⟩) fun res s1 r1 => ?_
  rcases res with err | fl
  · exact r1
  cases fl with
  | ret v =>
    obtain ⟨rfl, rfl⟩ := r1
    have new : (s.heap.push (set0 w)).get? s.heap.objs.size = some (set0 w) := Heap.get?_push_size _ rfl
    have ty : Shared.TypeIs { s with heap := s.heap.push (set0 w) } (.ref s.heap.objs.size) "set" := ⟨set0 w, new, rfl⟩
    have look := (F.called_set).init.lookup
    have bind := (F.called_set).init.bind (Value.ref s.heap.objs.size)
    repeat (any_goals first | assumption | wp_step)
    refine codeAny_mono (codeAny_call_builtin (R := wants (fun v s2 => (v = .none) ∧ ∃ h' tk L es ep t, s2 = { s with heap := h', toks := tk } ∧ SetN P w h' s.heap.objs.size L es ep t ∧ Took ks ks.length L ∧ ∀ b o, s.heap.get? b = some o → h'.get? b = some o) E)
      (F.called_set).init.plain (F.entry_set_init) (check_set_init_1 ty ?_)) fun res2 s2 r2 => ?_
    · obtain ⟨⟨cls, dict, data, slots⟩, e, c, size, d⟩ := at_
      simp only at c d
      subst c d
      have e1 : (s.heap.push (set0 w)).get? l = some { cls := .type "list", dict := dict, data := .seq items size, slots := slots } := Heap.get?_push_of_some _ e
      have not_set := F.sub_list_set
      have not_frozen := F.sub_list_frozenset
      have no_dict : (Value.type "list" == Value.type "dict") = false := by decide
      have at1 : (s.heap.push (set0 w)).IsList l items := ⟨_, e1, rfl, size, rfl⟩
      have below : l < s.heap.objs.size := Heap.lt_size e
      have grew : (s.heap.push (set0 w)).objs.size = s.heap.objs.size + 1 := Heap.size_push _ _
      unfold Builtin.«set.__init__»
      unfold noKeywords
      unfold Builtin.Frozenset.updateFrom
      generalize keep_iter : pyIter = it
      wp_walk
      subst keep_iter
      refine wpAny_pyIter_list at1 (wpAny_bind (wpAny_runValue ?_))
      have calm3 : A.in1.in1.in1.handled = none := by simpa using calm
      have apart1 : l ≠ (s.heap.push (set0 w)).objs.size := by rw [grew]; exact Nat.ne_of_lt (Nat.lt_succ_of_lt below)
      have apart2 : s.heap.objs.size ∉ [(s.heap.push (set0 w)).objs.size, l] := by
        rw [grew, List.mem_cons, List.mem_singleton]
        rintro (z | z)
        · exact absurd z (Nat.ne_of_lt (Nat.lt_succ_self _))
        · exact absurd z (Nat.ne_of_gt below)
      have nth_ : ∀ (i : Nat) (v : Value), items[i]? = some v → ∃ p, ks[i]? = some p ∧ v = .ref p.1 := fun i v z => by
        rw [← Array.getElem?_toList, its, List.getElem?_map] at z
        cases e : ks[i]? with
        | none => rw [e] at z; cases z
        | some p => rw [e] at z; exact ⟨p, rfl, (Option.some.inj z).symm⟩
      refine fill_set ((Walks.list calm3 _ l apart1 items).toS) s.heap.objs.size apart2 ks count few nth_ s.heap mem (free _ (Nat.le_refl _)) (fun b z => free b (by rw [List.mem_singleton.mp z, grew]; exact Nat.le_succ _))
        (show A.units + 1 + 1 + 1 + 8 < cLine by omega) items.size 0 _ (Nat.zero_add _) ⟨⟨_, Heap.get?_push_size _ rfl, rfl, rfl⟩, (at1.push _)⟩ (fun b o z => Heap.get?_push_of_some _ (Heap.get?_push_of_some _ z)) ?begin_ ?end_
      case begin_ => exact ⟨[], #[], 0, _, SetN.empty (Heap.get?_push_of_some _ new), fun p z => (nomatch z), fun p z => (by simp at z), Nat.le_refl _⟩
      case end_ =>
        intro s' L es ep t mv set_ g kp
        have es' := Moved.eq_with mv
        rw [es']
        show wpAny _ _ _ _ _ _
        refine wpAny_pure ?_
        show wpAny _ _ (ret Value.none) _ _ _
        exact wpAny_pure ⟨rfl, s'.heap, s'.toks, L, es, ep, t, rfl, set_, count ▸ g, kp⟩
    · rcases res2 with err | fl2
      · exact r2
      cases fl2 with
      | ret v =>
        obtain ⟨rfl, h', tk, L, es, ep, t, rfl, set_, g, kp⟩ := r2
        repeat (any_goals first | assumption | wp_step)
        exact done h' _ L es ep t set_ g kp
      | _ => exact r2.elim
  | _ => exact r1.elim
/-- set(xs), xs a tuple of keys -/
theorem make_set_tuple {P : Program} {w : World} {A : Around} {E : Value → Shared → Prop} {s : Shared} {l : Addr} {items : Array Value} (ks : List (Addr × NestedKey)) {Q : Value → Shared → Prop} (calm : A.handled = none) (at_ : s.heap.IsTuple l items)
    (its : items.toList = ks.map fun p => Value.ref p.1) (mem : ∀ p ∈ ks, Mem P w s.heap p.2 p.1) (few : ks.length < 64) (room : A.units + 11 < cLine)
    (done : ∀ (h' : Heap) (tk : Nat) L es ep t, SetN P w h' s.heap.objs.size L es ep t → Took ks ks.length L → (∀ b o, s.heap.get? b = some o → h'.get? b = some o) → Q (.ref s.heap.objs.size) { s with heap := h', toks := tk }) :
    wpAny (model P w) A (call (.type "set") [.ref l]) Q E s := by
  have count : items.size = ks.length := by rw [← Array.length_toList, its, List.length_map]
  have free : ∀ b, s.heap.objs.size ≤ b → s.heap.get? b = none := fun b z => by
    cases e : s.heap.get? b with
    | none => rfl
    | some o => exact absurd (Heap.lt_size e) (Nat.not_lt.mpr z)
  obtain ⟨mro1, mro2, mro⟩ := (F.called_set).mro
  have made := (F.called_set).made
  have under := (F.called_set).sub
  have no_type := (F.called_set).notType
  have may := (F.called_set).canCreate
  have typed := F.typeCall_set_1 (Value.ref l)
  refine wpAny_call (codeAny_of_tree (show wpAny _ _ (callAny (.type "set") _) _ _ _ from ?_))
  refine wpAny_pure ⟨(Code.quiet_builtin _ (by decide +kernel)), (codeAny_builtin (F.entry_type_call) ?_)⟩
  rw [Around.under_plain (weight_type_call_type "set" [Value.ref l] []) (by rfl)]
  repeat (any_goals first | assumption | wp_step)
  refine codeAny_mono (code_set_led1 (Value.ref l) (E := E) (Q₁ := fun v s1 => (v = .ref s.heap.objs.size) ∧ s1 = { s with heap := s.heap.push (set0 w) }) ⟨rfl, rfl⟩) fun res s1 r1 => ?_
  rcases res with err | fl
  · exact r1
  cases fl with
  | ret v =>
    obtain ⟨rfl, rfl⟩ := r1
    have new : (s.heap.push (set0 w)).get? s.heap.objs.size = some (set0 w) := Heap.get?_push_size _ rfl
    have ty : Shared.TypeIs { s with heap := s.heap.push (set0 w) } (.ref s.heap.objs.size) "set" := ⟨set0 w, new, rfl⟩
    have look := (F.called_set).init.lookup
    have bind := (F.called_set).init.bind (Value.ref s.heap.objs.size)
    repeat (any_goals first | assumption | wp_step)
    refine codeAny_mono (codeAny_call_builtin (R := wants (fun v s2 => (v = .none) ∧ ∃ h' tk L es ep t, s2 = { s with heap := h', toks := tk } ∧ SetN P w h' s.heap.objs.size L es ep t ∧ Took ks ks.length L ∧ ∀ b o, s.heap.get? b = some o → h'.get? b = some o) E)
      (F.called_set).init.plain (F.entry_set_init) (check_set_init_1 ty ?_)) fun res2 s2 r2 => ?_
    · obtain ⟨⟨cls, dict, data, slots⟩, e, c, size, d⟩ := at_
      simp only at c d
      subst c d
      have e1 : (s.heap.push (set0 w)).get? l = some { cls := .type "tuple", dict := dict, data := .seq items size, slots := slots } := Heap.get?_push_of_some _ e
      have not_set := F.sub_tuple_set
      have not_frozen := F.sub_tuple_frozenset
      have no_dict : (Value.type "tuple" == Value.type "dict") = false := by decide
      have at1 : (s.heap.push (set0 w)).IsTuple l items := ⟨_, e1, rfl, size, rfl⟩
      have below : l < s.heap.objs.size := Heap.lt_size e
      have grew : (s.heap.push (set0 w)).objs.size = s.heap.objs.size + 1 := Heap.size_push _ _
      unfold Builtin.«set.__init__»
      unfold noKeywords
      unfold Builtin.Frozenset.updateFrom
      generalize keep_iter : pyIter = it
      wp_walk
      subst keep_iter
      refine wpAny_pyIter_tuple at1 (wpAny_bind (wpAny_runValue ?_))
      have calm3 : A.in1.in1.in1.handled = none := by simpa using calm
      have apart1 : l ≠ (s.heap.push (set0 w)).objs.size := by rw [grew]; exact Nat.ne_of_lt (Nat.lt_succ_of_lt below)
      have apart2 : s.heap.objs.size ∉ [(s.heap.push (set0 w)).objs.size, l] := by
        rw [grew, List.mem_cons, List.mem_singleton]
        rintro (z | z)
        · exact absurd z (Nat.ne_of_lt (Nat.lt_succ_self _))
        · exact absurd z (Nat.ne_of_gt below)
      have nth_ : ∀ (i : Nat) (v : Value), items[i]? = some v → ∃ p, ks[i]? = some p ∧ v = .ref p.1 := fun i v z => by
        rw [← Array.getElem?_toList, its, List.getElem?_map] at z
        cases e : ks[i]? with
        | none => rw [e] at z; cases z
        | some p => rw [e] at z; exact ⟨p, rfl, (Option.some.inj z).symm⟩
      refine fill_set ((Walks.tuple calm3 _ l apart1 items).toS) s.heap.objs.size apart2 ks count few nth_ s.heap mem (free _ (Nat.le_refl _)) (fun b z => free b (by rw [List.mem_singleton.mp z, grew]; exact Nat.le_succ _))
        (show A.units + 1 + 1 + 1 + 8 < cLine by omega) items.size 0 _ (Nat.zero_add _) ⟨⟨_, Heap.get?_push_size _ rfl, rfl, rfl⟩, (at1.push _)⟩ (fun b o z => Heap.get?_push_of_some _ (Heap.get?_push_of_some _ z)) ?begin_ ?end_
      case begin_ => exact ⟨[], #[], 0, _, SetN.empty (Heap.get?_push_of_some _ new), fun p z => (nomatch z), fun p z => (by simp at z), Nat.le_refl _⟩
      case end_ =>
        intro s' L es ep t mv set_ g kp
        have es' := Moved.eq_with mv
        rw [es']
        show wpAny _ _ _ _ _ _
        refine wpAny_pure ?_
        show wpAny _ _ (ret Value.none) _ _ _
        exact wpAny_pure ⟨rfl, s'.heap, s'.toks, L, es, ep, t, rfl, set_, count ▸ g, kp⟩
    · rcases res2 with err | fl2
      · exact r2
      cases fl2 with
      | ret v =>
        obtain ⟨rfl, h', tk, L, es, ep, t, rfl, set_, g, kp⟩ := r2
        repeat (any_goals first | assumption | wp_step)
        exact done h' _ L es ep t set_ g kp
      | _ => exact r2.elim
  | _ => exact r1.elim
end L2

set_option maxHeartbeats 4000000
/-! Dicts of nested keys: the rules over expressions. -/
namespace L2
open PySem PySem.Spec PyProof.Rows
theorem nd_typeIs {X : Cx} {pins : List (Addr × Obj)} {σ : St} {H : Hp} {s : Shared} {a : Addr} {kvs : List (NestedKey × V)} (I : Inv X pins σ H s) (g : ND X.prog X.w H a kvs) :
    s.TypeIs (.ref a) "dict" ∧ ∀ b, Value.ref a = .ref b → ∃ ob, s.heap.get? b = some ob ∧ ob.dict = none := by
  obtain ⟨hd, z, xs, rel, e, dd⟩ := nd_of I.hok g
  refine ⟨dd.typeIs, fun b q => ?_⟩
  cases q
  obtain ⟨ob, _, _, h1, h2, _⟩ := dd
  exact ⟨ob, h1, h2.2.1⟩
/-- {} -/
def tNdNew (P : Program) (w : World) : TE := fun _ H Q => ∀ p φ, H p = none → ND P w (upd H p (.ext φ)) p [] → Q (.ref p) (upd H p (.ext φ))
/-- d[y] -/
def tNdGet (P : Program) (w : World) (td ty : TE) : TE := fun σ H Q => td σ H fun x H1 => ty σ H1 fun y H2 => ∃ a kvs k v, x = .ref a ∧ ND P w H2 a kvs ∧ KeyN H2 k y ∧ valV kvs k = some v ∧ Q v H2
/-- y in d, y not in d -/
def tNdIn (P : Program) (w : World) (neg : Bool) (ty td : TE) : TE := fun σ H Q => ty σ H fun y H1 => td σ H1 fun x H2 => ∃ a kvs k, x = .ref a ∧ ND P w H2 a kvs ∧ KeyN H2 k y ∧ Q (.bl (if neg then !(valV kvs k).isSome else (valV kvs k).isSome)) H2
/-- d[y] = v -/
def sNdPut (P : Program) (w : World) (td ty tv : TE) : TS := fun D σ H => tv σ H fun v H1 => td σ H1 fun x H2 => ty σ H2 fun y H3 => ∃ a kvs k, x = .ref a ∧ ND P w H3 a kvs ∧ KeyN H3 k y ∧ kvs.length < sizeLine ∧ ∀ H4, NPut P w H3 a (putK kvs k v) H4 → D.nx σ H4
/-- d.get(y), d.get(y, z) -/
def tNdGet1 (P : Program) (w : World) (td ty : TE) : TE := fun σ H Q => td σ H fun x H1 => ∃ a, x = .ref a ∧ (∃ kvs, ND P w H1 a kvs) ∧ ty σ H1 fun y H2 => ∃ kvs k, ND P w H2 a kvs ∧ KeyN H2 k y ∧ Q ((valV kvs k).getD .non) H2
def tNdGet2 (P : Program) (w : World) (td ty tx : TE) : TE := fun σ H Q => td σ H fun x H1 => ∃ a, x = .ref a ∧ (∃ kvs, ND P w H1 a kvs) ∧ ty σ H1 fun y H2 => tx σ H2 fun z H3 => ∃ kvs k, ND P w H3 a kvs ∧ KeyN H3 k y ∧ Q ((valV kvs k).getD z) H3
/-- d.setdefault(y, z) -/
def tNdSetd (P : Program) (w : World) (td ty tx : TE) : TE := fun σ H Q => td σ H fun x H1 => ∃ a, x = .ref a ∧ (∃ kvs, ND P w H1 a kvs) ∧ ty σ H1 fun y H2 => tx σ H2 fun z H3 => ∃ kvs k, ND P w H3 a kvs ∧ KeyN H3 k y ∧ kvs.length < sizeLine ∧
  (∀ v, valV kvs k = some v → Q v H3) ∧ (valV kvs k = none → ∀ H4, NPut P w H3 a (putK kvs k z) H4 → Q z H4)
section
variable {X : Cx} {P : Program} {w : World} {o i e f value : Expr} {pos pos' apos cpos : Pos} {td ty tv tx : TE}
theorem pe_dnewN (hP : X.prog = P) (hw : X.w = w) : PE X (.Dict [] [] pos) (tNdNew P w) := by
  subst hP hw
  refine ⟨fun pins s σ H Q I h => ?_⟩
  have new : NdObj X.prog X.w s.heap.objs.size [] (s.heap.push { cls := .type "dict", data := .dict #[] }) := ⟨_, _, _, Heap.get?_push_size _ rfl, ⟨rfl, rfl, rfl⟩, rfl, rfl, List.nodup_nil⟩
  have free := I.hok.fresh (Nat.le_refl s.heap.objs.size)
  have ok : ObjOk X.prog X.w H (s.heap.push { cls := .type "dict", data := .dict #[] }) s.heap.objs.size (.ext (NdObj X.prog X.w s.heap.objs.size [])) := ⟨new, ⟨_, Heap.get?_push_size _ rfl⟩, fun _ _ x k => x.at k⟩
  have nd : ND X.prog X.w (upd H s.heap.objs.size (.ext (NdObj X.prog X.w s.heap.objs.size []))) s.heap.objs.size [] := ⟨beq_eq_false_iff_ne.mpr (Nat.ne_of_gt I.big), Nat.zero_le _, [], .nil, upd_same⟩
  exact wpAny_Dict_empty ⟨.ref s.heap.objs.size, _, I.laid (a := s.heap.objs.size) (o := .ext _) (t' := s.toks) (fun _ _ q => Heap.get?_push_of_some _ q) (Nat.le_refl _) ok, rfl, h _ _ free nd⟩
theorem pe_ndget (hP : X.prog = P) (hw : X.w = w) (hu : X.A.units + 9 < cLine) (ho : PE X o td) (hi : PE X i ty) (hs : NoSl i) : PE X (.Subscript o i pos) (tNdGet P w td ty) := by
  subst hP hw
  refine ⟨fun pins s σ H Q I h => ?_⟩
  refine subD_of PySem.F.slot_dict_getitem.lookup hs (thn (ho.run pins s σ H _ I h) fun u s1 ⟨x, H1, I1, rx, q1⟩ => thn (hi.run pins s1 σ H1 _ I1 q1) fun iv s2 ⟨y, H2, I2, ry, a, kvs, k, v, ex, g, hk, hv, q2⟩ => ?_)
  subst ex
  obtain rfl : u = Value.ref a := rx
  exact ⟨(nd_typeIs I2 g).1, nd_getItem hu I2 g hk hv ry fun w' s3 I3 rw' => ⟨v, H2, I3, rw', q2⟩⟩
theorem pc_ndin (hP : X.prog = P) (hw : X.w = w) (hu : X.A.units + 9 < cLine) (hi : PE X i ty) (ho : PE X o td) : PC X .In i o (tNdIn P w false ty td) := by
  subst hP hw
  refine ⟨fun pins s σ H Q I h => ?_⟩
  refine thn (hi.run pins s σ H _ I h) fun iv s1 ⟨y, H1, I1, ry, q1⟩ => thn (ho.run pins s1 σ H1 _ I1 q1) fun u s2 ⟨x, H2, I2, rx, a, kvs, k, ex, g, hk, q2⟩ => ?_
  subst ex
  obtain rfl : u = Value.ref a := rx
  exact nd_in hu I2 g hk ry fun s3 I3 => ⟨.bl (valV kvs k).isSome, H2, I3, rfl, q2⟩
theorem pc_ndnotin (hP : X.prog = P) (hw : X.w = w) (hu : X.A.units + 9 < cLine) (hi : PE X i ty) (ho : PE X o td) : PC X .NotIn i o (tNdIn P w true ty td) := by
  subst hP hw
  refine ⟨fun pins s σ H Q I h => ?_⟩
  refine thn (hi.run pins s σ H _ I h) fun iv s1 ⟨y, H1, I1, ry, q1⟩ => thn (ho.run pins s1 σ H1 _ I1 q1) fun u s2 ⟨x, H2, I2, rx, a, kvs, k, ex, g, hk, q2⟩ => ?_
  subst ex
  obtain rfl : u = Value.ref a := rx
  exact nd_notIn hu I2 g hk ry fun s3 I3 => ⟨.bl (!(valV kvs k).isSome), H2, I3, rfl, q2⟩
theorem ps_ndput (hP : X.prog = P) (hw : X.w = w) (hu : X.A.units + 9 < cLine) (ho : PE X o td) (hi : PE X i ty) (hv : PE X value tv) (hs : swapsWith value (some (.Subscript o i pos')) pos.line X.env = pure false) :
    PS X (.Assign [.Subscript o i pos'] value pos) (sNdPut P w td ty tv) := by
  subst hP hw
  refine ⟨fun pins s σ H D I h => ?_⟩
  refine wpAny_Assign_Subscript (thn (hv.run pins s σ H _ I h) fun r s1 ⟨v, H1, I1, rv, q1⟩ => thn (ho.run pins s1 σ H1 _ I1 q1) fun u s2 ⟨x, H2, I2, rx, q2⟩ => thn (hi.run pins s2 σ H2 _ I2 q2) fun iv s3 ⟨y, H3, I3, ry, a, kvs, k, ex, g, hk, hl, q3⟩ => ?_) hs
  subst ex
  obtain rfl : u = Value.ref a := rx
  exact nd_setItem hu I3 g hk hl ry rv fun H4 s4 n I4 => ⟨σ, H4, I4, q3 H4 n⟩
theorem pe_ndget1 (hP : X.prog = P) (hw : X.w = w) (hu : X.A.units + 9 < cLine) (ho : PE X o td) (he : PE X e ty) (m : M1 X o "get" apos e cpos) : PE X (.Call (.Attribute o "get" apos) [e] [] cpos) (tNdGet1 P w td ty) := by
  subst hP hw
  refine ⟨fun pins s σ H Q I h => ?_⟩
  refine wpAny_Call_method m.base m.few m.line PySem.F.plainAttrs_dict PySem.F.slot_dict_get PySem.F.type_dict_get (thn (ho.run pins s σ H _ I h) fun u s1 ⟨x, H1, I1, rx, a, ex, ⟨kvs0, d⟩, q1⟩ => ?_)
  subst ex
  obtain rfl : u = Value.ref a := rx
  obtain ⟨t1, t2⟩ := nd_typeIs I1 d
  refine ⟨t1, t2, ?_⟩
  rw [m.trees]
  refine Calls.callWith_builtin rfl (Calls.evalArgs_plain (Calls.spliced_cons (thn (he.run pins s1 σ H1 _ I1 q1) fun iv s2 ⟨y, H2, I2, ry, kvs, k, g, hk, q2⟩ => Calls.spliced_nil ?_)))
  exact nd_get1 hu I2 g hk ry fun w' s3 I3 rw' => ⟨_, H2, I3, rw', q2⟩
theorem pe_ndget2 (hP : X.prog = P) (hw : X.w = w) (hu : X.A.units + 9 < cLine) (ho : PE X o td) (he : PE X e ty) (hf : PE X f tx) (m : M2 X o "get" apos e f cpos) : PE X (.Call (.Attribute o "get" apos) [e, f] [] cpos) (tNdGet2 P w td ty tx) := by
  subst hP hw
  refine ⟨fun pins s σ H Q I h => ?_⟩
  refine wpAny_Call_method m.base m.few m.line PySem.F.plainAttrs_dict PySem.F.slot_dict_get PySem.F.type_dict_get (thn (ho.run pins s σ H _ I h) fun u s1 ⟨x, H1, I1, rx, a, ex, ⟨kvs0, d⟩, q1⟩ => ?_)
  subst ex
  obtain rfl : u = Value.ref a := rx
  obtain ⟨t1, t2⟩ := nd_typeIs I1 d
  refine ⟨t1, t2, ?_⟩
  rw [m.trees]
  refine Calls.callWith_builtin rfl (Calls.evalArgs_plain (Calls.spliced_cons (thn (he.run pins s1 σ H1 _ I1 q1) fun iv s2 ⟨y, H2, I2, ry, q2⟩ =>
    Calls.spliced_cons (thn (hf.run pins s2 σ H2 _ I2 q2) fun fv s3 ⟨z, H3, I3, rz, kvs, k, g, hk, q3⟩ => Calls.spliced_nil ?_))))
  exact nd_get2 hu I3 g hk ry rz fun w' s4 I4 rw' => ⟨_, H3, I4, rw', q3⟩
theorem pe_ndsetd (hP : X.prog = P) (hw : X.w = w) (hu : X.A.units + 9 < cLine) (ho : PE X o td) (he : PE X e ty) (hf : PE X f tx) (m : M2 X o "setdefault" apos e f cpos) : PE X (.Call (.Attribute o "setdefault" apos) [e, f] [] cpos) (tNdSetd P w td ty tx) := by
  subst hP hw
  refine ⟨fun pins s σ H Q I h => ?_⟩
  refine wpAny_Call_method m.base m.few m.line PySem.F.plainAttrs_dict PySem.F.slot_dict_setdefault PySem.F.type_dict_setdefault (thn (ho.run pins s σ H _ I h) fun u s1 ⟨x, H1, I1, rx, a, ex, ⟨kvs0, d⟩, q1⟩ => ?_)
  subst ex
  obtain rfl : u = Value.ref a := rx
  obtain ⟨t1, t2⟩ := nd_typeIs I1 d
  refine ⟨t1, t2, ?_⟩
  rw [m.trees]
  refine Calls.callWith_builtin rfl (Calls.evalArgs_plain (Calls.spliced_cons (thn (he.run pins s1 σ H1 _ I1 q1) fun iv s2 ⟨y, H2, I2, ry, q2⟩ =>
    Calls.spliced_cons (thn (hf.run pins s2 σ H2 _ I2 q2) fun fv s3 ⟨z, H3, I3, rz, kvs, k, g, hk, hl, q3, q4⟩ => Calls.spliced_nil ?_))))
  exact nd_setd hu I3 g hk hl ry rz (fun v hv w' s4 I4 rw' => ⟨v, _, I4, rw', q3 v hv⟩) fun hn H4 w' s4 n I4 rw' => ⟨z, H4, I4, rw', q4 hn H4 n⟩
/-- len(d) -/
theorem call_len_nd : CallR X (.builtin "len") (fun xs H Q => ∃ (p : Addr) (kvs : List (NestedKey × V)), xs = [.ref p] ∧ ND X.prog X.w H p kvs ∧ Q (.int ((kvs.length : Nat) : Int)) H) := by
  intro pins s σ H xs us Q I r h
  obtain ⟨p, kvs, rfl, hp, q⟩ := h
  obtain ⟨u, rfl, rx⟩ := vals1 r
  obtain rfl : u = .ref p := rx
  obtain ⟨hd, z, ys, rel, e, dd⟩ := nd_of I.hok hp
  have hl : kvs.length = ys.length := Paired.length rel
  refine call_len_dictH hd dd (by rw [← hl]; rw [sizeLine_eq] at z; omega) ?_
  rw [← hl]
  exact ⟨.int ((kvs.length : Nat) : Int), H, I.tok _, ⟨_, rfl⟩, q⟩
end
end L2

set_option maxHeartbeats 4000000
/-! Sets whose members are keys of any depth, over the layer: set(xs), len of one. -/
namespace L2
open PySem PySem.Spec PyProof.Rows
/-- the object of a set, without its members' own tuples -/
def SnObj (P : Program) (w : World) (a : Addr) (L : List (Addr × NestedKey)) : Heap → Prop := fun h => ∃ es ep t, (∃ o, h.get? a = some o ∧ o.ExactSet ∧ o.data = .set es ep t) ∧ (es.toList = L.map fun p => (p.2.hash w, Value.ref p.1)) ∧ TabOk t (L.map fun p => p.2.hash w) ∧
  (L.map (·.2)).Nodup ∧ (w.params.followText "set-order" = true ∨ t.led = true) ∧ L.length * 5 < t.mask * 3 ∧ L.length < 64
theorem SnObj.at {P : Program} {w : World} {a : Addr} {L : List (Addr × NestedKey)} {h h' : Heap} (x : SnObj P w a L h) (k : ∀ o, h.get? a = some o → h'.get? a = some o) : SnObj P w a L h' := by
  obtain ⟨es, ep, t, ⟨o, e, r⟩, q⟩ := x
  exact ⟨es, ep, t, ⟨o, k o e, r⟩, q⟩
theorem SetN.obj0 {P : Program} {w : World} {h : Heap} {a : Addr} {L : List (Addr × NestedKey)} {es : Array (Int × Value)} {ep : Nat} {t : SetTable} (R : SetN P w h a L es ep t) : SnObj P w a L h := ⟨es, ep, t, R.obj, R.ents, R.tab, R.one, R.led, R.room, R.few⟩
/-- at a stands the set of the keys of L -/
def SN (P : Program) (w : World) (H : Hp) (a : Addr) (L : List (Addr × NestedKey)) : Prop := H a = some (.ext (SnObj P w a L)) ∧ ∀ p ∈ L, KeyN H p.2 (.ref p.1)
theorem KeyN.keep {H H' : Hp} {k : NestedKey} {y : V} (x : KeyN H k y) (s : ∀ a xs, H a = some (.tup xs) → H' a = some (.tup xs)) : KeyN H' k y := by
  obtain ⟨d, b, e, n⟩ := x
  exact ⟨d, b, e, n.keep s⟩
theorem key_refs : ∀ {ks : List (Addr × NestedKey)} {us : List Value}, Vals (ks.map fun p => V.ref p.1) us → us = ks.map fun p => Value.ref p.1
  | [], _, .nil => rfl
  | p :: ks, _, .cons r t => by
    cases r
    rw [key_refs t]
    rfl
/-- set(xs): a new set of the keys in xs -/
def rSetN (K : PySem.W.Frag) (P : Program) (w : World) : List V → Hp → VK → Prop := fun xs H Q => ∃ (l : Addr) (ks : List (Addr × NestedKey)), xs = [V.ref l] ∧ (SqL K H l (ks.map fun p => V.ref p.1) ∨ SqT K H l (ks.map fun p => V.ref p.1)) ∧ (∀ p ∈ ks, KeyN H p.2 (.ref p.1)) ∧ ks.length < 64 ∧
  ∀ a L, H a = none → Took ks ks.length L → (L.map (·.2)).Nodup → Q (.ref a) (upd H a (.ext (SnObj P w a L)))
theorem cr_setN {X : Cx} (hc : X.calm = true) (hu : X.A.units + 64 < cLine) : CallR X (.type "set") (rSetN X.K X.prog X.w) := by
  intro pins s σ H xs us Q I r h
  obtain ⟨l, ks, rfl, hl, hk, few, q⟩ := h
  obtain ⟨u, rfl, rx⟩ := vals1 r
  obtain rfl : u = Value.ref l := rx
  have free := I.hok.fresh (Nat.le_refl s.heap.objs.size)
  have mem : ∀ p ∈ ks, Mem X.prog X.w s.heap p.2 p.1 := fun p m => (hk p m).is I.hok
  have fin : ∀ (h' : Heap) (tk : Nat) L es ep t, SetN X.prog X.w h' s.heap.objs.size L es ep t → Took ks ks.length L → (∀ b o, s.heap.get? b = some o → h'.get? b = some o) → ∃ y H', Inv X pins σ H' { s with heap := h', toks := tk } ∧ RelV y (Value.ref s.heap.objs.size) ∧ Q y H' := by
    intro h' tk L es ep t R g kp
    obtain ⟨o, e, _⟩ := R.obj
    exact ⟨.ref s.heap.objs.size, _, I.laid (t' := tk) (o := .ext (SnObj X.prog X.w s.heap.objs.size L)) kp (Nat.le_refl _) ⟨R.obj0, ⟨o, e⟩, fun h1 h2 x k => x.at k⟩, rfl, q _ L free g R.one⟩
  rcases hl with hl | hl
  · obtain ⟨its, rv, pl, hz⟩ := I.list hl
    exact make_set_list (P := X.prog) (w := X.w) ks (I.ok.hd hc) pl.isList (by simpa using key_refs rv) mem few (by omega) fin
  · obtain ⟨its, rv, pl, hz⟩ := I.tuple hl
    exact make_set_tuple (P := X.prog) (w := X.w) ks (I.ok.hd hc) pl (by simpa using key_refs rv) mem few (by omega) fin
/-- len(s) -/
theorem call_len_sn {X : Cx} : CallR X (.builtin "len") (fun xs H Q => ∃ (p : Addr) (L : List (Addr × NestedKey)), xs = [.ref p] ∧ H p = some (.ext (SnObj X.prog X.w p L)) ∧ Q (.int ((L.length : Nat) : Int)) H) := by
  intro pins s σ H xs us Q I r h
  obtain ⟨p, L, rfl, hp, q⟩ := h
  obtain ⟨u, rfl, rx⟩ := vals1 r
  obtain rfl : u = .ref p := rx
  obtain ⟨⟨es, ep, t, ⟨o, e, ex, d⟩, en, tb, _, _, room, few⟩, _, _⟩ := (show ObjOk X.prog X.w H s.heap p (.ext (SnObj X.prog X.w p L)) from I.hok p _ hp)
  have n := ents_size en
  have fits : t.fits es.size = true := by
    have l1 := tb.sz
    rw [List.length_map] at l1
    unfold SetTable.fits SetTable.fill
    rw [tb.dm, Bool.and_eq_true, beq_iff_eq, decide_eq_true_eq]
    show t.place.size = es.size ∧ t.place.size + 0 ≤ t.mask
    omega
  exact call_len_set e ex d fits (by omega) ⟨.int ((L.length : Nat) : Int), H, I.tok _, ⟨_, by rw [n]⟩, q⟩
/-! ### how many there are -/
theorem nodup_perm {α : Type} [DecidableEq α] : ∀ {A B : List α}, A.Nodup → (∀ x ∈ A, x ∈ B) → B.length ≤ A.length → A.Perm B
  | [], B, _, _, l => by rw [List.eq_nil_of_length_eq_zero (Nat.le_zero.mp l)]
  | x :: A, B, nd, sub, l => by
    rw [List.nodup_cons] at nd
    have hx := sub x List.mem_cons_self
    have lb := List.length_erase_of_mem hx
    have pos := List.length_pos_of_mem hx
    refine (List.Perm.cons x (nodup_perm nd.2 (fun y hy => ?_) ?_)).trans (List.perm_cons_erase hx).symm
    · have ne : y ≠ x := fun e => nd.1 (e ▸ hy)
      exact (List.mem_erase_of_ne ne).mpr (sub y (List.mem_cons_of_mem _ hy))
    · rw [List.length_cons] at l
      omega
/-- as many as there were just if no two were the same -/
theorem Took.count {ks L : List (Addr × NestedKey)} (g : Took ks ks.length L) (one : (L.map (·.2)).Nodup) : L.length = ks.length ↔ (ks.map (·.2)).Nodup := by
  have all : ∀ k ∈ ks.map (·.2), k ∈ L.map (·.2) := fun k m => by
    obtain ⟨p, hp, rfl⟩ := List.mem_map.mp m
    exact g.all_ p (by rw [List.take_length]; exact hp)
  have sub : ∀ k ∈ L.map (·.2), k ∈ ks.map (·.2) := fun k m => by
    obtain ⟨p, hp, rfl⟩ := List.mem_map.mp m
    exact List.mem_map.mpr ⟨p, List.mem_of_mem_take (g.from_ p hp), rfl⟩
  constructor
  · intro e
    exact (nodup_perm one sub (by rw [List.length_map, List.length_map, e]; exact Nat.le_refl _)).nodup_iff.mp one
  · intro nd
    have z := (nodup_perm nd all (by rw [List.length_map, List.length_map]; exact g.len_)).length_eq
    rw [List.length_map, List.length_map] at z
    exact z.symm
end L2

set_option maxHeartbeats 4000000
/-! sorted(list) and sorted(set) of data that are alike, to any depth. -/
namespace L2
open PySem PySem.Spec PyProof.Rows PySem.W PySem.SeqAt
/-- a stands no later than b -/
def leD (a b : V × PyData) : Bool := !dataLt b.2 a.2
/-- the list in order: each value with its datum -/
def inOrder (zs : List (V × PyData)) : List (V × PyData) := zs.mergeSort leD
theorem inOrder_perm (zs : List (V × PyData)) : (inOrder zs).Perm zs := List.mergeSort_perm zs leD
theorem leD_is (h : Heap) (ds : List PyData) (a b : V × PyData) : sortLe (dataKind h ds).toKeyOrd false (fun z : V × PyData => keyToks z.2) a b = leD a b := rfl
theorem inOrder_sorted (zs : List (V × PyData)) : (inOrder zs).Pairwise fun a b => leD a b = true := by
  have z := sort_pairwise (sortLe_total (listOrd itemOrd) false fun z : V × PyData => keyToks z.2) zs
  exact z
theorem each_reads {h : Heap} : ∀ {ds : List PyData} {xs : List V} {us : List Value} {as : List Addr}, ReadsAll h us ds as → Vals xs us → EachIs (fun u z => RelV z.1 u ∧ ∃ bs, Reads h u z.2 bs) us (xs.zip ds) ∧ EachIs (fun u d => ∃ bs, Reads h u d bs) us ds
  | [], xs, us, as, r, v => by
    cases r
    cases v
    exact ⟨.nil, .nil⟩
  | d :: ds, xs, us, as, r, v => by
    cases r with
    | cons r1 r2 =>
      cases v with
      | cons v1 v2 =>
        obtain ⟨e1, e2⟩ := each_reads r2 v2
        exact ⟨.cons ⟨v1, _, r1⟩ e1, .cons ⟨_, r1⟩ e2⟩
theorem each_vals : ∀ {us : List Value} {zs : List (V × PyData)}, EachIs (fun u z => RelV z.1 u) us zs → Vals (zs.map Prod.fst) us
  | _, _, .nil => .nil
  | _, _, .cons h t => .cons h (each_vals t)
theorem zip_mem_right {α β : Type} {a : α} {b : β} {xs : List α} {ys : List β} (h : (a, b) ∈ xs.zip ys) : b ∈ ys := (List.of_mem_zip h).2
/-- what the model's sort leaves -/
theorem sorted_each {h : Heap} {ds : List PyData} {xs : List V} {us : List Value} (al : AllAlike ds) (e : EachIs (fun u z => RelV z.1 u ∧ ∃ bs, Reads h u z.2 bs) us (xs.zip ds)) :
    Vals ((inOrder (xs.zip ds)).map Prod.fst) (sortVals (dataKind h ds) false us us) := by
  refine each_vals (sortVals_each (κ := dataKind h ds) (R := fun u z => RelV z.1 u) (fun z : V × PyData => keyToks z.2) (e.mono fun u z q => q.1) ?_)
  have inside : ∀ {us : List Value} {zs : List (V × PyData)}, EachIs (fun u z => RelV z.1 u ∧ ∃ bs, Reads h u z.2 bs) us zs → (∀ z ∈ zs, z.2 ∈ ds) → EachIs (fun u z => (dataKind h ds).keyOf u = some (keyToks z.2)) us zs := by
    intro us zs q
    induction q with
    | nil => exact fun _ => .nil
    | cons q1 _ ih =>
      intro m
      obtain ⟨_, bs, r⟩ := q1
      exact .cons (dataKind_some al (m _ List.mem_cons_self) r) (ih fun z hz => m z (List.mem_cons_of_mem _ hz))
  exact inside e fun z hz => zip_mem_right hz
/-- sorted(xs), a new list -/
def rSortedD (K : PySem.W.Frag) : List V → Hp → VK → Prop := fun vs H Q => ∃ (l : Addr) (xs : List V) (ds : List PyData), vs = [V.ref l] ∧ SqL K H l xs ∧ DpAll K H xs ds ∧ AllAlike ds ∧ Sortable ds ∧ (∀ d ∈ ds, d.depth ≤ 8) ∧
  ∀ p, H p = none → Q (.ref p) (upd H p (.lst ((inOrder (xs.zip ds)).map Prod.fst)))
theorem cr_sortedD {X : Cx} (hu : X.A.units + 20 < cLine) : CallR X (.builtin "sorted") (rSortedD X.K) := by
  intro pins s σ H vs us Q I r h
  obtain ⟨l, xs, ds, rfl, hl, hd, al, so, dp, q⟩ := h
  obtain ⟨u, rfl, rx⟩ := vals1 r
  obtain rfl : u = Value.ref l := rx
  obtain ⟨its, rv, pl, hz⟩ := I.list hl
  obtain ⟨as, ra⟩ := Dp.readsAll I ds xs its hd rv
  have kp : ∀ b o, s.heap.get? b = some o → (sortingHeap (copyHeap s.heap its) (s.heap.objs.size + 1) its).get? b = some o := fun b o e => sorting_copy_old e
  obtain ⟨e1, e2⟩ := each_reads (ReadsAll.keeps kp ra) rv
  have S : SortsAt X.prog X.w X.A.in1.in1 { s with heap := sortingHeap (copyHeap s.heap its) (s.heap.objs.size + 1) its } (dataKind (sortingHeap (copyHeap s.heap its) (s.heap.objs.size + 1) its) ds) its :=
    SortsAt.data (s := { s with heap := sortingHeap (copyHeap s.heap its) (s.heap.objs.size + 1) its }) e2 al so fun d m => by
      have := dp d m
      show X.A.units + 1 + 1 + d.depth < cLine
      omega
  have n : its.length = xs.length := rv.length.symm
  refine sorted_vals pl.isList S (by omega) ?_
  obtain ⟨ep, he⟩ := PyProof.Rows.sortedAll_at s.heap its (sortVals (dataKind (sortingHeap (copyHeap s.heap its) (s.heap.objs.size + 1) its) ds) false its its).toArray
  have sv := sorted_each al e1
  have free : H (s.heap.objs.size + 1) = none := I.hok.fresh (Nat.le_succ _)
  refine ⟨.ref (s.heap.objs.size + 1), upd H (s.heap.objs.size + 1) (.lst ((inOrder (xs.zip ds)).map Prod.fst)), I.laid (t' := s.toks) (fun _ _ => PyProof.Rows.sortedAll_old) (Nat.le_succ _) ⟨?_, _, ep, sv, he⟩, rfl, q _ free⟩
  rw [sv.length, sortVals_length false rfl, n]
  exact hz
end L2

set_option maxHeartbeats 4000000
/-! sorted(set) of keys that are alike. -/
namespace L2
open PySem PySem.Spec PyProof.Rows PySem.W PySem.SeqAt
mutual
theorem NK.dp {K : PySem.W.Frag} {H : Hp} : ∀ {k : NestedKey} {v : V}, NK H k v → Dp K H v k.data
  | _, _, .non => .non
  | _, _, .int i => .int i
  | _, _, .txt x => .str x
  | _, _, .tup h t => .tup (SqT.of h) (NKs.dps t)
theorem NKs.dps {K : PySem.W.Frag} {H : Hp} : ∀ {ks : List NestedKey} {vs : List V}, NKs H ks vs → DpAll K H vs (NestedKey.datas ks)
  | _, _, .nil => .nil
  | _, _, .cons h t => .cons (NK.dp h) (NKs.dps t)
end
theorem map_perm_back {α β : Type} {f : α → β} {l m : List β} (h : l.Perm m) : ∀ {L : List α}, m = L.map f → ∃ M : List α, M.Perm L ∧ l = M.map f := by
  induction h with
  | nil =>
    intro L e
    exact ⟨L, .refl L, e⟩
  | @cons x l m _ ih =>
    intro L e
    cases L with
    | nil => cases e
    | cons y L =>
      rw [List.map_cons] at e
      injection e with e1 e2
      obtain ⟨M, pm, e3⟩ := ih e2
      exact ⟨y :: M, pm.cons y, by rw [List.map_cons, e1, e3]⟩
  | @swap x y l =>
    intro L e
    match L, e with
    | p :: q :: L, e =>
      rw [List.map_cons, List.map_cons] at e
      injection e with e1 e2
      injection e2 with e2 e3
      exact ⟨q :: p :: L, .swap p q L, by rw [List.map_cons, List.map_cons, e1, e2, e3]⟩
  | trans _ _ ih1 ih2 =>
    intro L e
    obtain ⟨M, pm, e2⟩ := ih2 e
    obtain ⟨N, pn, e3⟩ := ih1 e2
    exact ⟨N, pn.trans pm, e3⟩
theorem ref_vals : ∀ M : List (Addr × NestedKey), Vals (M.map fun z => V.ref z.1) (M.map fun z => Value.ref z.1)
  | [] => .nil
  | _ :: M => .cons rfl (ref_vals M)
theorem key_dps {K : PySem.W.Frag} {H : Hp} : ∀ {M : List (Addr × NestedKey)}, (∀ z ∈ M, KeyN H z.2 (.ref z.1)) → DpAll K H (M.map fun z => V.ref z.1) (M.map fun z => z.2.data)
  | [], _ => .nil
  | z :: M, h => by
    obtain ⟨_, b, e, n⟩ := h z List.mem_cons_self
    cases e
    exact .cons n.dp (key_dps fun y m => h y (List.mem_cons_of_mem _ m))
/-- sorted(s), a new list of the members in order -/
def rSortedSN (P : Program) (w : World) : List V → Hp → VK → Prop := fun vs H Q => ∃ (a : Addr) (L : List (Addr × NestedKey)), vs = [V.ref a] ∧ SN P w H a L ∧ AllAlike (L.map fun z => z.2.data) ∧ Sortable (L.map fun z => z.2.data) ∧ (∀ z ∈ L, z.2.data.depth ≤ 8) ∧
  ∀ (p : Addr) (M : List (Addr × NestedKey)), H p = none → M.Perm L → (M.Pairwise fun x y => dataLt y.2.data x.2.data = false) → Q (.ref p) (upd H p (.lst (M.map fun z => V.ref z.1)))
theorem cr_sortedSN {X : Cx} (hc : X.calm = true) (hu : X.A.units + 20 < cLine) : CallR X (.builtin "sorted") (rSortedSN X.prog X.w) := by
  intro pins s σ H vs us Q I r h
  obtain ⟨a, L, rfl, ⟨ha, hk⟩, al, so, dp, q⟩ := h
  obtain ⟨u, rfl, rx⟩ := vals1 r
  obtain rfl : u = Value.ref a := rx
  obtain ⟨⟨es, ep, t, ⟨o, e, ex, d⟩, en, tb, one, led, room, few⟩, _, _⟩ := (show ObjOk X.prog X.w H s.heap a (.ext (SnObj X.prog X.w a L)) from I.hok a _ ha)
  have n := ents_size en
  have fits : t.fits es.size = true := by
    have l1 := tb.sz
    rw [List.length_map] at l1
    unfold SetTable.fits SetTable.fill
    rw [tb.dm, Bool.and_eq_true, beq_iff_eq, decide_eq_true_eq]
    show t.place.size = es.size ∧ t.place.size + 0 ≤ t.mask
    omega
  refine Calls.call_function_entry kind_sorted plain_sorted entry_sorted (args_sorted1 (Value.ref a)) ?_
  unfold Builtin.«sorted»
  refine wpAny_bind (m := checkCount "sorted" 1 1 _) (wpAny_pure (wpAny_bind ?_))
  refine collect_set (A := X.A.in1) (I.ok.hd hc) ⟨o, e, ex.1, d⟩ fits (by unfold scanBound; omega) tb.ris led fun s1 out k1 hz g1 o1 pm => ?_
  rw [en, List.map_map] at pm
  obtain ⟨M, pM, rfl⟩ := map_perm_back pm (f := fun z : Addr × NestedKey => Value.ref z.1) rfl
  have lenM : M.length = L.length := pM.length_eq
  have big : (M.map fun z => Value.ref z.1).length ≤ sizeLine := by rw [List.length_map, lenM, sizeLine_eq]; omega
  have hkM : ∀ z ∈ M, KeyN H z.2 (.ref z.1) := fun z m => hk z (pM.mem_iff.mp m)
  have alM : AllAlike (M.map fun z => z.2.data) := fun x mx y my => al x ((pM.map _).mem_iff.mp mx) y ((pM.map _).mem_iff.mp my)
  have soM : Sortable (M.map fun z => z.2.data) := by
    rcases so with so | so
    · exact .inl fun x m => so x ((pM.map _).mem_iff.mp m)
    · exact .inr fun x m => so x ((pM.map _).mem_iff.mp m)
  obtain ⟨as, ra⟩ := Dp.readsAll I (M.map fun z => z.2.data) (M.map fun z => V.ref z.1) (M.map fun z => Value.ref z.1) (key_dps (K := X.K) hkM) (ref_vals M)
  refine wpAny_bind (wpAny_newList ?_ (by simpa using big))
  have at_ : (s1.heap.push (seqObj "list" (M.map fun z => Value.ref z.1).toArray 0)).get? s1.heap.objs.size = some (seqObj "list" (M.map fun z => Value.ref z.1).toArray 0) := Heap.get?_push_size _ rfl
  have kp : ∀ b ob, s.heap.get? b = some ob → (sortingHeap (s1.heap.push (seqObj "list" (M.map fun z => Value.ref z.1).toArray 0)) s1.heap.objs.size (M.map fun z => Value.ref z.1)).get? b = some ob := fun b ob z =>
    sortingHeap_old (Nat.ne_of_lt (Heap.lt_size (k1 b ob z))) (Heap.get?_push_of_some _ (k1 b ob z))
  obtain ⟨e1, e2⟩ := each_reads (ReadsAll.keeps kp ra) (ref_vals M)
  have S := SortsAt.data (prog := X.prog) (w := X.w) (A := X.A.in1.in1) (s := { s1 with heap := sortingHeap (s1.heap.push (seqObj "list" (M.map fun z => Value.ref z.1).toArray 0)) s1.heap.objs.size (M.map fun z => Value.ref z.1) }) e2 alM soM fun x m => by
    obtain ⟨z, mz, rfl⟩ := List.mem_map.mp m
    have := dp z (pM.mem_iff.mp mz)
    show X.A.units + 1 + 1 + z.2.data.depth < cLine
    omega
  have sv := sorted_each alM e1
  -- the members in order
  let G : Addr × NestedKey → V × PyData := fun z => (V.ref z.1, z.2.data)
  let N := M.mergeSort fun x y => leD (G x) (G y)
  have zipped : (M.map fun z => V.ref z.1).zip (M.map fun z => z.2.data) = M.map G := by
    rw [List.zip_map']
  have order : (inOrder (M.map G)).map Prod.fst = N.map fun z => V.ref z.1 := by
    have z : (M.mergeSort fun x y => leD (G x) (G y)).map G = inOrder (M.map G) := List.map_mergeSort fun x _ y _ => rfl
    rw [← z, List.map_map]
    rfl
  rw [zipped, order] at sv
  have pN : N.Perm L := (List.mergeSort_perm M _).trans pM
  have wN : N.Pairwise fun x y => dataLt y.2.data x.2.data = false := by
    have z : (inOrder (M.map G)).Pairwise fun x y => leD x y = true := inOrder_sorted _
    have z2 : (M.mergeSort fun x y => leD (G x) (G y)).map G = inOrder (M.map G) := List.map_mergeSort fun x _ y _ => rfl
    rw [← z2, List.pairwise_map] at z
    exact z.imp fun {x y} k => by
      have k' : (!dataLt y.2.data x.2.data) = true := k
      simpa using k'
  obtain ⟨c, hc2⟩ := sortedHeap_at (vs := M.map fun z => Value.ref z.1) (out := (sortVals (dataKind (sortingHeap (s1.heap.push (seqObj "list" (M.map fun z => Value.ref z.1).toArray 0)) s1.heap.objs.size (M.map fun z => Value.ref z.1)) (M.map fun z => z.2.data)) false (M.map fun z => Value.ref z.1) (M.map fun z => Value.ref z.1)).toArray) at_
  refine wpAny_bind (wpAny_holding (wpAny_call_entry slot_list_sort ⟨_, at_, rfl⟩ entry_list_sort (list_sort_vals (s := { s1 with heap := s1.heap.push (seqObj "list" (M.map fun z => Value.ref z.1).toArray 0) }) at_ S big ⟨_, rfl, ?_⟩) (args_list_sort _)))
  refine wpAny_pure ⟨_, rfl, ?_⟩
  have kept : ∀ b ob, s.heap.get? b = some ob → (sortedHeap (s1.heap.push (seqObj "list" (M.map fun z => Value.ref z.1).toArray 0)) s1.heap.objs.size (M.map fun z => Value.ref z.1) (sortVals (dataKind (sortingHeap (s1.heap.push (seqObj "list" (M.map fun z => Value.ref z.1).toArray 0)) s1.heap.objs.size (M.map fun z => Value.ref z.1)) (M.map fun z => z.2.data)) false (M.map fun z => Value.ref z.1) (M.map fun z => Value.ref z.1)).toArray).get? b = some ob := fun b ob z => by
    have lt := Heap.lt_size (k1 b ob z)
    rw [sortedHeap_old (Nat.ne_of_lt lt) (by rw [size_push']; exact Nat.lt_succ_of_lt lt)]
    exact Heap.get?_push_of_some _ (k1 b ob z)
  generalize sortedHeap (s1.heap.push (seqObj "list" (M.map fun z => Value.ref z.1).toArray 0)) s1.heap.objs.size (M.map fun z => Value.ref z.1) _ = hh at hc2 kept ⊢
  have free : H s1.heap.objs.size = none := I.hok.fresh hz
  have small : (N.map fun z => V.ref z.1).length ≤ sizeLine := by rw [List.length_map, pN.length_eq, sizeLine_eq]; omega
  have J : Inv X pins σ (upd H s1.heap.objs.size (.lst (N.map fun z => V.ref z.1))) { s with heap := hh, gens := s1.gens, drawn := s1.drawn, toks := s1.toks } :=
    I.call (ch := []) (Un.laid kept hz free) (I.hok.laid kept hz ⟨small, _, c, sv, hc2⟩) (by rw [g1]; exact I.bare) (fun _ z => nomatch z)
  have same : ({ s1 with heap := hh } : Shared) = { s with heap := hh, gens := s1.gens, drawn := s1.drawn, toks := s1.toks } := by
    cases s1
    cases s
    cases o1
    rfl
  rw [same]
  exact ⟨.ref s1.heap.objs.size, _, J, rfl, q _ N free pN wN⟩
end L2

set_option maxHeartbeats 4000000
/-! Sorting data of which every two are alike, or tuples that begin with different texts. -/
namespace L2
open PySem PySem.Spec PyProof.Rows PySem.W PySem.SeqAt
/-- tuples that begin with texts, and with different ones -/
def Apart (d d' : PyData) : Prop := ∃ a b xr yr, d = .tuple (.str a :: xr) ∧ d' = .tuple (.str b :: yr) ∧ (a == b) = false
def Mix (d d' : PyData) : Prop := alike d d' = true ∨ Apart d d'
def AllMix (ds : List PyData) : Prop := ∀ d ∈ ds, ∀ d' ∈ ds, Mix d d'
def Texty (ds : List PyData) : Prop := ∀ d ∈ ds, ∃ a r, d = .tuple (.str a :: r)
theorem alike_str (a b : Str) : alike (.str a) (.str b) = true := by simp [alike]
theorem eqv_str (a b : Str) : PyData.eqv (.str a) (.str b) = (a == b) := by simp [PyData.eqv]
theorem mix_unique {h : Heap} {v : Value} {d d' : PyData} {as as' : List Addr} (m : Mix d d') (r : Reads h v d as) (r' : Reads h v d' as') : keyToks d = keyToks d' := by
  rcases m with m | ⟨a, b, xr, yr, rfl, rfl, ne⟩
  · rw [alike_unique _ _ _ _ _ m r r']
  · exfalso
    cases r with
    | @tuple l o xs n _ _ h1 h2 h3 h4 =>
      cases r' with
      | @tuple l' o' xs' n' _ _ k1 k2 k3 k4 =>
        rw [h1] at k1
        injection k1 with k1
        subst k1
        rw [h3] at k3
        injection k3 with k3 _
        subst k3
        generalize xs.toList = zs at h4 k4
        cases h4 with
        | cons a1 a2 =>
          cases k4 with
          | cons b1 b2 =>
            cases a1
            cases b1
            simp at ne
theorem dataKind_mix {h : Heap} {ds : List PyData} (hal : AllMix ds) {v : Value} {d : PyData} {as : List Addr} (hd : d ∈ ds) (r : Reads h v d as) : (dataKind h ds).keyOf v = some (keyToks d) := by
  have q : ∃ d, d ∈ ds ∧ ∃ as, Reads h v d as := ⟨d, hd, as, r⟩
  have e : (dataKind h ds).keyOf v = some (keyToks q.choose) := dif_pos q
  obtain ⟨h1, as', h2⟩ := q.choose_spec
  rw [e, mix_unique (hal _ h1 _ hd) h2 r]
section
variable {prog : Program} {w : World} {A : Around} {s : Shared}
theorem sorts_mix {vs : List Value} {ds : List PyData} (e : EachIs (fun v d => ∃ as, Reads s.heap v d as) vs ds) (hal : AllMix ds) (ht : Texty ds) (hu : ∀ d, d ∈ ds → A.units + d.depth < cLine) : SortsAt prog w A s (dataKind s.heap ds) vs := by
  refine ⟨fun v hv => ?_, ?_⟩
  · obtain ⟨d, hd, as, r⟩ := e.left v hv
    exact ⟨_, dataKind_mix hal hd r⟩
  · refine ⟨tuples' true, ?_, fun h2 E Q hq => ?_⟩
    · intro E x y a b Q ha hb hq
      obtain ⟨d, as, hd, ra, rfl⟩ := dataKind_inv ha
      obtain ⟨d', as', hd', rb, rfl⟩ := dataKind_inv hb
      have room : A.units + min d.depth d'.depth < cLine := Nat.lt_of_le_of_lt (Nat.add_le_add_left (Nat.min_le_left _ _) _) (hu d hd)
      have m := hal d hd d' hd'
      obtain ⟨x1, r1, rfl⟩ := ht d hd
      obtain ⟨x2, r2, rfl⟩ := ht d' hd'
      have hq' : Q (dataLt (.tuple (.str x1 :: r1)) (.tuple (.str x2 :: r2))) s := hq
      rw [dataLt_tuple] at hq'
      cases ra with
      | @tuple l o xs n _ _ h1 h2 h3 h4 =>
        cases rb with
        | @tuple l' o' xs' n' _ _ k1 k2 k3 k4 =>
          have n1 : xs.size = (PyData.str x1 :: r1).length := by simpa using SeqAt.ReadsAll.length _ _ _ h4
          have n2 : xs'.size = (PyData.str x2 :: r2).length := by simpa using SeqAt.ReadsAll.length _ _ _ k4
          have rin := SeqAt.room_in room
          refine kat_lt h1 h3 k1 k3 ?_
          rcases m with m | ⟨a, b, xr, yr, ea, eb, ne⟩
          · refine katLex_alike (.str x1 :: r1) (.str x2 :: r2) 0 _ _ _ _ h4 k4 (by simpa [alike] using m) (by omega) (fun hb _ x r t ex => ?_) (by rw [n1, n2]) hq'
            obtain ⟨rfl, rfl⟩ := List.cons.inj ex
            exact fun z => nomatch z
          · injection ea with ea
            injection eb with eb
            injection ea with ea _
            injection eb with eb _
            injection ea with ea
            injection eb with eb
            subst ea eb
            have ev : PyData.eqv (.str x1) (.str x2) = false := by rw [eqv_str]; exact ne
            rw [dataLt_all_no (alike_str _ _) ev] at hq'
            generalize xs.toList = zs at h4
            generalize xs'.toList = zs' at k4
            cases h4 with
            | cons a1 a2 =>
              cases k4 with
              | cons b1 b2 =>
                rw [List.zip_cons_cons]
                have room1 : A.units + min (PyData.str x1).depth (PyData.str x2).depth < cLine := by
                  have : (PyData.str x1).depth = 0 := by simp [PyData.depth]
                  have := hu _ hd
                  omega
                refine kat_cons (eqAt_alike _ _ A s _ _ _ _ a1 b1 (alike_str _ _) room1 prog w _ _ ?_)
                rw [ev]
                exact kat_no (oneLt_alike (fun _ xs t => by cases t) a1 b1 (alike_str _ _) (fun z => by cases z) room1 hq')
    · obtain ⟨fs, t1, t2, t3⟩ := each_katTups e fun d hd => by
        obtain ⟨a, r, z⟩ := ht d hd
        exact ⟨_, r, z⟩
      refine kat_kind (T := .type "str") t1 (by omega) (fun f hf => ?_) (by decide) (by exact hq)
      obtain ⟨x, r, as, m1, m2⟩ := t3 f hf
      obtain ⟨a, r', z⟩ := ht _ m1
      injection z with z
      injection z with z _
      subst z
      exact looks_reads m2
end
end L2

set_option maxHeartbeats 4000000
/-! sorted(set) of tuples that begin with texts. -/
namespace L2
open PySem PySem.Spec PyProof.Rows PySem.W PySem.SeqAt
/-- what the model's sort leaves -/
theorem sorted_mix {h : Heap} {ds : List PyData} {xs : List V} {us : List Value} (al : AllMix ds) (e : EachIs (fun u z => RelV z.1 u ∧ ∃ bs, Reads h u z.2 bs) us (xs.zip ds)) :
    Vals ((inOrder (xs.zip ds)).map Prod.fst) (sortVals (dataKind h ds) false us us) := by
  refine each_vals (sortVals_each (κ := dataKind h ds) (R := fun u z => RelV z.1 u) (fun z : V × PyData => keyToks z.2) (e.mono fun u z q => q.1) ?_)
  have inside : ∀ {us : List Value} {zs : List (V × PyData)}, EachIs (fun u z => RelV z.1 u ∧ ∃ bs, Reads h u z.2 bs) us zs → (∀ z ∈ zs, z.2 ∈ ds) → EachIs (fun u z => (dataKind h ds).keyOf u = some (keyToks z.2)) us zs := by
    intro us zs q
    induction q with
    | nil => exact fun _ => .nil
    | cons q1 _ ih =>
      intro m
      obtain ⟨_, bs, r⟩ := q1
      exact .cons (dataKind_mix al (m _ List.mem_cons_self) r) (ih fun z hz => m z (List.mem_cons_of_mem _ hz))
  exact inside e fun z hz => zip_mem_right hz
/-- sorted(s), a new list of the members in order -/
def rSortedSM (P : Program) (w : World) : List V → Hp → VK → Prop := fun vs H Q => ∃ (a : Addr) (L : List (Addr × NestedKey)), vs = [V.ref a] ∧ SN P w H a L ∧ AllMix (L.map fun z => z.2.data) ∧ Texty (L.map fun z => z.2.data) ∧ (∀ z ∈ L, z.2.data.depth ≤ 8) ∧
  ∀ (p : Addr) (M : List (Addr × NestedKey)), H p = none → M.Perm L → (M.Pairwise fun x y => dataLt y.2.data x.2.data = false) → Q (.ref p) (upd H p (.lst (M.map fun z => V.ref z.1)))
theorem cr_sortedSM {X : Cx} (hc : X.calm = true) (hu : X.A.units + 20 < cLine) : CallR X (.builtin "sorted") (rSortedSM X.prog X.w) := by
  intro pins s σ H vs us Q I r h
  obtain ⟨a, L, rfl, ⟨ha, hk⟩, al, so, dp, q⟩ := h
  obtain ⟨u, rfl, rx⟩ := vals1 r
  obtain rfl : u = Value.ref a := rx
  obtain ⟨⟨es, ep, t, ⟨o, e, ex, d⟩, en, tb, one, led, room, few⟩, _, _⟩ := (show ObjOk X.prog X.w H s.heap a (.ext (SnObj X.prog X.w a L)) from I.hok a _ ha)
  have n := ents_size en
  have fits : t.fits es.size = true := by
    have l1 := tb.sz
    rw [List.length_map] at l1
    unfold SetTable.fits SetTable.fill
    rw [tb.dm, Bool.and_eq_true, beq_iff_eq, decide_eq_true_eq]
    show t.place.size = es.size ∧ t.place.size + 0 ≤ t.mask
    omega
  refine Calls.call_function_entry kind_sorted plain_sorted entry_sorted (args_sorted1 (Value.ref a)) ?_
  unfold Builtin.«sorted»
  refine wpAny_bind (m := checkCount "sorted" 1 1 _) (wpAny_pure (wpAny_bind ?_))
  refine collect_set (A := X.A.in1) (I.ok.hd hc) ⟨o, e, ex.1, d⟩ fits (by unfold scanBound; omega) tb.ris led fun s1 out k1 hz g1 o1 pm => ?_
  rw [en, List.map_map] at pm
  obtain ⟨M, pM, rfl⟩ := map_perm_back pm (f := fun z : Addr × NestedKey => Value.ref z.1) rfl
  have lenM : M.length = L.length := pM.length_eq
  have big : (M.map fun z => Value.ref z.1).length ≤ sizeLine := by rw [List.length_map, lenM, sizeLine_eq]; omega
  have hkM : ∀ z ∈ M, KeyN H z.2 (.ref z.1) := fun z m => hk z (pM.mem_iff.mp m)
  have alM : AllMix (M.map fun z => z.2.data) := fun x mx y my => al x ((pM.map _).mem_iff.mp mx) y ((pM.map _).mem_iff.mp my)
  have soM : Texty (M.map fun z => z.2.data) := fun x m => so x ((pM.map _).mem_iff.mp m)
  obtain ⟨as, ra⟩ := Dp.readsAll I (M.map fun z => z.2.data) (M.map fun z => V.ref z.1) (M.map fun z => Value.ref z.1) (key_dps (K := X.K) hkM) (ref_vals M)
  refine wpAny_bind (wpAny_newList ?_ (by simpa using big))
  have at_ : (s1.heap.push (seqObj "list" (M.map fun z => Value.ref z.1).toArray 0)).get? s1.heap.objs.size = some (seqObj "list" (M.map fun z => Value.ref z.1).toArray 0) := Heap.get?_push_size _ rfl
  have kp : ∀ b ob, s.heap.get? b = some ob → (sortingHeap (s1.heap.push (seqObj "list" (M.map fun z => Value.ref z.1).toArray 0)) s1.heap.objs.size (M.map fun z => Value.ref z.1)).get? b = some ob := fun b ob z =>
    sortingHeap_old (Nat.ne_of_lt (Heap.lt_size (k1 b ob z))) (Heap.get?_push_of_some _ (k1 b ob z))
  obtain ⟨e1, e2⟩ := each_reads (ReadsAll.keeps kp ra) (ref_vals M)
  have S := sorts_mix (prog := X.prog) (w := X.w) (A := X.A.in1.in1) (s := { s1 with heap := sortingHeap (s1.heap.push (seqObj "list" (M.map fun z => Value.ref z.1).toArray 0)) s1.heap.objs.size (M.map fun z => Value.ref z.1) }) e2 alM soM fun x m => by
    obtain ⟨z, mz, rfl⟩ := List.mem_map.mp m
    have := dp z (pM.mem_iff.mp mz)
    show X.A.units + 1 + 1 + z.2.data.depth < cLine
    omega
  have sv := sorted_mix alM e1
  -- the members in order
  let G : Addr × NestedKey → V × PyData := fun z => (V.ref z.1, z.2.data)
  let N := M.mergeSort fun x y => leD (G x) (G y)
  have zipped : (M.map fun z => V.ref z.1).zip (M.map fun z => z.2.data) = M.map G := by
    rw [List.zip_map']
  have order : (inOrder (M.map G)).map Prod.fst = N.map fun z => V.ref z.1 := by
    have z : (M.mergeSort fun x y => leD (G x) (G y)).map G = inOrder (M.map G) := List.map_mergeSort fun x _ y _ => rfl
    rw [← z, List.map_map]
    rfl
  rw [zipped, order] at sv
  have pN : N.Perm L := (List.mergeSort_perm M _).trans pM
  have wN : N.Pairwise fun x y => dataLt y.2.data x.2.data = false := by
    have z : (inOrder (M.map G)).Pairwise fun x y => leD x y = true := inOrder_sorted _
    have z2 : (M.mergeSort fun x y => leD (G x) (G y)).map G = inOrder (M.map G) := List.map_mergeSort fun x _ y _ => rfl
    rw [← z2, List.pairwise_map] at z
    exact z.imp fun {x y} k => by
      have k' : (!dataLt y.2.data x.2.data) = true := k
      simpa using k'
  obtain ⟨c, hc2⟩ := sortedHeap_at (vs := M.map fun z => Value.ref z.1) (out := (sortVals (dataKind (sortingHeap (s1.heap.push (seqObj "list" (M.map fun z => Value.ref z.1).toArray 0)) s1.heap.objs.size (M.map fun z => Value.ref z.1)) (M.map fun z => z.2.data)) false (M.map fun z => Value.ref z.1) (M.map fun z => Value.ref z.1)).toArray) at_
  refine wpAny_bind (wpAny_holding (wpAny_call_entry slot_list_sort ⟨_, at_, rfl⟩ entry_list_sort (list_sort_vals (s := { s1 with heap := s1.heap.push (seqObj "list" (M.map fun z => Value.ref z.1).toArray 0) }) at_ S big ⟨_, rfl, ?_⟩) (args_list_sort _)))
  refine wpAny_pure ⟨_, rfl, ?_⟩
  have kept : ∀ b ob, s.heap.get? b = some ob → (sortedHeap (s1.heap.push (seqObj "list" (M.map fun z => Value.ref z.1).toArray 0)) s1.heap.objs.size (M.map fun z => Value.ref z.1) (sortVals (dataKind (sortingHeap (s1.heap.push (seqObj "list" (M.map fun z => Value.ref z.1).toArray 0)) s1.heap.objs.size (M.map fun z => Value.ref z.1)) (M.map fun z => z.2.data)) false (M.map fun z => Value.ref z.1) (M.map fun z => Value.ref z.1)).toArray).get? b = some ob := fun b ob z => by
    have lt := Heap.lt_size (k1 b ob z)
    rw [sortedHeap_old (Nat.ne_of_lt lt) (by rw [size_push']; exact Nat.lt_succ_of_lt lt)]
    exact Heap.get?_push_of_some _ (k1 b ob z)
  generalize sortedHeap (s1.heap.push (seqObj "list" (M.map fun z => Value.ref z.1).toArray 0)) s1.heap.objs.size (M.map fun z => Value.ref z.1) _ = hh at hc2 kept ⊢
  have free : H s1.heap.objs.size = none := I.hok.fresh hz
  have small : (N.map fun z => V.ref z.1).length ≤ sizeLine := by rw [List.length_map, pN.length_eq, sizeLine_eq]; omega
  have J : Inv X pins σ (upd H s1.heap.objs.size (.lst (N.map fun z => V.ref z.1))) { s with heap := hh, gens := s1.gens, drawn := s1.drawn, toks := s1.toks } :=
    I.call (ch := []) (Un.laid kept hz free) (I.hok.laid kept hz ⟨small, _, c, sv, hc2⟩) (by rw [g1]; exact I.bare) (fun _ z => nomatch z)
  have same : ({ s1 with heap := hh } : Shared) = { s with heap := hh, gens := s1.gens, drawn := s1.drawn, toks := s1.toks } := by
    cases s1
    cases s
    cases o1
    rfl
  rw [same]
  exact ⟨.ref s1.heap.objs.size, _, J, rfl, q _ N free pN wN⟩
end L2

set_option maxHeartbeats 4000000
/-! a >= b of data that are alike, or of tuples that begin with different texts. -/
namespace L2
open PySem PySem.Spec PyProof.Rows PySem.W PySem.SeqAt
open AutoSeq1 (wpAny_loadPart')
open MeetsSeq MeetsSeq2 MeetsSeq3 SeqRoads2
section

/-- two tuples that part at their first items -/
theorem ge_heads (l b : Addr) (x0 y0 : Value) (xr yr : List Value) (n n2 : Nat) (dd dd2 : Option Addr) (sl sl2 : Array (Option Value)) (r : Bool) :
    Meets (Builtin.«tuple.__ge__» ⟨[.ref l, .ref b], []⟩)
      (fun A R s => s.heap.get? l = some { cls := .type "tuple", dict := dd, data := .seq (x0 :: xr).toArray n, slots := sl } ∧ s.heap.get? b = some { cls := .type "tuple", dict := dd2, data := .seq (y0 :: yr).toArray n2, slots := sl2 } ∧
        EqAt A.in1 s x0 y0 false ∧ RcOp .GtE A.in1 s x0 y0 r ∧ R (.ok (.ret (.bool r))) s) :=
  .of_wp fun prog w A R s h => by
    obtain ⟨hp, g, d, tk, os⟩ := s
    obtain ⟨hl, hb, he, hr, h⟩ := h
    have f2 := AutoSeq1.sub_tuple_tuple
    wp_walk using wpAny_loadPart' hl, wpAny_loadPart' hb, wpAny_forIn_list _ (fun rest b s' => b.1 = none ∧ s' = ⟨hp, g, d, tk, os⟩ ∧ rest = (x0, y0) :: xr.zip yr) _
    case turn =>
      rintro ⟨y, x⟩ rest b s' ⟨hb', rfl, hz⟩
      injection hz with hyx hrest
      injection hyx with e1 e2
      subst e1 e2
      refine wpAny_bind (he prog w _ _ ?_)
      show wpAny (model prog w) A.in1 (do
        rule _
        let v ← richCompare CmpOp.GtE y x
        let f ← ret v
        pure (ForInStep.done (some f, ()))) _ _ _
      refine wpAny_bind (wpAny_rule (wpAny_bind (hr prog w _ _ ?_)))
      wp_walk
      exact ⟨_, rfl, h⟩
    case fin =>
      rintro ⟨b1, b2⟩ s' ⟨_, _, hz⟩
      cases hz
    case h =>
      exact ⟨rfl, rfl, by simp⟩
end
theorem ge_apart {A : Around} {s : Shared} {l b : Addr} {x0 y0 : Value} {xr yr : List Value} {r : Bool} (hl : s.heap.IsTuple l (x0 :: xr).toArray) (hb : s.heap.IsTuple b (y0 :: yr).toArray) (hu : A.units < cLine)
    (he : EqAt A.in1 s x0 y0 false) (hr : RcOp .GtE A.in1 s x0 y0 r) : RcOp .GtE A s (.ref l) (.ref b) r := fun prog w E Q h => by
  obtain ⟨⟨c1, d1, t1, s1⟩, ho, hc, n, hd⟩ := hl
  obtain ⟨⟨c2, d2, t2, s2⟩, ho2, hc2, n2, hd2⟩ := hb
  obtain rfl : c1 = _ := hc
  obtain rfl : t1 = _ := hd
  obtain rfl : c2 = _ := hc2
  obtain rfl : t2 = _ := hd2
  exact richCompare_meets_room (op := .GtE) ⟨_, ho, rfl⟩ ⟨_, ho2, rfl⟩ F.slot_tuple_ge F.entry_tuple_ge (F.args_tuple_ge_2 _ _) (ge_heads l b x0 y0 xr yr n n2 d1 d2 s1 s2 r)
    ⟨ho, ho2, he, hr, show Value.bool r ≠ Value.notImplemented ∧ Q (.bool r) s from ⟨(fun x => nomatch x), h⟩⟩ hu
theorem dataLt_apart {a b : Str} {xr yr : List PyData} (ne : (a == b) = false) : dataLt (.tuple (.str a :: xr)) (.tuple (.str b :: yr)) = dataLt (.str a) (.str b) := by
  rw [dataLt_tuple]
  exact dataLt_all_no (alike_str _ _) (by rw [eqv_str]; exact ne)
/-- a >= b of such -/
def rGeM (K : PySem.W.Frag) : R2 := fun x y H Q => ∃ d d', Dp K H x d ∧ Dp K H y d' ∧ Mix d d' ∧ d ≠ .none ∧ d.depth ≤ 8 ∧ Q (.bl (!dataLt d d')) H
theorem op_geM {X : Cx} (hu : X.A.units + 65 < cLine) : OpR X (compareOp .GtE) (rGeM X.K) := by
  intro pins s σ H x y v u Q I rx ry ⟨d, d', hd, he, m, hn, dp, q⟩
  obtain ⟨as, r1⟩ := Dp.reads I d x v hd rx
  obtain ⟨bs, r2⟩ := Dp.reads I d' y u he ry
  have fin : ∃ H1 : Hp, True := ⟨H, True.intro⟩
  rcases m with m | ⟨a, b, xr, yr, rfl, rfl, ne⟩
  · exact ge_data r1 r2 m hn (by have : min d.depth d'.depth ≤ d.depth := Nat.min_le_left _ _; omega) ⟨.bl _, H, I, rfl, q⟩
  · cases r1 with
    | @tuple l o xs n _ _ h1 h2 h3 h4 =>
      cases r2 with
      | @tuple l' o' xs' n' _ _ k1 k2 k3 k4 =>
        have ex : xs = xs.toList.toArray := by simp
        have ex' : xs' = xs'.toList.toArray := by simp
        generalize xs.toList = zs at h4 ex
        generalize xs'.toList = zs' at k4 ex'
        subst ex ex'
        cases h4 with
        | cons a1 a2 =>
          cases k4 with
          | cons b1 b2 =>
            have ev : PyData.eqv (.str a) (.str b) = false := by rw [eqv_str]; exact ne
            have z0 : ∀ z : Str, (PyData.str z).depth = 0 := fun z => by simp [PyData.depth]
            have room1 : X.A.in1.units + min (PyData.str a).depth (PyData.str b).depth < cLine := by
              rw [z0, z0]
              show X.A.units + 1 + 0 < cLine
              omega
            have eq := eqAt_alike _ _ X.A.in1 s _ _ _ _ a1 b1 (alike_str a b) room1
            rw [ev] at eq
            refine ge_apart ⟨_, h1, h2, _, h3⟩ ⟨_, k1, k2, _, k3⟩ (by omega) eq (rcGe_alike _ _ X.A.in1 s _ _ _ _ a1 b1 (alike_str a b) (fun z => by cases z) room1) X.prog X.w _ _ ⟨.bl _, H, I, rfl, ?_⟩
            rw [← dataLt_apart (xr := xr) (yr := yr) ne]
            exact q
end L2

set_option maxHeartbeats 4000000
/-! xs[i] read for xs[i] += e -/
namespace L2
open PySem PySem.Spec PyProof.Rows
theorem get_listN {X : Cx} : PGet X (fun x y H Q => ∃ p xs i v, x = .ref p ∧ y = .int ((i : Nat) : Int) ∧ SqL X.K H p xs ∧ xs[i]? = some v ∧ Q v H) := by
  intro pins s σ H o i ov iv Q I ro ri ⟨p, xs, j, v, e1, e2, hq, hx, q⟩
  subst e1 e2
  cases ro
  obtain ⟨t, rfl⟩ := ri
  obtain ⟨its, r, pl, hz⟩ := I.list hq
  obtain ⟨w, ew, rw'⟩ := r.get hx
  have hl := r.length
  have hn := line63
  have hj : j < xs.length := (List.getElem?_eq_some_iff.mp hx).1
  exact wpAny_getItem_list pl.isList (Int.natCast_nonneg _) (by omega) (by simpa using ew) ⟨v, H, I, rw', q⟩
end L2

set_option maxHeartbeats 8000000
namespace Wood
open PySem PySem.Spec PyProof.Rows L2 Gen
local macro_rules | `(tactic| walk_at "sz") => `(tactic| first | assumption | omega | (simp only [List.length_map, List.length_append, List.length_cons, List.length_nil, List.length_reverse] at *; omega))
local macro_rules | `(tactic| walk_at "hq") => `(tactic| first | assumption | exact upd_same | (refine same_new (by assumption) _ _ ?_; walk_at "hq") | (refine (show Same _ _ by assumption) _ _ ?_; walk_at "hq") | (refine (upd_ne (by assumption)).trans ?_; walk_at "hq"))
local macro_rules | `(tactic| walk_at "ty") => `(tactic| first | exact .base (.int _) | exact .base (.str _) | exact .base (.bl _) | exact .base .non | (apply TyX.base; apply TyOf.tup; walk_at "hq") | (apply TyX.base; apply TyOf.lst; walk_at "hq"))
local macro_rules | `(tactic| walk_at "dt") => `(tactic| first | assumption | exact DT.str _ | exact DT.int _ | exact DT.bl _ | exact DT.non | (refine Same.dt (same_new (by assumption)) ?_; walk_at "dt") | (refine Same.dt (by assumption) ?_; walk_at "dt"))
local macro_rules | `(tactic| walk_at "at") => `(tactic| first | with_reducible rfl | rfl | assumption | (show _ = some _; walk_at "hq") | (apply SqT.of; walk_at "hq") | (apply SqL.of; walk_at "hq") | (apply Or.inl; apply SqL.of; walk_at "hq") | (apply Or.inr; apply SqT.of; walk_at "hq") | (apply Or.inl; apply SqT.of; walk_at "hq") | (apply Or.inr; apply SqL.of; walk_at "hq") | exact atI_nat (j := 0) rfl | exact atI_nat (j := 1) rfl | exact atI_nat (j := 2) rfl | exact atI_nat (j := 3) rfl | exact .ty _ | exact .int _ | exact .str _ | exact .bl _ | exact ClsV.ty _ | walk_at "ty" | exact kit_ty (by decide +kernel) | exact True.intro | (show tyV _ _ _ _; exact .inl ⟨rfl, _, SqL.of (by walk_at "hq")⟩) | (show TruV _ _ _ _; first | exact .inl ⟨_, SqL.of (by walk_at "hq"), rfl⟩ | exact .inr (.inl ⟨_, SqT.of (by walk_at "hq"), rfl⟩)) | (show DT _ _ _; walk_at "dt") | (apply DT.dp; walk_at "dt") | (apply Exists.intro; apply SqT.of; walk_at "hq") | (apply Exists.intro; apply SqL.of; walk_at "hq") | (show _ ≤ sizeLine; decide) | omega | (refine small1000 ?_; walk_at "sz") | (refine le1000 ?_; walk_at "sz"))
local macro_rules | `(tactic| walk_at "ite") => `(tactic| refine iteB (fun c => ?_) (fun c => ?_))
local macro_rules | `(tactic| walk_at "st") => `(tactic| first | (apply Exists.intro) | (apply And.intro; focus (walk_at "at"; done)) | (refine iteT ?_) | (refine iteF ?_) | (refine iteY (by assumption) ?_) | (refine iteN (by assumption) ?_) | (refine iteY (decide_eq_true (by first | assumption | omega)) ?_) | (refine iteN (decide_eq_false (by first | assumption | omega)) ?_))
local macro_rules | `(tactic| walk_at "rd") => `(tactic| repeat (walk_at "st"))
abbrev S_are_subjects : Stmt := top 13
theorem sc_are_subjects : FnScope ["value", "k", "subject"] ["value"] (defScope S_are_subjects) := ⟨rfl, rfl, rfl, by decide +kernel, rfl, by decide +kernel, by decide +kernel⟩
/-- small, and of plain signs -/
def SbLay (s : Sb) : Prop := s.data.canLay0 = true ∧ s.data.depth ≤ 4
/-- subjects in order, each once -/
def SSOK (ss : List Sb) : Prop := (∀ s ∈ ss, SOK s ∧ SbLay s) ∧ ss.Pairwise fun a b => PySem.W.dataLt a.data b.data = true
theorem sb_mix (a b : Sb) : Mix a.data b.data := by
  cases a <;> cases b
  · exact .inl (by simp [Sb.data, obj, PySem.W.alike, PySem.W.alikeAll])
  · exact .inr ⟨_, _, _, _, rfl, rfl, by decide⟩
  · exact .inr ⟨_, _, _, _, rfl, rfl, by decide⟩
  · exact .inl (by simp [Sb.data, PySem.W.alike, PySem.W.alikeAll])
theorem sb_ne (s : Sb) : s.data ≠ .none := by cases s <;> exact fun z => by cases z
def spSubjs : Sp := fun vs H Q _ => ∃ v ss, vs = [v] ∧ DT H v (.tuple (ss.map Sb.data)) ∧ SSOK ss ∧ ∀ H', Same H H' → Q (.bl true) H'
section
variable {P : Program} {w : World} {K : PySem.W.Frag} {mg : Str → Option Value} {base : Heap}
theorem ok_are_subjects  {f : Addr} {fd : FuncData} (F : Fun K "are_subjects" "are_subjects" S_are_subjects f fd) (m_isinstance : mg "isinstance" = none) (m_tuple : mg "tuple" = none) (m_enumerate : mg "enumerate" = none) {f_is_subject : Addr} {fd_is_subject : FuncData} (G_is_subject : FnOk P w K mg base CX0 3 f_is_subject fd_is_subject ["value"] spSubject) (g_is_subject : mg "is_subject" = some (.ref f_is_subject)) (k_is_subject : PySem.W.keepIn K (.ref f_is_subject) = true) (b_is_subject : Binds K fd_is_subject ["value"] [])  : FnOk P w K mg base CX0 4 f fd ["value"] spSubjs := by
  refine F.ok sc_are_subjects (fun vs H Q E h => ?_) (fun cdv A outer s H vs Q E hr h => ?_)
  · obtain ⟨x, _, rfl, _⟩ := h; rfl
  · obtain ⟨v, ss, rfl, hv, ok, q⟩ := h
    have hu65 : (A.deeper (envOfC "are_subjects" (defScope S_are_subjects) s.heap.objs.size f cdv)).units + 65 < cLine := by have := hr.un; omega
    refine ⟨_, pss_cons (ps_if (pt_not (pt_val (pe_callB (r := rIsi K) (call_isi) (by rfl) m_isinstance (by decide +kernel) (pa_cons (pv 0) (pa_cons (pe_bltn (v := .ty "tuple") (by rfl) m_tuple (by decide +kernel) rfl) pa_nil)))))
        (pss_one (ps_ret (pe_bl)))
        (pss_nil))
      (pss_cons (ps_for PassesOwn.never rfl (pi_enumT (by rfl) m_enumerate (pa_cons (pv 0) pa_nil)) (pg_tup (by rfl) (pgs_cons (pg_name (i := 1) sc_are_subjects.nd rfl (.inl rfl)) (pgs_cons (pg_name (i := 2) sc_are_subjects.nd rfl (.inl rfl)) pgs_nil)))
        (pss_one (ps_if (PW.pt (pw_or (pt_not (pt_val (pe_call G_is_subject (hr.mono (by decide)) (by rfl) g_is_subject k_is_subject b_is_subject .nil pass0 (pa_cons (pv 2) pa_nil)))) (pw_or1 (PW.pt (pw_and (pt_cmpR op_gt (pv 1) (pe_int) (nomark _)) (pw_and1 (pt_cmpR (r := rGeM K) (op_geM hu65) (pe_ix (r := rIxT K) ix_tup (pv 0) (pe_op op_sub (pv 1) (pe_int)) (fun _ _ => rfl)) (pv 2) (nomark _))))))))
          (pss_one (ps_ret (pe_bl)))
          (pss_nil))))
      (pss_one (ps_ret (pe_bl)))), ?_⟩
    obtain ⟨p, xs, rfl, hp, hx⟩ := hv.tup_inv
    walk_at "rd"
    refine (for_it (walk_enumT (K := K) (a := p) (xs := xs)) (fun i σ H2 => ∃ o1 o2, σ = [some (.ref p), o1, o2] ∧ Same H H2) ⟨_, _, rfl, fun _ _ h => h⟩ (fun i σ H2 _ ⟨_, _, _, s2⟩ => SqT.of (s2 _ _ hp)) ?_ ?_).choose_spec
    · rintro i x σ H2 H3 hi ⟨o1, o2, rfl, s2⟩ ⟨T, x', y', rfl, hT, rfl, e1, e2⟩
      obtain rfl : V.int i = x' := Option.some.inj e1
      have s3 : Same H (upd H2 T (.tup [.int i, y'])) := s2.trans (same_new hT)
      obtain ⟨d, ed, gd⟩ := (Same.dts s3 hx).get e2
      obtain ⟨sb, es, rfl⟩ := map_get ed
      obtain ⟨ok1, lay⟩ := ok.1 sb (List.mem_of_getElem? es)
      walk_at "rd"
      refine iteB (fun c => ?_) (fun c => ?_)
      · have c := dT c
        obtain ⟨j, rfl⟩ : ∃ j, i = j + 1 := ⟨i - 1, by omega⟩
        have e0 : (((j + 1 : Nat) : Int) - 1) = ((j : Nat) : Int) := by omega
        obtain ⟨y0, ey⟩ : ∃ y, xs[j]? = some y := ⟨xs[j], List.getElem?_eq_getElem (by omega)⟩
        obtain ⟨d0, ed0, gd0⟩ := (Same.dts s3 hx).get ey
        obtain ⟨sb0, es0, rfl⟩ := map_get ed0
        have up : PySem.W.dataLt sb0.data sb.data = true := by
          obtain ⟨h1, g1⟩ := List.getElem?_eq_some_iff.mp es0
          obtain ⟨h2, g2⟩ := List.getElem?_eq_some_iff.mp es
          rw [← g1, ← g2]
          exact List.pairwise_iff_getElem.mp ok.2 j (j + 1) h1 h2 (by omega)
        have lay0 := (ok.1 sb0 (List.mem_of_getElem? es0)).2
        have ea : atI xs (((j + 1 : Nat) : Int) - 1) = some y0 := by rw [e0]; exact atI_nat ey
        walk_at "rd"
        refine ⟨sb_mix _ _, sb_ne _, Nat.le_trans lay0.2 (by decide), ?_⟩
        rw [up]
        exact ⟨_, rfl, iteF ⟨_, _, rfl, s3⟩⟩
      · exact iteF ⟨_, _, rfl, s3⟩
    · rintro σ H2 ⟨o1, o2, rfl, s2⟩
      exact q _ s2
end

end Wood

set_option maxHeartbeats 8000000
namespace Wood
open PySem PySem.Spec PyProof.Rows L2 Gen
local macro_rules | `(tactic| walk_at "sz") => `(tactic| first | assumption | omega | (simp only [List.length_map, List.length_append, List.length_cons, List.length_nil, List.length_reverse] at *; omega))
local macro_rules | `(tactic| walk_at "hq") => `(tactic| first | assumption | exact upd_same | (refine same_new (by assumption) _ _ ?_; walk_at "hq") | (refine (show Same _ _ by assumption) _ _ ?_; walk_at "hq") | (refine (upd_ne (by assumption)).trans ?_; walk_at "hq"))
local macro_rules | `(tactic| walk_at "ty") => `(tactic| first | exact .base (.int _) | exact .base (.str _) | exact .base (.bl _) | exact .base .non | (apply TyX.base; apply TyOf.tup; walk_at "hq") | (apply TyX.base; apply TyOf.lst; walk_at "hq"))
local macro_rules | `(tactic| walk_at "dt") => `(tactic| first | assumption | exact DT.str _ | exact DT.int _ | exact DT.bl _ | exact DT.non | (refine Same.dt (same_new (by assumption)) ?_; walk_at "dt") | (refine Same.dt (by assumption) ?_; walk_at "dt"))
local macro_rules | `(tactic| walk_at "at") => `(tactic| first | with_reducible rfl | rfl | assumption | (show _ = some _; walk_at "hq") | (apply SqT.of; walk_at "hq") | (apply SqL.of; walk_at "hq") | (apply Or.inl; apply SqL.of; walk_at "hq") | (apply Or.inr; apply SqT.of; walk_at "hq") | (apply Or.inl; apply SqT.of; walk_at "hq") | (apply Or.inr; apply SqL.of; walk_at "hq") | exact atI_nat (j := 0) rfl | exact atI_nat (j := 1) rfl | exact atI_nat (j := 2) rfl | exact atI_nat (j := 3) rfl | exact .ty _ | exact .int _ | exact .str _ | exact .bl _ | exact ClsV.ty _ | walk_at "ty" | exact kit_ty (by decide +kernel) | exact True.intro | (show tyV _ _ _ _; exact .inl ⟨rfl, _, SqL.of (by walk_at "hq")⟩) | (show TruV _ _ _ _; first | exact .inl ⟨_, SqL.of (by walk_at "hq"), rfl⟩ | exact .inr (.inl ⟨_, SqT.of (by walk_at "hq"), rfl⟩)) | (show DT _ _ _; walk_at "dt") | (apply DT.dp; walk_at "dt") | (apply Exists.intro; apply SqT.of; walk_at "hq") | (apply Exists.intro; apply SqL.of; walk_at "hq") | (show _ ≤ sizeLine; decide) | omega | (refine small1000 ?_; walk_at "sz") | (refine le1000 ?_; walk_at "sz"))
local macro_rules | `(tactic| walk_at "ite") => `(tactic| refine iteB (fun c => ?_) (fun c => ?_))
local macro_rules | `(tactic| walk_at "st") => `(tactic| first | (apply Exists.intro) | (apply And.intro; focus (walk_at "at"; done)) | (refine iteT ?_) | (refine iteF ?_) | (refine iteY (by assumption) ?_) | (refine iteN (by assumption) ?_) | (refine iteY (decide_eq_true (by first | assumption | omega)) ?_) | (refine iteN (decide_eq_false (by first | assumption | omega)) ?_))
local macro_rules | `(tactic| walk_at "rd") => `(tactic| repeat (walk_at "st"))
abbrev S_parts_in : Stmt := top 14
theorem sc_parts_in : FnScope ["tree", "word", "fine"] ["tree"] (defScope S_parts_in) := ⟨rfl, rfl, rfl, by decide +kernel, rfl, by decide +kernel, by decide +kernel⟩
mutual
/-- a whole tree as the program has it -/
def Wf : T → Prop
  | .set ss => SSOK ss
  | .ring k n r => NmOK k ∧ 0 ≤ n ∧ NmOK r
  | .any ps => Wfs ps
  | .both ps => ps ≠ [] ∧ Wfs ps
  | .but a b => Wf a ∧ Wf b
  | .opn k n r t => NmOK k ∧ 0 ≤ n ∧ NmOK r ∧ Wf t
def Wfs : List T → Prop
  | [] => True
  | t :: ts => Wf t ∧ Wfs ts
end
def spParts : Sp := fun vs H Q _ => ∃ v t, vs = [v] ∧ DT H v t.data ∧ Wf t ∧ ∀ u H', Same H H' → DT H' u (.tuple (datas (inner t))) → Q u H'
section
variable {P : Program} {w : World} {K : PySem.W.Frag} {mg : Str → Option Value} {base : Heap}
theorem ok_parts_in  {f : Addr} {fd : FuncData} (F : Fun K "parts_in" "parts_in" S_parts_in f fd) (m_isinstance : mg "isinstance" = none) (m_tuple : mg "tuple" = none) (m_len : mg "len" = none) (m_str : mg "str" = none) {f_is_named_pair : Addr} {fd_is_named_pair : FuncData} (G_is_named_pair : FnOk P w K mg base CX0 2 f_is_named_pair fd_is_named_pair ["value"] spPair) (g_is_named_pair : mg "is_named_pair" = some (.ref f_is_named_pair)) (k_is_named_pair : PySem.W.keepIn K (.ref f_is_named_pair) = true) (b_is_named_pair : Binds K fd_is_named_pair ["value"] []) {f_is_name : Addr} {fd_is_name : FuncData} (G_is_name : FnOk P w K mg base CX0 1 f_is_name fd_is_name ["value"] spName) (g_is_name : mg "is_name" = some (.ref f_is_name)) (k_is_name : PySem.W.keepIn K (.ref f_is_name) = true) (b_is_name : Binds K fd_is_name ["value"] []) {f_are_subjects : Addr} {fd_are_subjects : FuncData} (G_are_subjects : FnOk P w K mg base CX0 4 f_are_subjects fd_are_subjects ["value"] spSubjs) (g_are_subjects : mg "are_subjects" = some (.ref f_are_subjects)) (k_are_subjects : PySem.W.keepIn K (.ref f_are_subjects) = true) (b_are_subjects : Binds K fd_are_subjects ["value"] [])  : FnOk P w K mg base CX0 5 f fd ["tree"] spParts := by
  refine F.ok sc_parts_in (fun vs H Q E h => ?_) (fun cdv A outer s H vs Q E hr h => ?_)
  · obtain ⟨x, _, rfl, _⟩ := h; rfl
  · obtain ⟨v, t, rfl, hv, ok, q⟩ := h
    have hu64 : (A.deeper (envOfC "parts_in" (defScope S_parts_in) s.heap.objs.size f cdv)).units + 64 < cLine := by have := hr.un; omega
    refine ⟨_, pss_cons (ps_if (PW.pt (pw_or (pt_not (pt_val (pe_callB (r := rIsi K) (call_isi) (by rfl) m_isinstance (by decide +kernel) (pa_cons (pv 0) (pa_cons (pe_bltn (v := .ty "tuple") (by rfl) m_tuple (by decide +kernel) rfl) pa_nil))))) (pw_or (pt_not (pt_chain op_le op_le (pe_int) (pe_callB (r := rLenQ K) (call_len_seq) (by rfl) m_len PySem.boot_len (pa_cons (pv 0) pa_nil)) (pe_int))) (pw_or1 (pt_not (pt_val (pe_callB (r := rIsi K) (call_isi) (by rfl) m_isinstance (by decide +kernel) (pa_cons (pe_ix (r := rIxT K) ix_tup (pv 0) (pe_int) (fun _ _ => rfl)) (pa_cons (pe_bltn (v := .ty "str") (by rfl) m_str (by decide +kernel) rfl) pa_nil)))))))))
        (pss_one (ps_ret (pe_non)))
        (pss_nil))
      (pss_cons (ps_set (i := 1) sc_parts_in.nd rfl (.inl rfl) (pe_ix (r := rIxT K) ix_tup (pv 0) (pe_int) (fun _ _ => rfl)))
      (pss_cons (ps_if (pt_cmpR op_eq (pv 1) (pe_str) (nomark _))
        (pss_one (ps_ret (pe_ifExp (pt_cmpR op_eq (pe_callB (r := rLenQ K) (call_len_seq) (by rfl) m_len PySem.boot_len (pa_cons (pv 0) pa_nil)) (pe_int) (nomark _)) (pe_slice (r := rSlT K) sl_tup (pv 0) (po_some (pe_int)) po_none) (pe_non))))
        (pss_nil))
      (pss_cons (ps_if (PW.pt (pw_or (pt_cmpR op_eq (pv 1) (pe_str) (nomark _)) (pw_or1 (pt_cmpR op_eq (pv 1) (pe_str) (nomark _)))))
        (pss_cons (ps_set (i := 2) sc_parts_in.nd rfl (.inl rfl) (pe_and (pe_cmpR (r := rEqD K) (op_eqD hu64) (pe_callB (r := rLenQ K) (call_len_seq) (by rfl) m_len PySem.boot_len (pa_cons (pv 0) pa_nil)) (pe_ifExp (pt_cmpR op_eq (pv 1) (pe_str) (nomark _)) (pe_int) (pe_int)) (nomark _)) (pe_and (pe_call G_is_named_pair (hr.mono (by decide)) (by rfl) g_is_named_pair k_is_named_pair b_is_named_pair .nil pass0 (pa_cons (pe_ix (r := rIxT K) ix_tup (pv 0) (pe_int) (fun _ _ => rfl)) pa_nil)) (pe_one (pe_call G_is_name (hr.mono (by decide)) (by rfl) g_is_name k_is_name b_is_name .nil pass0 (pa_cons (pe_ix (r := rIxT K) ix_tup (pv 0) (pe_int) (fun _ _ => rfl)) pa_nil))))))
        (pss_one (ps_ret (pe_ifExp (pt_val (pv 2)) (pe_slice (r := rSlT K) sl_tup (pv 0) (po_some (pe_int)) po_none) (pe_non)))))
        (pss_nil))
      (pss_cons (ps_if (pt_cmpR op_ne (pe_callB (r := rLenQ K) (call_len_seq) (by rfl) m_len PySem.boot_len (pa_cons (pv 0) pa_nil)) (pe_int) (nomark _))
        (pss_one (ps_ret (pe_non)))
        (pss_nil))
      (pss_cons (ps_if (pt_cmpR op_eq (pv 1) (pe_str) (nomark _))
        (pss_one (ps_ret (pe_ifExp (pt_val (pe_call G_are_subjects (hr.mono (by decide)) (by rfl) g_are_subjects k_are_subjects b_are_subjects .nil pass0 (pa_cons (pe_ix (r := rIxT K) ix_tup (pv 0) (pe_int) (fun _ _ => rfl)) pa_nil))) (pe_tup pa_nil) (pe_non))))
        (pss_nil))
      (pss_cons (ps_if (PW.pt (pw_or (PW.pt (pw_and (pt_cmpR op_ne (pv 1) (pe_str) (nomark _)) (pw_and1 (pt_cmpR op_ne (pv 1) (pe_str) (nomark _))))) (pw_or (pt_not (pt_val (pe_callB (r := rIsi K) (call_isi) (by rfl) m_isinstance (by decide +kernel) (pa_cons (pe_ix (r := rIxT K) ix_tup (pv 0) (pe_int) (fun _ _ => rfl)) (pa_cons (pe_bltn (v := .ty "tuple") (by rfl) m_tuple (by decide +kernel) rfl) pa_nil))))) (pw_or1 (PW.pt (pw_and (pt_cmpR op_eq (pv 1) (pe_str) (nomark _)) (pw_and1 (pt_not (pt_truth (pe_ix (r := rIxT K) ix_tup (pv 0) (pe_int) (fun _ _ => rfl)) (by intro _; rfl))))))))))
        (pss_one (ps_ret (pe_non)))
        (pss_nil))
      (pss_one (ps_ret (pe_ix (r := rIxT K) ix_tup (pv 0) (pe_int) (fun _ _ => rfl)))))))))), ?_⟩
    cases t with
    | set ss =>
      rw [T.data] at hv
      obtain ⟨p, x, y, rfl, hp, hx, hy⟩ := hv.two_inv
      obtain rfl := hx.str_inv
      rw [Wf] at ok
      rw [show datas (inner (T.set ss)) = [] by simp [inner, datas]] at q
      walk_at "rd"
      intro H1 s1
      walk_at "rd"
      intro p0 hp0
      exact q _ _ (s1.trans (same_new hp0)) (DT.laid hp0 .nil)
    | ring k n r =>
      rw [T.data] at hv
      obtain ⟨p, x, y, z, rfl, hp, hx, hy, hz⟩ := hv.three_inv
      obtain rfl := hx.str_inv
      obtain rfl := hz.str_inv
      rw [Wf] at ok
      obtain ⟨o1, o2, o3⟩ := ok
      have l3 := o3.len
      have e3 : nameB r = true := o3
      rw [show datas (inner (T.ring k n r)) = [] by simp [inner, datas]] at q
      walk_at "rd"
      refine ⟨by show ¬(HT.sIx 3 0 (some 3) = 0 ∧ HT.sIx 3 3 none = 3); decide, fun p0 hp0 => ?_⟩
      exact q _ _ (same_new hp0) (DT.laid hp0 .nil)
    | any ps =>
      rw [T.data] at hv
      obtain ⟨p, x, y, rfl, hp, hx, hy⟩ := hv.two_inv
      obtain rfl := hx.str_inv
      rw [Wf] at ok
      obtain ⟨p2, ys, rfl, hp2, hys⟩ := hy.tup_inv
      walk_at "rd"
      exact q _ _ (fun _ _ h => h) hy
    | both ps =>
      rw [T.data] at hv
      obtain ⟨p, x, y, rfl, hp, hx, hy⟩ := hv.two_inv
      obtain rfl := hx.str_inv
      rw [Wf] at ok
      obtain ⟨p2, ys, rfl, hp2, hys⟩ := hy.tup_inv
      have ne : (!ys.isEmpty) = true := by
        cases ys with
        | nil => exact absurd (by have := hys.length; rw [datas_map, List.length_map] at this; exact List.eq_nil_of_length_eq_zero this.symm) ok.1
        | cons _ _ => rfl
      have ne2 : (!(!ys.isEmpty)) = false := by rw [ne]; rfl
      walk_at "rd"
      exact q _ _ (fun _ _ h => h) hy
    | but a b =>
      rw [T.data] at hv
      obtain ⟨p, x, y, z, rfl, hp, hx, hy, hz⟩ := hv.three_inv
      obtain rfl := hx.str_inv
      rw [Wf] at ok
      rw [show datas (inner (T.but a b)) = [a.data, b.data] by simp [inner, datas]] at q
      walk_at "rd"
      refine ⟨by show ¬(HT.sIx 3 0 (some 1) = 0 ∧ HT.sIx 3 3 none = 3); decide, fun p0 hp0 => ?_⟩
      exact q _ _ (same_new hp0) (DT.laid hp0 (.cons hy (.cons hz .nil)))
    | opn k n r t =>
      rw [T.data] at hv
      obtain ⟨p, x, y, z, u, rfl, hp, hx, hy, hz, hu⟩ := hv.four_inv
      obtain rfl := hx.str_inv
      obtain rfl := hz.str_inv
      rw [Wf] at ok
      obtain ⟨o1, o2, o3, o4⟩ := ok
      have l3 := o3.len
      have e3 : nameB r = true := o3
      rw [show datas (inner (T.opn k n r t)) = [t.data] by simp [inner, datas]] at q
      walk_at "rd"
      refine ⟨by show ¬(HT.sIx 4 0 (some 3) = 0 ∧ HT.sIx 4 4 none = 4); decide, fun p0 hp0 => ?_⟩
      exact q _ _ (same_new hp0) (DT.laid hp0 (.cons hu .nil))
end

end Wood

set_option maxHeartbeats 8000000
namespace Wood
open PySem PySem.Spec PyProof.Rows L2 Gen
local macro_rules | `(tactic| walk_at "sz") => `(tactic| first | assumption | omega | (simp only [List.length_map, List.length_append, List.length_cons, List.length_nil, List.length_reverse] at *; omega))
local macro_rules | `(tactic| walk_at "hq") => `(tactic| first | assumption | exact upd_same | (refine same_new (by assumption) _ _ ?_; walk_at "hq") | (refine (show Same _ _ by assumption) _ _ ?_; walk_at "hq") | (refine (upd_ne (by assumption)).trans ?_; walk_at "hq"))
local macro_rules | `(tactic| walk_at "ty") => `(tactic| first | exact .base (.int _) | exact .base (.str _) | exact .base (.bl _) | exact .base .non | (apply TyX.base; apply TyOf.tup; walk_at "hq") | (apply TyX.base; apply TyOf.lst; walk_at "hq"))
local macro_rules | `(tactic| walk_at "dt") => `(tactic| first | assumption | exact DT.str _ | exact DT.int _ | exact DT.bl _ | exact DT.non | (refine Same.dt (same_new (by assumption)) ?_; walk_at "dt") | (refine Same.dt (by assumption) ?_; walk_at "dt"))
local macro_rules | `(tactic| walk_at "at") => `(tactic| first | with_reducible rfl | rfl | assumption | (show _ = some _; walk_at "hq") | (apply SqT.of; walk_at "hq") | (apply SqL.of; walk_at "hq") | (apply Or.inl; apply SqL.of; walk_at "hq") | (apply Or.inr; apply SqT.of; walk_at "hq") | (apply Or.inl; apply SqT.of; walk_at "hq") | (apply Or.inr; apply SqL.of; walk_at "hq") | exact atI_nat (j := 0) rfl | exact atI_nat (j := 1) rfl | exact atI_nat (j := 2) rfl | exact atI_nat (j := 3) rfl | exact .ty _ | exact .int _ | exact .str _ | exact .bl _ | exact ClsV.ty _ | walk_at "ty" | exact kit_ty (by decide +kernel) | exact True.intro | (show tyV _ _ _ _; exact .inl ⟨rfl, _, SqL.of (by walk_at "hq")⟩) | (show TruV _ _ _ _; first | exact .inl ⟨_, SqL.of (by walk_at "hq"), rfl⟩ | exact .inr (.inl ⟨_, SqT.of (by walk_at "hq"), rfl⟩)) | (show DT _ _ _; walk_at "dt") | (apply DT.dp; walk_at "dt") | (apply Exists.intro; apply SqT.of; walk_at "hq") | (apply Exists.intro; apply SqL.of; walk_at "hq") | (show _ ≤ sizeLine; decide) | omega | (refine small1000 ?_; walk_at "sz") | (refine le1000 ?_; walk_at "sz"))
local macro_rules | `(tactic| walk_at "ite") => `(tactic| refine iteB (fun c => ?_) (fun c => ?_))
local macro_rules | `(tactic| walk_at "st") => `(tactic| first | (apply Exists.intro) | (apply And.intro; focus (walk_at "at"; done)) | (refine iteT ?_) | (refine iteF ?_) | (refine iteY (by assumption) ?_) | (refine iteN (by assumption) ?_) | (refine iteY (decide_eq_true (by first | assumption | omega)) ?_) | (refine iteN (decide_eq_false (by first | assumption | omega)) ?_))
local macro_rules | `(tactic| walk_at "rd") => `(tactic| repeat (walk_at "st"))
abbrev S_names_user : Stmt := top 18
theorem sc_names_user : FnScope ["subjects", "user"] ["subjects", "user"] (defScope S_names_user) := ⟨rfl, rfl, rfl, by decide +kernel, rfl, by decide +kernel, by decide +kernel⟩
theorem sb_eqv (a b : Sb) : PyData.eqv a.data b.data = decide (a = b) := by
  cases a <;> cases b <;> simp [Sb.data, obj, PyData.eqv, PyData.eqvAll, Bool.decide_and]
  all_goals (rw [Bool.eq_iff_iff]; simp)
theorem sb_any (ss : List Sb) (d : Sb) : (ss.map Sb.data).any (fun z => PyData.eqv z d.data) = decide (d ∈ ss) := by
  rw [List.any_map]
  induction ss with
  | nil => simp
  | cons x xs ih =>
    rw [List.any_cons, ih]
    show (PyData.eqv x.data d.data || _) = _
    rw [sb_eqv]
    simp [List.mem_cons, eq_comm]
theorem sbs_lay {ss : List Sb} (h : ∀ s ∈ ss, SbLay s) : SeqAt.shaped (.tuple (ss.map Sb.data)) = true := by
  have z : PyData.canLayAll0 (ss.map Sb.data) = true ∧ PyData.depthAll (ss.map Sb.data) ≤ 4 := by
    induction ss with
    | nil => simp [PyData.canLayAll0, PyData.depthAll]
    | cons x xs ih =>
      obtain ⟨a, b⟩ := h x (List.mem_cons_self ..)
      obtain ⟨c, d⟩ := ih fun s m => h s (List.mem_cons_of_mem _ m)
      simp [PyData.canLayAll0, PyData.depthAll, a, c]
      omega
  unfold SeqAt.shaped
  simp [PyData.canLay0, PyData.depth, z.1]
  omega
theorem sb_shaped {s : Sb} (h : SbLay s) : SeqAt.shaped s.data = true := by
  unfold SeqAt.shaped
  rw [h.1, Bool.true_and]
  exact decide_eq_true (Nat.le_trans h.2 (by decide))
/-- a user as one asks for it -/
def UsOK (k : Str) (n : Int) : Prop := SbLay (.one k n) ∧ SbLay (.all k)
def spNames : Sp := fun vs H Q _ => ∃ (v u : V) (ss : List Sb) (k : Str) (n : Int), vs = [v, u] ∧ DT H v (.tuple (ss.map Sb.data)) ∧ DT H u (obj k n) ∧ (∀ s ∈ ss, SbLay s) ∧ UsOK k n ∧ ∀ H', Same H H' → Q (.bl (decide (Sb.one k n ∈ ss) || decide (Sb.all k ∈ ss))) H'
section
variable {P : Program} {w : World} {K : PySem.W.Frag} {mg : Str → Option Value} {base : Heap}
theorem ok_names_user  {f : Addr} {fd : FuncData} (F : Fun K "names_user" "names_user" S_names_user f fd)   : FnOk P w K mg base CX0 1 f fd ["subjects", "user"] spNames := by
  refine F.ok sc_names_user (fun vs H Q E h => ?_) (fun cdv A outer s H vs Q E hr h => ?_)
  · obtain ⟨x, _, _, _, _, rfl, _⟩ := h; rfl
  · obtain ⟨v, u, ss, k, n, rfl, hv, hu, lay, us, q⟩ := h
    have hu65 : (A.deeper (envOfC "names_user" (defScope S_names_user) s.heap.objs.size f cdv)).units + 65 < cLine := by have := hr.un; omega
    refine ⟨_, pss_one (ps_ret (pe_or (pe_cmpR (r := rInDT K) (op_inDT hu65) (pe_tup (pa_cons (pe_str) (pa_cons (pv 1) pa_nil))) (pv 0) (by rfl)) (pe_one (pe_cmpR (r := rInDT K) (op_inDT hu65) (pe_tup (pa_cons (pe_str) (pa_cons (pe_ix (r := rIxT K) ix_tup (pv 1) (pe_int) (fun _ _ => rfl)) pa_nil))) (pv 0) (by rfl))))), ?_⟩
    obtain ⟨p, x, y, rfl, hp, hx, hy⟩ := hu.two_inv
    obtain rfl := hx.str_inv
    refine ⟨_, rfl, (by show 2 ≤ sizeLine; decide), fun t ht => ⟨_, rfl, (Sb.one k n).data, ss.map Sb.data, (DT.laid ht (.cons (.str _) (.cons hu .nil))).dp, (Same.dt (same_new ht) hv).dp, sb_shaped us.1, sbs_lay lay, _, rfl, ?_⟩⟩
    rw [sb_any]
    refine iteB (fun c => ?_) (fun c => ?_)
    · rw [c, Bool.true_or] at q
      exact q _ (same_new ht)
    · rw [c, Bool.false_or] at q
      have s1 : Same H (upd H t (.tup [.str "one", .ref p])) := same_new ht
      refine ⟨_, rfl, _, _, _, _, rfl, rfl, SqT.of (s1 _ _ hp), atI_nat (j := 0) rfl, (by show 2 ≤ sizeLine; decide), fun t2 ht2 => ⟨_, rfl, (Sb.all k).data, ss.map Sb.data, (DT.laid ht2 (.cons (.str _) (.cons (.str _) .nil))).dp, (Same.dt (s1.trans (same_new ht2)) hv).dp, sb_shaped us.2, sbs_lay lay, ?_⟩⟩
      rw [sb_any]
      exact q _ (s1.trans (same_new ht2))
end

end Wood

set_option maxHeartbeats 8000000
namespace Wood
open PySem PySem.Spec PyProof.Rows L2 Gen
local macro_rules | `(tactic| walk_at "sz") => `(tactic| first | assumption | omega | (simp only [List.length_map, List.length_append, List.length_cons, List.length_nil, List.length_reverse] at *; omega))
local macro_rules | `(tactic| walk_at "hq") => `(tactic| first | assumption | exact upd_same | (refine same_new (by assumption) _ _ ?_; walk_at "hq") | (refine (show Same _ _ by assumption) _ _ ?_; walk_at "hq") | (refine (upd_ne (by assumption)).trans ?_; walk_at "hq"))
local macro_rules | `(tactic| walk_at "ty") => `(tactic| first | exact .base (.int _) | exact .base (.str _) | exact .base (.bl _) | exact .base .non | (apply TyX.base; apply TyOf.tup; walk_at "hq") | (apply TyX.base; apply TyOf.lst; walk_at "hq"))
local macro_rules | `(tactic| walk_at "dt") => `(tactic| first | assumption | exact DT.str _ | exact DT.int _ | exact DT.bl _ | exact DT.non | (refine Same.dt (same_new (by assumption)) ?_; walk_at "dt") | (refine Same.dt (by assumption) ?_; walk_at "dt"))
local macro_rules | `(tactic| walk_at "at") => `(tactic| first | with_reducible rfl | rfl | assumption | (show _ = some _; walk_at "hq") | (apply SqT.of; walk_at "hq") | (apply SqL.of; walk_at "hq") | (apply Or.inl; apply SqL.of; walk_at "hq") | (apply Or.inr; apply SqT.of; walk_at "hq") | (apply Or.inl; apply SqT.of; walk_at "hq") | (apply Or.inr; apply SqL.of; walk_at "hq") | exact atI_nat (j := 0) rfl | exact atI_nat (j := 1) rfl | exact atI_nat (j := 2) rfl | exact atI_nat (j := 3) rfl | exact .ty _ | exact .int _ | exact .str _ | exact .bl _ | exact ClsV.ty _ | walk_at "ty" | exact kit_ty (by decide +kernel) | exact True.intro | (show tyV _ _ _ _; exact .inl ⟨rfl, _, SqL.of (by walk_at "hq")⟩) | (show TruV _ _ _ _; first | exact .inl ⟨_, SqL.of (by walk_at "hq"), rfl⟩ | exact .inr (.inl ⟨_, SqT.of (by walk_at "hq"), rfl⟩)) | (show DT _ _ _; walk_at "dt") | (apply DT.dp; walk_at "dt") | (apply Exists.intro; apply SqT.of; walk_at "hq") | (apply Exists.intro; apply SqL.of; walk_at "hq") | (show _ ≤ sizeLine; decide) | omega | (refine small1000 ?_; walk_at "sz") | (refine le1000 ?_; walk_at "sz"))
local macro_rules | `(tactic| walk_at "ite") => `(tactic| refine iteB (fun c => ?_) (fun c => ?_))
local macro_rules | `(tactic| walk_at "st") => `(tactic| first | (apply Exists.intro) | (apply And.intro; focus (walk_at "at"; done)) | (refine iteT ?_) | (refine iteF ?_) | (refine iteY (by assumption) ?_) | (refine iteN (by assumption) ?_) | (refine iteY (decide_eq_true (by first | assumption | omega)) ?_) | (refine iteN (decide_eq_false (by first | assumption | omega)) ?_))
local macro_rules | `(tactic| walk_at "rd") => `(tactic| repeat (walk_at "st"))
abbrev S_with_parts : Stmt := top 16
theorem sc_with_parts : FnScope ["tree", "parts", "word"] ["tree", "parts"] (defScope S_with_parts) := ⟨rfl, rfl, rfl, by decide +kernel, rfl, by decide +kernel, by decide +kernel⟩
/-- a tree with other parts -/
def withP : T → List T → T
  | .any _, ps => .any ps
  | .both _, ps => .both ps
  | .but _ _, [a, b] => .but a b
  | .opn k n r _, [a] => .opn k n r a
  | t, _ => t
/-- as many parts as the tree wants -/
def Fits : T → List T → Prop
  | .any _, _ => True
  | .both _, _ => True
  | .but _ _, ps => ∃ a b, ps = [a, b]
  | .opn _ _ _ _, ps => ∃ a, ps = [a]
  | _, _ => False
theorem mt_rule {x : Nat} : x = x := rfl
def spWith : Sp := fun vs H Q _ => ∃ (v : V) (t : T) (l : Addr) (xs : List V) (ps : List T), vs = [v, .ref l] ∧ DT H v t.data ∧ H l = some (.lst xs) ∧ DTs H xs (datas ps) ∧ Fits t ps ∧ ∀ u H', Same H H' → DT H' u (withP t ps).data → Q u H'
section
variable {P : Program} {w : World} {K : PySem.W.Frag} {mg : Str → Option Value} {base : Heap}
theorem ok_with_parts  {f : Addr} {fd : FuncData} (F : Fun K "with_parts" "with_parts" S_with_parts f fd) (m_tuple : mg "tuple" = none)  : FnOk P w K mg base CX0 1 f fd ["tree", "parts"] spWith := by
  refine F.ok sc_with_parts (fun vs H Q E h => ?_) (fun cdv A outer s H vs Q E hr h => ?_)
  · obtain ⟨x, _, _, _, _, rfl, _⟩ := h; rfl
  · obtain ⟨v, t, l, xs, ps, rfl, hv, hl, hx, fit, q⟩ := h
    refine ⟨_, pss_cons (ps_set (i := 2) sc_with_parts.nd rfl (.inl rfl) (pe_ix (r := rIxT K) ix_tup (pv 0) (pe_int) (fun _ _ => rfl)))
      (pss_cons (ps_if (PW.pt (pw_or (pt_cmpR op_eq (pv 2) (pe_str) (nomark _)) (pw_or1 (pt_cmpR op_eq (pv 2) (pe_str) (nomark _)))))
        (pss_one (ps_ret (pe_tup (pa_cons (pv 2) (pa_cons (pe_callTy (r := rTupOf K) (call_tuple_of) (by rfl) m_tuple (by decide +kernel) (pa_cons (pv 1) pa_nil)) pa_nil)))))
        (pss_nil))
      (pss_cons (ps_if (pt_cmpR op_eq (pv 2) (pe_str) (nomark _))
        (pss_one (ps_ret (pe_tup (pa_cons (pe_str) (pa_cons (pe_ix (r := rIxL K) ix_list (pv 1) (pe_int) (fun _ _ => rfl)) (pa_cons (pe_ix (r := rIxL K) ix_list (pv 1) (pe_int) (fun _ _ => rfl)) pa_nil))))))
        (pss_nil))
      (pss_one (ps_ret (pe_ifExp (pt_cmpR op_eq (pv 2) (pe_str) (nomark _)) (pe_tup (StX.pa_star (pe_slice (r := rSlT K) sl_tup (pv 0) po_none (po_some pe_int)) (pa_cons (pe_ix (r := rIxL K) ix_list (pv 1) (pe_int) (fun _ _ => rfl)) pa_nil))) (pv 0)))))), ?_⟩
    cases t with
    | set ss => exact fit.elim
    | ring k n r => exact fit.elim
    | any ps0 =>
      rw [T.data] at hv
      obtain ⟨p, x, y, rfl, hp, h1, h2⟩ := hv.two_inv
      obtain rfl := h1.str_inv
      rw [withP, T.data] at q
      walk_at "rd"
      refine .inl ⟨SqL.of hl, fun t1 ht1 => ?_⟩
      walk_at "rd"
      intro p2 hp2
      exact q _ _ ((same_new ht1).trans (same_new hp2)) (DT.laid hp2 (.cons (.str _) (.cons (DT.laid ht1 hx) .nil)))
    | both ps0 =>
      rw [T.data] at hv
      obtain ⟨p, x, y, rfl, hp, h1, h2⟩ := hv.two_inv
      obtain rfl := h1.str_inv
      rw [withP, T.data] at q
      walk_at "rd"
      refine .inl ⟨SqL.of hl, fun t1 ht1 => ?_⟩
      walk_at "rd"
      intro p2 hp2
      exact q _ _ ((same_new ht1).trans (same_new hp2)) (DT.laid hp2 (.cons (.str _) (.cons (DT.laid ht1 hx) .nil)))
    | but a b =>
      obtain ⟨a1, b1, rfl⟩ := fit
      rw [T.data] at hv
      obtain ⟨p, x, y, z, rfl, hp, h1, h2, h3⟩ := hv.three_inv
      obtain rfl := h1.str_inv
      rw [withP, T.data] at q
      rw [show datas [a1, b1] = [a1.data, b1.data] by simp [datas]] at hx
      obtain ⟨v1, w1, rfl, g1, hx⟩ := hx.cons_inv
      obtain ⟨v2, w2, rfl, g2, hx⟩ := hx.cons_inv
      rw [hx.nil_inv] at hl
      walk_at "rd"
      intro p2 hp2
      exact q _ _ (same_new hp2) (DT.laid hp2 (.cons (.str _) (.cons g1 (.cons g2 .nil))))
    | opn k n r t =>
      obtain ⟨a1, rfl⟩ := fit
      rw [T.data] at hv
      obtain ⟨p, x, y, z, u, rfl, hp, h1, h2, h3, h4⟩ := hv.four_inv
      obtain rfl := h1.str_inv
      rw [withP, T.data] at q
      rw [show datas [a1] = [a1.data] by simp [datas]] at hx
      obtain ⟨v1, w1, rfl, g1, hx⟩ := hx.cons_inv
      rw [hx.nil_inv] at hl
      walk_at "rd"
      refine ⟨by show ¬(HT.sIx 4 0 none = 0 ∧ HT.sIx 4 4 (some 3) = 4); decide, fun p1 hp1 => ?_⟩
      walk_at "rd"
      refine ⟨by show 4 ≤ sizeLine; decide, fun p2 hp2 => ?_⟩
      exact q _ _ ((same_new hp1).trans (same_new hp2)) (DT.laid hp2 (.cons (.str _) (.cons (Same.dt (same_new hp1) h2) (.cons (Same.dt (same_new hp1) h3) (.cons (Same.dt (same_new hp1) g1) .nil)))))
end

end Wood

set_option maxHeartbeats 8000000
namespace Wood
open PySem PySem.Spec PyProof.Rows L2 Gen
local macro_rules | `(tactic| walk_at "sz") => `(tactic| first | assumption | omega | (simp only [List.length_map, List.length_append, List.length_cons, List.length_nil, List.length_reverse] at *; omega))
local macro_rules | `(tactic| walk_at "hq") => `(tactic| first | assumption | exact upd_same | (refine same_new (by assumption) _ _ ?_; walk_at "hq") | (refine (show Same _ _ by assumption) _ _ ?_; walk_at "hq") | (refine (upd_ne (by assumption)).trans ?_; walk_at "hq"))
local macro_rules | `(tactic| walk_at "ty") => `(tactic| first | exact .base (.int _) | exact .base (.str _) | exact .base (.bl _) | exact .base .non | (apply TyX.base; apply TyOf.tup; walk_at "hq") | (apply TyX.base; apply TyOf.lst; walk_at "hq"))
local macro_rules | `(tactic| walk_at "dt") => `(tactic| first | assumption | exact DT.str _ | exact DT.int _ | exact DT.bl _ | exact DT.non | (refine Same.dt (same_new (by assumption)) ?_; walk_at "dt") | (refine Same.dt (by assumption) ?_; walk_at "dt"))
local macro_rules | `(tactic| walk_at "at") => `(tactic| first | with_reducible rfl | rfl | assumption | (show _ = some _; walk_at "hq") | (apply SqT.of; walk_at "hq") | (apply SqL.of; walk_at "hq") | (apply Or.inl; apply SqL.of; walk_at "hq") | (apply Or.inr; apply SqT.of; walk_at "hq") | (apply Or.inl; apply SqT.of; walk_at "hq") | (apply Or.inr; apply SqL.of; walk_at "hq") | exact atI_nat (j := 0) rfl | exact atI_nat (j := 1) rfl | exact atI_nat (j := 2) rfl | exact atI_nat (j := 3) rfl | exact .ty _ | exact .int _ | exact .str _ | exact .bl _ | exact ClsV.ty _ | walk_at "ty" | exact kit_ty (by decide +kernel) | exact True.intro | (show tyV _ _ _ _; exact .inl ⟨rfl, _, SqL.of (by walk_at "hq")⟩) | (show TruV _ _ _ _; first | exact .inl ⟨_, SqL.of (by walk_at "hq"), rfl⟩ | exact .inr (.inl ⟨_, SqT.of (by walk_at "hq"), rfl⟩)) | (show DT _ _ _; walk_at "dt") | (apply DT.dp; walk_at "dt") | (apply Exists.intro; apply SqT.of; walk_at "hq") | (apply Exists.intro; apply SqL.of; walk_at "hq") | (show _ ≤ sizeLine; decide) | omega | (refine small1000 ?_; walk_at "sz") | (refine le1000 ?_; walk_at "sz"))
local macro_rules | `(tactic| walk_at "ite") => `(tactic| refine iteB (fun c => ?_) (fun c => ?_))
local macro_rules | `(tactic| walk_at "st") => `(tactic| first | (apply Exists.intro) | (apply And.intro; focus (walk_at "at"; done)) | (refine iteT ?_) | (refine iteF ?_) | (refine iteY (by assumption) ?_) | (refine iteN (by assumption) ?_) | (refine iteY (decide_eq_true (by first | assumption | omega)) ?_) | (refine iteN (decide_eq_false (by first | assumption | omega)) ?_))
local macro_rules | `(tactic| walk_at "rd") => `(tactic| repeat (walk_at "st"))
abbrev S_without_nobody : Stmt := top 19
theorem sc_without_nobody : FnScope ["tree", "parts", "word", "left", "part"] ["tree", "parts"] (defScope S_without_nobody) := ⟨rfl, rfl, rfl, by decide +kernel, rfl, by decide +kernel, by decide +kernel⟩
/-- what is left of a tree of which this is left of its parts -/
def lessJ : T → List (Option T) → Option T
  | .set ss, _ => if ss = [] then none else some (.set ss)
  | .ring _ _ _, _ => none
  | .any _, os => pack .any (os.filterMap id)
  | .both _, os => if (os.filterMap id).length < os.length then none else pack .both (os.filterMap id)
  | .but _ _, [some a, some b] => some (.but a b)
  | .but _ _, [some a, none] => some a
  | .but _ _, _ => none
  | .opn k n r _, [some a] => some (.opn k n r a)
  | .opn _ _ _ _, _ => none
def oD : Option T → PyData
  | none => .none
  | some t => t.data
theorem oD_none {H : Hp} {v : V} (h : DT H v (oD none)) : v = .non := by
  rw [oD] at h
  cases h
  rfl
theorem data_tup (t : T) : ∃ ds, t.data = .tuple ds := by cases t <;> exact ⟨_, by rw [T.data]⟩
theorem oD_some {H : Hp} {v : V} {t : T} (h : DT H v (oD (some t))) : ∃ p, v = .ref p := by
  rw [oD] at h
  obtain ⟨ds, e⟩ := data_tup t
  rw [e] at h
  obtain ⟨a, _, rfl, _⟩ := h.tup_inv
  exact ⟨a, rfl⟩
/-- the list of those that are left of the first i -/
structure LeftAt (H : Hp) (D : Addr) (os : List (Option T)) (i : Nat) (H2 : Hp) : Prop where
  same : Same H H2
  left : ∃ ys, H2 D = some (.lst ys) ∧ DTs H2 ys (datas ((os.take i).filterMap id))
theorem left0 {H : Hp} {D : Addr} {os : List (Option T)} (h : H D = none) : LeftAt H D os 0 (upd H D (.lst [])) := ⟨same_new h, [], upd_same, by simp only [List.take_zero, List.filterMap_nil, datas]; exact .nil⟩
theorem tups_lst {H : Hp} {p : Addr} {xs ys : List V} (h : H p = some (.lst xs)) : Tups H (upd H p (.lst ys)) := fun a zs e => by
  rw [upd_ne (fun z => by rw [z, h] at e; cases e)]
  exact e
theorem left_none {H H2 : Hp} {D : Addr} {os : List (Option T)} {i : Nat} (e : os[i]? = some none) (h : LeftAt H D os i H2) : LeftAt H D os (i + 1) H2 := by
  obtain ⟨s2, ys, hy, dy⟩ := h
  exact ⟨s2, ys, hy, by rw [take_get e, List.filterMap_append]; simpa using dy⟩
theorem left_some {H H2 : Hp} {D : Addr} {os : List (Option T)} {i : Nat} {t : T} {ys : List V} {x : V} (e : os[i]? = some (some t)) (hD : H D = none) (s2 : Same H H2) (hy : H2 D = some (.lst ys)) (dy : DTs H2 ys (datas ((os.take i).filterMap id))) (g : DT H2 x t.data) :
    LeftAt H D os (i + 1) (upd H2 D (.lst (ys ++ [x]))) := by
  refine ⟨fun b o z => ?_, _, upd_same, ?_⟩
  · rw [upd_ne (ne_of_none z hD)]
    exact s2 _ _ z
  · rw [take_get e, List.filterMap_append, datas_map, List.map_append, ← datas_map]
    exact (dy.keep (tups_lst hy)).append (.cons (g.keep (tups_lst hy)) .nil)
theorem left_len {H2 : Hp} {os : List (Option T)} {i : Nat} {ys : List V} (dy : DTs H2 ys (datas ((os.take i).filterMap id))) : ys.length ≤ os.length := by
  rw [dy.length, datas_map, List.length_map]
  exact Nat.le_trans (List.length_filterMap_le _ _) (List.length_take_le' _ _)
theorem pack_many {c : List T → T} {L : List T} (h : 1 < L.length) : pack c L = some (c L) := by
  match L, h with
  | _ :: _ :: _, _ => rfl
def Fits2 : T → List (Option T) → Prop
  | .but _ _, ps => ∃ a b, ps = [a, b]
  | .opn _ _ _ _, ps => ∃ a, ps = [a]
  | _, _ => True
def spWn : Sp := fun vs H Q _ => ∃ (v : V) (t : T) (l : Addr) (xs : List V) (os : List (Option T)), vs = [v, .ref l] ∧ DT H v t.data ∧ H l = some (.lst xs) ∧ DTs H xs (os.map oD) ∧ os.length ≤ 900 ∧ Fits2 t os ∧ ∀ u H', Same H H' → DT H' u (oD (lessJ t os)) → Q u H'
section
variable {P : Program} {w : World} {K : PySem.W.Frag} {mg : Str → Option Value} {base : Heap}
theorem ok_without_nobody  {f : Addr} {fd : FuncData} (F : Fun K "without_nobody" "without_nobody" S_without_nobody f fd) {f_with_parts : Addr} {fd_with_parts : FuncData} (G_with_parts : FnOk P w K mg base CX0 1 f_with_parts fd_with_parts ["tree", "parts"] spWith) (g_with_parts : mg "with_parts" = some (.ref f_with_parts)) (k_with_parts : PySem.W.keepIn K (.ref f_with_parts) = true) (b_with_parts : Binds K fd_with_parts ["tree", "parts"] []) (m_len : mg "len" = none)  : FnOk P w K mg base CX0 2 f fd ["tree", "parts"] spWn := by
  refine F.ok sc_without_nobody (fun vs H Q E h => ?_) (fun cdv A outer s H vs Q E hr h => ?_)
  · obtain ⟨x, _, _, _, _, rfl, _⟩ := h; rfl
  · obtain ⟨v, t, l, xs, os, rfl, hv, hl, hx, few, fit, q⟩ := h
    refine ⟨_, pss_cons (ps_set (i := 2) sc_without_nobody.nd rfl (.inl rfl) (pe_ix (r := rIxT K) ix_tup (pv 0) (pe_int) (fun _ _ => rfl)))
      (pss_cons (ps_if (pt_cmpR op_eq (pv 2) (pe_str) (nomark _))
        (pss_one (ps_ret (pe_ifExp (pt_truth (pe_ix (r := rIxT K) ix_tup (pv 0) (pe_int) (fun _ _ => rfl)) (by intro _; rfl)) (pv 0) (pe_non))))
        (pss_nil))
      (pss_cons (ps_if (pt_cmpR op_eq (pv 2) (pe_str) (nomark _))
        (pss_one (ps_ret (pe_non)))
        (pss_nil))
      (pss_cons (ps_if (pt_cmpR op_eq (pv 2) (pe_str) (nomark _))
        (pss_one (ps_ret (pe_ifExp (pt_cmpR op_isN (pe_ix (r := rIxL K) ix_list (pv 1) (pe_int) (fun _ _ => rfl)) (pe_non) (nomark _)) (pe_non) (pe_call G_with_parts (hr.mono (by decide)) (by rfl) g_with_parts k_with_parts b_with_parts .nil pass0 (pa_cons (pv 0) (pa_cons (pv 1) pa_nil))))))
        (pss_nil))
      (pss_cons (ps_if (pt_cmpR op_eq (pv 2) (pe_str) (nomark _))
        (pss_one (ps_ret (pe_ifExp (PW.pt (pw_or (pt_cmpR op_isN (pe_ix (r := rIxL K) ix_list (pv 1) (pe_int) (fun _ _ => rfl)) (pe_non) (nomark _)) (pw_or1 (pt_cmpR op_isN (pe_ix (r := rIxL K) ix_list (pv 1) (pe_int) (fun _ _ => rfl)) (pe_non) (nomark _))))) (pe_ix (r := rIxL K) ix_list (pv 1) (pe_int) (fun _ _ => rfl)) (pe_call G_with_parts (hr.mono (by decide)) (by rfl) g_with_parts k_with_parts b_with_parts .nil pass0 (pa_cons (pv 0) (pa_cons (pv 1) pa_nil))))))
        (pss_nil))
      (pss_cons (ps_setLc (i := 3) (own := [("part", 4)]) (g := (gName 4)) (by rfl) sc_without_nobody.nd rfl rfl (sw_true rfl rfl rfl (by decide +kernel)) (pi_list (pv 1)) (blkOk_by (own := [("part", 4)]) (N := ["tree", "parts", "word", "left", "part"]) (sc := defScope S_without_nobody) (by decide +kernel)) (fun _ _ _ _ _ => pg_name (i := 4) sc_without_nobody.nd rfl (.inl rfl)) (fun _ _ _ _ _ => pts_one (pt_cmpR op_notN (pv 4) (pe_non) (nomark _))) (fun _ _ _ _ _ => pv 4))
      (pss_cons (ps_if (PW.pt (pw_and (pt_cmpR op_eq (pv 2) (pe_str) (nomark _)) (pw_and1 (pt_cmpR op_lt (pe_callB (r := rLenQ K) (call_len_seq) (by rfl) m_len PySem.boot_len (pa_cons (pv 3) pa_nil)) (pe_callB (r := rLenQ K) (call_len_seq) (by rfl) m_len PySem.boot_len (pa_cons (pv 1) pa_nil)) (nomark _)))))
        (pss_one (ps_ret (pe_non)))
        (pss_nil))
      (pss_cons (ps_if (pt_cmpR op_gt (pe_callB (r := rLenQ K) (call_len_seq) (by rfl) m_len PySem.boot_len (pa_cons (pv 3) pa_nil)) (pe_int) (nomark _))
        (pss_one (ps_ret (pe_call G_with_parts (hr.mono (by decide)) (by rfl) g_with_parts k_with_parts b_with_parts .nil pass0 (pa_cons (pv 0) (pa_cons (pv 3) pa_nil)))))
        (pss_nil))
      (pss_one (ps_ret (pe_ifExp (pt_truth (pv 3) (by intro _; rfl)) (pe_ix (r := rIxL K) ix_list (pv 3) (pe_int) (fun _ _ => rfl)) (pe_non))))))))))), ?_⟩
    cases t with
    | set ss =>
      rw [T.data] at hv
      have hv' := hv
      obtain ⟨p, x, y, rfl, hp, h1, h2⟩ := hv.two_inv
      obtain rfl := h1.str_inv
      obtain ⟨p2, ys, rfl, hp2, hys⟩ := h2.tup_inv
      cases ss with
      | nil =>
        obtain rfl := hys.nil_inv
        walk_at "rd"
        exact q _ _ (fun _ _ h => h) .non
      | cons s0 sr =>
        obtain ⟨y0, yr, rfl, g0, g1⟩ := hys.cons_inv
        walk_at "rd"
        refine q _ _ (fun _ _ h => h) ?_
        rw [lessJ, if_neg (by simp), oD, T.data]
        exact hv'
    | ring k n r =>
      rw [T.data] at hv
      obtain ⟨p, x, y, z, rfl, hp, h1, h2, h3⟩ := hv.three_inv
      obtain rfl := h1.str_inv
      walk_at "rd"
      exact q _ _ (fun _ _ h => h) .non
    | any ps0 =>
      have hv' := hv
      rw [T.data] at hv
      obtain ⟨p, x, y, rfl, hp, h1, h2⟩ := hv.two_inv
      obtain rfl := h1.str_inv
      walk_at "rd"
      intro D hD
      refine lc_list (K := K) (a := l) (xs := xs) (LeftAt H D os) (left0 hD) (fun i H2 _ h => SqL.of (h.same _ _ hl)) ?_ ?_
      · rintro i x H2 hi ⟨s2, ys, hy, dy⟩
        obtain ⟨d, ed, gd⟩ := (Same.dts s2 hx).get hi
        obtain ⟨o, eo, rfl⟩ := map_get ed
        cases o with
        | none =>
          obtain rfl := oD_none gd
          walk_at "rd"
          exact left_none eo ⟨s2, ys, hy, dy⟩
        | some t1 =>
          obtain ⟨p1, rfl⟩ := oD_some gd
          walk_at "rd"
          exact ⟨small1000 (by have := left_len dy; omega), left_some eo hD s2 hy dy gd⟩
      · rintro H2 ⟨s2, ys, hy, dy⟩
        rw [hx.length, List.length_map, List.take_length] at dy
        have hl2 := s2 _ _ hl
        have len : ys.length = (os.filterMap id).length := by rw [dy.length, datas_map, List.length_map]
        have lenx : xs.length = os.length := by rw [hx.length, List.length_map]
        rw [lessJ] at q
        generalize os.filterMap id = L at dy len q
        walk_at "rd"
        refine iteB (fun c => ?_) (fun c => ?_)
        · have c := dT c
          walk_at "rd"
          intro u H' s' du
          refine q _ _ (s2.trans s') ?_
          rw [pack_many (by omega), oD]
          exact du
        · have c := dF c
          match ys, L, len, dy, hy with
          | [], [], _, _, hy =>
            walk_at "rd"
            exact q _ _ s2 .non
          | [y0], [t0], _, dy, hy =>
            simp only [datas] at dy
            obtain ⟨_, _, ey, gy, _⟩ := dy.cons_inv
            injection ey with ey _
            subst ey
            walk_at "rd"
            exact q _ _ s2 gy
          | y0 :: y1 :: yr, _, _, _, _ => exact absurd (show 1 < ((y0 :: y1 :: yr).length : Int) by simp only [List.length_cons]; omega) c
    | both ps0 =>
      have hv' := hv
      rw [T.data] at hv
      obtain ⟨p, x, y, rfl, hp, h1, h2⟩ := hv.two_inv
      obtain rfl := h1.str_inv
      walk_at "rd"
      intro D hD
      refine lc_list (K := K) (a := l) (xs := xs) (LeftAt H D os) (left0 hD) (fun i H2 _ h => SqL.of (h.same _ _ hl)) ?_ ?_
      · rintro i x H2 hi ⟨s2, ys, hy, dy⟩
        obtain ⟨d, ed, gd⟩ := (Same.dts s2 hx).get hi
        obtain ⟨o, eo, rfl⟩ := map_get ed
        cases o with
        | none =>
          obtain rfl := oD_none gd
          walk_at "rd"
          exact left_none eo ⟨s2, ys, hy, dy⟩
        | some t1 =>
          obtain ⟨p1, rfl⟩ := oD_some gd
          walk_at "rd"
          exact ⟨small1000 (by have := left_len dy; omega), left_some eo hD s2 hy dy gd⟩
      · rintro H2 ⟨s2, ys, hy, dy⟩
        rw [hx.length, List.length_map, List.take_length] at dy
        have hl2 := s2 _ _ hl
        have len : ys.length = (os.filterMap id).length := by rw [dy.length, datas_map, List.length_map]
        have lenx : xs.length = os.length := by rw [hx.length, List.length_map]
        have q' := q
        rw [lessJ] at q'
        generalize os.filterMap id = L at dy len q'
        have q := q'
        clear q'
        walk_at "rd"
        refine iteB (fun c0 => ?_) (fun c0 => ?_)
        · have c0 := dT c0
          walk_at "rd"
          refine q _ _ s2 ?_
          rw [if_pos (by omega)]
          exact .non
        · have c0 := dF c0
          rw [if_neg (by omega)] at q
          walk_at "rd"
          refine iteB (fun c => ?_) (fun c => ?_)
          · have c := dT c
            walk_at "rd"
            intro u H' s' du
            refine q _ _ (s2.trans s') ?_
            rw [pack_many (by omega), oD]
            exact du
          · have c := dF c
            match ys, L, len, dy, hy with
            | [], [], _, _, hy =>
              walk_at "rd"
              exact q _ _ s2 .non
            | [y0], [t0], _, dy, hy =>
              simp only [datas] at dy
              obtain ⟨_, _, ey, gy, _⟩ := dy.cons_inv
              injection ey with ey _
              subst ey
              walk_at "rd"
              exact q _ _ s2 gy
            | y0 :: y1 :: yr, _, _, _, _ => exact absurd (show 1 < ((y0 :: y1 :: yr).length : Int) by simp only [List.length_cons]; omega) c
    | but a b =>
      obtain ⟨a1, b1, rfl⟩ := fit
      have hv' := hv
      rw [T.data] at hv
      obtain ⟨p, x, y, z, rfl, hp, h1, h2, h3⟩ := hv.three_inv
      obtain rfl := h1.str_inv
      obtain ⟨v1, w1, rfl, g1, hx⟩ := hx.cons_inv
      obtain ⟨v2, w2, rfl, g2, hx⟩ := hx.cons_inv
      rw [hx.nil_inv] at hl
      cases a1 with
      | none =>
        obtain rfl := oD_none g1
        walk_at "rd"
        exact q _ _ (fun _ _ h => h) (by cases b1 <;> exact .non)
      | some a1 =>
        obtain ⟨p1, rfl⟩ := oD_some g1
        cases b1 with
        | none =>
          obtain rfl := oD_none g2
          walk_at "rd"
          exact q _ _ (fun _ _ h => h) g1
        | some b1 =>
          obtain ⟨p3, rfl⟩ := oD_some g2
          have dd : DTs H [.ref p1, .ref p3] (datas [a1, b1]) := by simp only [datas]; exact .cons g1 (.cons g2 .nil)
          have ff : Fits (.but a b) [a1, b1] := ⟨_, _, rfl⟩
          walk_at "rd"
          intro u H' s' du
          exact q _ _ s' (by rw [lessJ, oD]; exact du)
    | opn k n r t =>
      obtain ⟨a1, rfl⟩ := fit
      have hv' := hv
      rw [T.data] at hv
      obtain ⟨p, x, y, z, u, rfl, hp, h1, h2, h3, h4⟩ := hv.four_inv
      obtain rfl := h1.str_inv
      obtain ⟨v1, w1, rfl, g1, hx⟩ := hx.cons_inv
      rw [hx.nil_inv] at hl
      cases a1 with
      | none =>
        obtain rfl := oD_none g1
        walk_at "rd"
        exact q _ _ (fun _ _ h => h) .non
      | some a1 =>
        obtain ⟨p1, rfl⟩ := oD_some g1
        have dd : DTs H [.ref p1] (datas [a1]) := by simp only [datas]; exact .cons g1 .nil
        have ff : Fits (.opn k n r t) [a1] := ⟨_, rfl⟩
        walk_at "rd"
        intro u H' s' du
        exact q _ _ s' (by rw [lessJ, oD]; exact du)
end

end Wood

set_option maxHeartbeats 8000000
namespace Wood
open PySem PySem.Spec PyProof.Rows L2 Gen
local macro_rules | `(tactic| walk_at "sz") => `(tactic| first | assumption | omega | (simp only [List.length_map, List.length_append, List.length_cons, List.length_nil, List.length_reverse] at *; omega))
local macro_rules | `(tactic| walk_at "hq") => `(tactic| first | assumption | exact upd_same | (refine same_new (by assumption) _ _ ?_; walk_at "hq") | (refine (show Same _ _ by assumption) _ _ ?_; walk_at "hq") | (refine (upd_ne (by assumption)).trans ?_; walk_at "hq"))
local macro_rules | `(tactic| walk_at "ty") => `(tactic| first | exact .base (.int _) | exact .base (.str _) | exact .base (.bl _) | exact .base .non | (apply TyX.base; apply TyOf.tup; walk_at "hq") | (apply TyX.base; apply TyOf.lst; walk_at "hq"))
local macro_rules | `(tactic| walk_at "dt") => `(tactic| first | assumption | exact DT.str _ | exact DT.int _ | exact DT.bl _ | exact DT.non | (refine Same.dt (same_new (by assumption)) ?_; walk_at "dt") | (refine Same.dt (by assumption) ?_; walk_at "dt"))
local macro_rules | `(tactic| walk_at "at") => `(tactic| first | with_reducible rfl | rfl | assumption | (show _ = some _; walk_at "hq") | (apply SqT.of; walk_at "hq") | (apply SqL.of; walk_at "hq") | (apply Or.inl; apply SqL.of; walk_at "hq") | (apply Or.inr; apply SqT.of; walk_at "hq") | (apply Or.inl; apply SqT.of; walk_at "hq") | (apply Or.inr; apply SqL.of; walk_at "hq") | exact atI_nat (j := 0) rfl | exact atI_nat (j := 1) rfl | exact atI_nat (j := 2) rfl | exact atI_nat (j := 3) rfl | exact .ty _ | exact .int _ | exact .str _ | exact .bl _ | exact ClsV.ty _ | walk_at "ty" | exact kit_ty (by decide +kernel) | exact True.intro | (show tyV _ _ _ _; exact .inl ⟨rfl, _, SqL.of (by walk_at "hq")⟩) | (show TruV _ _ _ _; first | exact .inl ⟨_, SqL.of (by walk_at "hq"), rfl⟩ | exact .inr (.inl ⟨_, SqT.of (by walk_at "hq"), rfl⟩)) | (show DT _ _ _; walk_at "dt") | (apply DT.dp; walk_at "dt") | (apply Exists.intro; apply SqT.of; walk_at "hq") | (apply Exists.intro; apply SqL.of; walk_at "hq") | (show _ ≤ sizeLine; decide) | omega | (refine small1000 ?_; walk_at "sz") | (refine le1000 ?_; walk_at "sz"))
local macro_rules | `(tactic| walk_at "ite") => `(tactic| refine iteB (fun c => ?_) (fun c => ?_))
local macro_rules | `(tactic| walk_at "st") => `(tactic| first | (apply Exists.intro) | (apply And.intro; focus (walk_at "at"; done)) | (refine iteT ?_) | (refine iteF ?_) | (refine iteY (by assumption) ?_) | (refine iteN (by assumption) ?_) | (refine iteY (decide_eq_true (by first | assumption | omega)) ?_) | (refine iteN (decide_eq_false (by first | assumption | omega)) ?_))
local macro_rules | `(tactic| walk_at "rd") => `(tactic| repeat (walk_at "st"))
abbrev S_folded : Stmt := top 17
theorem sc_folded : FnScope ["rows", "join", "made", "tree", "many", "parts", "_"] ["rows", "join"] (defScope S_folded) := ⟨rfl, rfl, rfl, by decide +kernel, rfl, by decide +kernel, by decide +kernel⟩
section
variable {R : Type}
/-- the pile of what was made of the rows, the last made first -/
def foldR (J : T → List R → R) : List (T × Nat) → List R
  | [] => []
  | (t, n) :: rest => J t ((foldR J rest).take n) :: (foldR J rest).drop n
/-- each step finds its parts -/
def FoldOK (J : T → List R → R) (Fit : T → List R → Prop) : List (T × Nat) → Prop
  | [] => True
  | (t, n) :: rest => n ≤ (foldR J rest).length ∧ Fit t ((foldR J rest).take n) ∧ FoldOK J Fit rest
def rowD (r : T × Nat) : PyData := .tuple [r.1.data, .int (r.2 : Nat)]
theorem drop_rev {α : Type} {rows : List α} {i : Nat} {r : α} (hi : i < rows.length) (e : rows[rows.length - 1 - i]? = some r) : rows.drop (rows.length - (i + 1)) = r :: rows.drop (rows.length - i) := by
  obtain ⟨h, e⟩ := List.getElem?_eq_some_iff.mp e
  have z : rows.length - (i + 1) = rows.length - 1 - i := by omega
  rw [z, List.drop_eq_getElem_cons h, e]
  congr 2
  omega
theorem snoc_inv {H : Hp} : ∀ {vs : List V} {ds : List PyData} {d : PyData}, DTs H vs (ds ++ [d]) → ∃ ws v, vs = ws ++ [v] ∧ DTs H ws ds ∧ DT H v d
  | vs, [], d, h => by
    obtain ⟨v, w, rfl, h1, h2⟩ := h.cons_inv
    rw [h2.nil_inv]
    exact ⟨[], v, rfl, .nil, h1⟩
  | vs, x :: xs, d, h => by
    obtain ⟨v, w, rfl, h1, h2⟩ := h.cons_inv
    obtain ⟨ws, u, rfl, h3, h4⟩ := snoc_inv h2
    exact ⟨v :: ws, u, rfl, .cons h1 h3, h4⟩
theorem foldR_len (J : T → List R → R) : ∀ rows : List (T × Nat), (foldR J rows).length ≤ rows.length
  | [] => Nat.le_refl _
  | (t, n) :: rest => by
    have := foldR_len J rest
    simp only [foldR, List.length_cons, List.length_drop]
    omega
theorem FoldOK.drop {J : T → List R → R} {Fit : T → List R → Prop} : ∀ {rows : List (T × Nat)} (k : Nat), FoldOK J Fit rows → FoldOK J Fit (rows.drop k)
  | rows, 0, h => h
  | [], _ + 1, h => h
  | (t, n) :: rest, k + 1, h => FoldOK.drop k h.2.2
/-- the list of what is made so far -/
structure MadeAt (enc : R → PyData) (H : Hp) (m : Addr) (st : List R) (H2 : Hp) : Prop where
  same : Same H H2
  made : ∃ ys, H2 m = some (.lst ys) ∧ DTs H2 ys (st.reverse.map enc)
structure PartsAt (enc : R → PyData) (H : Hp) (m D : Addr) (st : List R) (j : Nat) (H2 : Hp) : Prop where
  same : Same H H2
  made : ∃ ys, H2 m = some (.lst ys) ∧ DTs H2 ys ((st.drop j).reverse.map enc)
  parts : ∃ zs, H2 D = some (.lst zs) ∧ DTs H2 zs ((st.take j).map enc)
theorem parts_step {enc : R → PyData} {H H2 : Hp} {m D : Addr} {st : List R} {j : Nat} (hm : H m = none) (hD : H D = none) (ne : D ≠ m) (hj : j < st.length) (h : PartsAt enc H m D st j H2) :
    ∃ ys y zs, H2 m = some (.lst (ys ++ [y])) ∧ H2 D = some (.lst zs) ∧ zs.length = j ∧ PartsAt enc H m D st (j + 1) (upd (upd H2 m (.lst ys)) D (.lst (zs ++ [y]))) ∧ upd H2 m (.lst ys) D = some (.lst zs) := by
  obtain ⟨s2, ⟨ys, hy, dy⟩, zs, hz, dz⟩ := h
  have e : st.drop j = st[j] :: st.drop (j + 1) := List.drop_eq_getElem_cons hj
  rw [e, List.reverse_cons, List.map_append] at dy
  obtain ⟨ws, y, rfl, dw, d1⟩ := snoc_inv dy
  have lz : zs.length = j := by rw [dz.length, List.length_map, List.length_take]; omega
  have t1 : Tups H2 (upd H2 m (.lst ws)) := tups_lst hy
  have hz1 : upd H2 m (.lst ws) D = some (.lst zs) := by rw [upd_ne ne]; exact hz
  have t2 : Tups H2 (upd (upd H2 m (.lst ws)) D (.lst (zs ++ [y]))) := fun c zs e => tups_lst hz1 c zs (t1 c zs e)
  refine ⟨ws, y, zs, hy, hz, lz, ⟨fun b o z => ?_, ⟨ws, ?_, dw.keep t2⟩, _, upd_same, ?_⟩, hz1⟩
  · rw [upd_ne (ne_of_none z hD), upd_ne (ne_of_none z hm)]
    exact s2 _ _ z
  · rw [upd_ne (Ne.symm ne), upd_same]
  · rw [take_get (List.getElem?_eq_getElem hj), List.map_append]
    exact (dz.keep t2).append (.cons (d1.keep t2) .nil)
end
section
variable {P : Program} {w : World} {K : PySem.W.Frag} {mg : Str → Option Value} {base : Heap}
theorem fold_body {R : Type} {J : T → List R → R} {Fit : T → List R → Prop} {enc : R → PyData} {f : Addr} {cdv : Value} {A : Around} {outer : List Env} {s : Shared} {H : Hp} {E : XK} {Q : VK} {tJ : TE} {jv : V} {a : Addr} {xs : List V} {rows : List (T × Nat)}
    (m_reversed : mg "reversed" = none) (m_range : mg "range" = none)
    (hJ : ∀ p1 p2 p3 p4 : Pos, PE (cxOf CX0 P w K mg base ["rows", "join", "made", "tree", "many", "parts", "_"] "folded" (defScope S_folded) f cdv A outer s H E).nox (.Call (.Name "join" p1) [.Name "tree" p2, .Name "parts" p3] [] p4) tJ)
    (hS : ∀ (σ : L2.St) (H2 : Hp) (Q2 : V → Hp → Prop) (v : V) (D : Addr) (t : T) (zs : List V) (rs : List R), σ[1]? = some (some jv) → σ[3]? = some (some v) → σ[5]? = some (some (.ref D)) → Same H H2 → DT H2 v t.data → H2 D = some (.lst zs) → DTs H2 zs (rs.map enc) → Fit t rs → rs.length ≤ 900 →
      (∀ u H3, Same H2 H3 → DT H3 u (enc (J t rs)) → Q2 u H3) → tJ σ H2 Q2)
    (ha : H a = some (.lst xs)) (hx : DTs H xs (rows.map rowD)) (ok : FoldOK J Fit rows) (few : rows.length ≤ 900) (r : R) (one : foldR J rows = [r]) (q : ∀ u H', Same H H' → DT H' u (enc r) → Q u H') :
    ∃ t, PSs (cxOf CX0 P w K mg base ["rows", "join", "made", "tree", "many", "parts", "_"] "folded" (defScope S_folded) f cdv A outer s H E).nox (defBody S_folded) t ∧ t { nx := fun _ H' => Q .non H', rt := Q } (L2.start ["rows", "join", "made", "tree", "many", "parts", "_"] [.ref a, jv]) H := by
  refine ⟨_, pss_cons (ps_set (i := 2) sc_folded.nd rfl (.inr rfl) (pe_lst pa_nil))
      (pss_cons (ps_for PassesOwn.never rfl (pi_reversed (by rfl) m_reversed (pa_cons (pv 0) pa_nil)) (pg_tup (by rfl) (pgs_cons (pg_name (i := 3) sc_folded.nd rfl (.inl rfl)) (pgs_cons (pg_name (i := 4) sc_folded.nd rfl (.inl rfl)) pgs_nil)))
        (pss_cons (ps_setLc (i := 5) (own := [("_", 6)]) (g := (gName 6)) (tt := tYes) (by rfl) sc_folded.nd rfl rfl (sw_true rfl rfl rfl (by decide +kernel)) (pi_range1 (by rfl) m_range (pa_cons (pv 4) pa_nil)) (blkOk_by (own := [("_", 6)]) (N := ["rows", "join", "made", "tree", "many", "parts", "_"]) (sc := defScope S_folded) (by decide +kernel)) (fun _ _ _ _ _ => pg_name (i := 6) sc_folded.nd rfl (.inl rfl)) (fun _ _ _ _ _ => pts_nil) (fun _ _ _ _ _ => pe_bm0K (K := K) rfl PySem.F.plainAttrs_list PySem.F.slot_list_pop PySem.F.type_list_pop mt_pop (pv 2)))
        (pss_one (ps_expr (pe_bmK (K := K) rfl PySem.F.plainAttrs_list PySem.F.slot_list_append PySem.F.type_list_append mt_append (pv 2) (pa_cons ((hJ _ _ _ _)) pa_nil))))))
      (pss_one (ps_ret (pe_ix (r := rIxL K) ix_list (pv 2) (pe_int) (fun _ _ => rfl))))), ?_⟩
  walk_at "rd"
  intro m hm
  walk_at "rd"
  refine (for_it (walk_rev (K := K) (a := a) (xs := xs)) (fun i σ H2 => ∃ o3 o4 o5 o6, σ = [some (.ref a), some jv, some (.ref m), o3, o4, o5, o6] ∧ MadeAt enc H m (foldR J (rows.drop (rows.length - i))) H2)
    ⟨none, none, none, none, rfl, same_new hm, [], upd_same, by rw [Nat.sub_zero, List.drop_length]; exact .nil⟩ (fun i σ H2 _ ⟨_, _, _, _, _, h⟩ => SqL.of (h.same _ _ ha)) ?_ ?_).choose_spec
  · rintro i x σ H2 H3 hi ⟨o3, o4, o5, o6, rfl, s2, ys, hy, dy⟩ ⟨rfl, ex⟩
    have lx : xs.length = rows.length := by rw [hx.length, List.length_map]
    rw [lx] at ex hi
    obtain ⟨d, ed, gd⟩ := hx.get ex
    obtain ⟨⟨t, n⟩, er, rfl⟩ := map_get ed
    obtain ⟨p, v, nv, rfl, hp, g1, g2⟩ := DT.two_inv gd
    obtain rfl := g2.int_inv
    have dr := drop_rev hi er
    have okd := ok.drop (rows.length - (i + 1))
    rw [dr] at okd
    obtain ⟨hn, fit, _⟩ := okd
    have lst := foldR_len J (rows.drop (rows.length - i))
    rw [List.length_drop] at lst
    generalize hst : foldR J (rows.drop (rows.length - i)) = st at dy hn fit lst
    walk_at "rd"
    intro D hD
    have hD0 : H D = none := s2.free hD
    have nDm : D ≠ m := fun z => by rw [z, hy] at hD; cases hD
    refine lc_it (walk_range (lo := 0) (n := n)) (PartsAt enc H m D st) ⟨s2.trans (same_new hD), ⟨ys, same_new hD _ _ hy, by rw [List.drop_zero]; exact Same.dts (same_new hD) dy⟩, [], upd_same, .nil⟩ (fun _ _ _ _ => True.intro) ?_ ?_
    · rintro j x H3 H4 hj hP ⟨rfl, rfl⟩
      obtain ⟨ws, y, zs, e1, e2, e3, e4, e5⟩ := parts_step hm hD0 nDm (by omega) hP
      have hget : (ws ++ [y])[(ws ++ [y]).length - 1]? = some y := by simp
      have e6 : upd H4 m (.lst (ws ++ [y]).dropLast) D = some (.lst zs) := by rw [List.dropLast_concat]; exact e5
      walk_at "rd"
      rw [List.dropLast_concat]
      exact e4
    · rintro H3 ⟨s3, ⟨ws, hw, dw⟩, zs, hz, dz⟩
      have lz : zs.length = n := by rw [dz.length, List.length_map, List.length_take]; omega
      have lw : ws.length ≤ 900 := by rw [dw.length, List.length_map, List.length_reverse, List.length_drop]; omega
      walk_at "rd"
      refine hS _ _ _ v D t zs (st.take n) rfl rfl rfl s3 (Same.dt s3 g1) hz dz fit (by rw [List.length_take]; omega) fun u H4 s4 du => ?_
      walk_at "rd"
      have hw4 := s4 _ _ hw
      rw [dr, foldR, hst]
      refine ⟨fun b o z => ?_, _, upd_same, ?_⟩
      · rw [upd_ne (ne_of_none z hm)]
        exact s4 _ _ (s3 _ _ z)
      · rw [List.reverse_cons, List.map_append]
        exact ((Same.dts s4 dw).keep (tups_lst hw4)).append (.cons (du.keep (tups_lst hw4)) .nil)
  · rintro σ H2 ⟨o3, o4, o5, o6, rfl, s2, ys, hy, dy⟩
    have lx : xs.length = rows.length := by rw [hx.length, List.length_map]
    rw [lx, Nat.sub_self, List.drop_zero] at dy
    rw [one] at dy
    obtain ⟨v, w, rfl, g, t⟩ := dy.cons_inv
    obtain rfl := t.nil_inv
    walk_at "rd"
    exact q _ _ s2 g
end

end Wood

set_option maxHeartbeats 8000000
namespace Wood
open PySem PySem.Spec PyProof.Rows L2 Gen
local macro_rules | `(tactic| walk_at "sz") => `(tactic| first | assumption | omega | (simp only [List.length_map, List.length_append, List.length_cons, List.length_nil, List.length_reverse] at *; omega))
local macro_rules | `(tactic| walk_at "hq") => `(tactic| first | assumption | exact upd_same | (refine same_new (by assumption) _ _ ?_; walk_at "hq") | (refine (show Same _ _ by assumption) _ _ ?_; walk_at "hq") | (refine (upd_ne (by assumption)).trans ?_; walk_at "hq"))
local macro_rules | `(tactic| walk_at "ty") => `(tactic| first | exact .base (.int _) | exact .base (.str _) | exact .base (.bl _) | exact .base .non | (apply TyX.base; apply TyOf.tup; walk_at "hq") | (apply TyX.base; apply TyOf.lst; walk_at "hq"))
local macro_rules | `(tactic| walk_at "dt") => `(tactic| first | assumption | exact DT.str _ | exact DT.int _ | exact DT.bl _ | exact DT.non | (refine Same.dt (same_new (by assumption)) ?_; walk_at "dt") | (refine Same.dt (by assumption) ?_; walk_at "dt"))
local macro_rules | `(tactic| walk_at "at") => `(tactic| first | with_reducible rfl | rfl | assumption | (show _ = some _; walk_at "hq") | (apply SqT.of; walk_at "hq") | (apply SqL.of; walk_at "hq") | (apply Or.inl; apply SqL.of; walk_at "hq") | (apply Or.inr; apply SqT.of; walk_at "hq") | (apply Or.inl; apply SqT.of; walk_at "hq") | (apply Or.inr; apply SqL.of; walk_at "hq") | exact atI_nat (j := 0) rfl | exact atI_nat (j := 1) rfl | exact atI_nat (j := 2) rfl | exact atI_nat (j := 3) rfl | exact .ty _ | exact .int _ | exact .str _ | exact .bl _ | exact ClsV.ty _ | walk_at "ty" | exact kit_ty (by decide +kernel) | exact True.intro | (show tyV _ _ _ _; exact .inl ⟨rfl, _, SqL.of (by walk_at "hq")⟩) | (show TruV _ _ _ _; first | exact .inl ⟨_, SqL.of (by walk_at "hq"), rfl⟩ | exact .inr (.inl ⟨_, SqT.of (by walk_at "hq"), rfl⟩)) | (show DT _ _ _; walk_at "dt") | (apply DT.dp; walk_at "dt") | (apply Exists.intro; apply SqT.of; walk_at "hq") | (apply Exists.intro; apply SqL.of; walk_at "hq") | (show _ ≤ sizeLine; decide) | omega | (refine small1000 ?_; walk_at "sz") | (refine le1000 ?_; walk_at "sz"))
local macro_rules | `(tactic| walk_at "ite") => `(tactic| refine iteB (fun c => ?_) (fun c => ?_))
local macro_rules | `(tactic| walk_at "st") => `(tactic| first | (apply Exists.intro) | (apply And.intro; focus (walk_at "at"; done)) | (refine iteT ?_) | (refine iteF ?_) | (refine iteY (by assumption) ?_) | (refine iteN (by assumption) ?_) | (refine iteY (decide_eq_true (by first | assumption | omega)) ?_) | (refine iteN (decide_eq_false (by first | assumption | omega)) ?_))
local macro_rules | `(tactic| walk_at "rd") => `(tactic| repeat (walk_at "st"))
section
variable {P : Program} {w : World} {K : PySem.W.Frag} {mg : Str → Option Value} {base : Heap}
def spFoldW (j : Addr) : Sp := fun vs H Q _ => ∃ (a : Addr) (xs : List V) (rows : List (T × Nat)) (r : Option T), vs = [.ref a, .ref j] ∧ H a = some (.lst xs) ∧ DTs H xs (rows.map rowD) ∧ FoldOK lessJ Fits2 rows ∧ rows.length ≤ 900 ∧ foldR lessJ rows = [r] ∧ ∀ u H', Same H H' → DT H' u (oD r) → Q u H'
theorem ok_foldedW {f : Addr} {fd : FuncData} (F : Fun K "folded" "folded" S_folded f fd) (m_reversed : mg "reversed" = none) (m_range : mg "range" = none) {j : Addr} {jd : FuncData} (G : FnOk P w K mg base CX0 2 j jd ["tree", "parts"] spWn) (kp : PySem.W.keepIn K (.ref j) = true) (b : Binds K jd ["tree", "parts"] []) :
    FnOk P w K mg base CX0 3 f fd ["rows", "join"] (spFoldW j) := by
  refine F.ok sc_folded (fun vs H Q E h => ?_) (fun cdv A outer s H vs Q E hr h => ?_)
  · obtain ⟨a, xs, rows, r, rfl, _⟩ := h
    rfl
  · obtain ⟨a, xs, rows, r, rfl, ha, hx, ok, few, one, q⟩ := h
    refine fold_body m_reversed m_range (fun p1 p2 p3 p4 => pe_callL (i := 1) G (hr.mono (by decide)) rfl (.inl rfl) kp b .nil pass0 (pa_cons (pv 3) (pa_cons (pv 5) pa_nil))) (fun σ H2 Q2 v D t zs rs h1 h3 h5 s2 dv hz dz fit few q2 => ?_) ha hx ok few r one q
    exact ⟨h1, v, h3, .ref D, h5, v, t, D, zs, rs, rfl, dv, hz, dz, few, fit, q2⟩
end

end Wood

set_option maxHeartbeats 8000000
namespace Wood
open PySem PySem.Spec PyProof.Rows L2 Gen
local macro_rules | `(tactic| walk_at "sz") => `(tactic| first | assumption | omega | (simp only [List.length_map, List.length_append, List.length_cons, List.length_nil, List.length_reverse] at *; omega))
local macro_rules | `(tactic| walk_at "hq") => `(tactic| first | assumption | exact upd_same | (refine same_new (by assumption) _ _ ?_; walk_at "hq") | (refine (show Same _ _ by assumption) _ _ ?_; walk_at "hq") | (refine (upd_ne (by assumption)).trans ?_; walk_at "hq"))
local macro_rules | `(tactic| walk_at "ty") => `(tactic| first | exact .base (.int _) | exact .base (.str _) | exact .base (.bl _) | exact .base .non | (apply TyX.base; apply TyOf.tup; walk_at "hq") | (apply TyX.base; apply TyOf.lst; walk_at "hq"))
local macro_rules | `(tactic| walk_at "dt") => `(tactic| first | assumption | exact DT.str _ | exact DT.int _ | exact DT.bl _ | exact DT.non | (refine Same.dt (same_new (by assumption)) ?_; walk_at "dt") | (refine Same.dt (by assumption) ?_; walk_at "dt"))
local macro_rules | `(tactic| walk_at "at") => `(tactic| first | with_reducible rfl | rfl | assumption | (show _ = some _; walk_at "hq") | (apply SqT.of; walk_at "hq") | (apply SqL.of; walk_at "hq") | (apply Or.inl; apply SqL.of; walk_at "hq") | (apply Or.inr; apply SqT.of; walk_at "hq") | (apply Or.inl; apply SqT.of; walk_at "hq") | (apply Or.inr; apply SqL.of; walk_at "hq") | exact atI_nat (j := 0) rfl | exact atI_nat (j := 1) rfl | exact atI_nat (j := 2) rfl | exact atI_nat (j := 3) rfl | exact .ty _ | exact .int _ | exact .str _ | exact .bl _ | exact ClsV.ty _ | walk_at "ty" | exact kit_ty (by decide +kernel) | exact True.intro | (show tyV _ _ _ _; exact .inl ⟨rfl, _, SqL.of (by walk_at "hq")⟩) | (show TruV _ _ _ _; first | exact .inl ⟨_, SqL.of (by walk_at "hq"), rfl⟩ | exact .inr (.inl ⟨_, SqT.of (by walk_at "hq"), rfl⟩)) | (show DT _ _ _; walk_at "dt") | (apply DT.dp; walk_at "dt") | (apply Exists.intro; apply SqT.of; walk_at "hq") | (apply Exists.intro; apply SqL.of; walk_at "hq") | (show _ ≤ sizeLine; decide) | omega | (refine small1000 ?_; walk_at "sz") | (refine le1000 ?_; walk_at "sz"))
local macro_rules | `(tactic| walk_at "ite") => `(tactic| refine iteB (fun c => ?_) (fun c => ?_))
local macro_rules | `(tactic| walk_at "st") => `(tactic| first | (apply Exists.intro) | (apply And.intro; focus (walk_at "at"; done)) | (refine iteT ?_) | (refine iteF ?_) | (refine iteY (by assumption) ?_) | (refine iteN (by assumption) ?_) | (refine iteY (decide_eq_true (by first | assumption | omega)) ?_) | (refine iteN (decide_eq_false (by first | assumption | omega)) ?_))
local macro_rules | `(tactic| walk_at "rd") => `(tactic| repeat (walk_at "st"))
abbrev S_require_named_pair : Stmt := top 24
theorem sc_require_named_pair : FnScope ["user"] ["user"] (defScope S_require_named_pair) := ⟨rfl, rfl, rfl, by decide +kernel, rfl, by decide +kernel, by decide +kernel⟩
def spReq : Sp := fun vs H Q _ => ∃ v k n, vs = [v] ∧ DT H v (obj k n) ∧ NmOK k ∧ 0 ≤ n ∧ Q .non H
section
variable {P : Program} {w : World} {K : PySem.W.Frag} {mg : Str → Option Value} {base : Heap}
theorem ok_require_named_pair  {f : Addr} {fd : FuncData} (F : Fun K "require_named_pair" "require_named_pair" S_require_named_pair f fd) {f_is_named_pair : Addr} {fd_is_named_pair : FuncData} (G_is_named_pair : FnOk P w K mg base CX0 2 f_is_named_pair fd_is_named_pair ["value"] spPair) (g_is_named_pair : mg "is_named_pair" = some (.ref f_is_named_pair)) (k_is_named_pair : PySem.W.keepIn K (.ref f_is_named_pair) = true) (b_is_named_pair : Binds K fd_is_named_pair ["value"] [])  : FnOk P w K mg base CX0 3 f fd ["user"] spReq := by
  refine F.ok sc_require_named_pair (fun vs H Q E h => ?_) (fun cdv A outer s H vs Q E hr h => ?_)
  · obtain ⟨x, _, _, rfl, _⟩ := h; rfl
  · obtain ⟨v, k, n, rfl, hv, hk, hn, q⟩ := h
    refine ⟨_, pss_one (ps_if (pt_not (pt_val (pe_call G_is_named_pair (hr.mono (by decide)) (by rfl) g_is_named_pair k_is_named_pair b_is_named_pair .nil pass0 (pa_cons (pv 0) pa_nil))))
        (pss_one (ps_never))
        (pss_nil)), ?_⟩
    walk_at "rd"
    exact q
end

end Wood

set_option maxHeartbeats 8000000
namespace Wood
open PySem PySem.Spec PyProof.Rows L2 Gen
local macro_rules | `(tactic| walk_at "sz") => `(tactic| first | assumption | omega | (simp only [List.length_map, List.length_append, List.length_cons, List.length_nil, List.length_reverse] at *; omega))
local macro_rules | `(tactic| walk_at "hq") => `(tactic| first | assumption | exact upd_same | (refine same_new (by assumption) _ _ ?_; walk_at "hq") | (refine (show Same _ _ by assumption) _ _ ?_; walk_at "hq") | (refine (upd_ne (by assumption)).trans ?_; walk_at "hq"))
local macro_rules | `(tactic| walk_at "ty") => `(tactic| first | exact .base (.int _) | exact .base (.str _) | exact .base (.bl _) | exact .base .non | (apply TyX.base; apply TyOf.tup; walk_at "hq") | (apply TyX.base; apply TyOf.lst; walk_at "hq"))
local macro_rules | `(tactic| walk_at "dt") => `(tactic| first | assumption | exact DT.str _ | exact DT.int _ | exact DT.bl _ | exact DT.non | (refine Same.dt (same_new (by assumption)) ?_; walk_at "dt") | (refine Same.dt (by assumption) ?_; walk_at "dt"))
local macro_rules | `(tactic| walk_at "at") => `(tactic| first | with_reducible rfl | rfl | assumption | (show _ = some _; walk_at "hq") | (apply SqT.of; walk_at "hq") | (apply SqL.of; walk_at "hq") | (apply Or.inl; apply SqL.of; walk_at "hq") | (apply Or.inr; apply SqT.of; walk_at "hq") | (apply Or.inl; apply SqT.of; walk_at "hq") | (apply Or.inr; apply SqL.of; walk_at "hq") | exact atI_nat (j := 0) rfl | exact atI_nat (j := 1) rfl | exact atI_nat (j := 2) rfl | exact atI_nat (j := 3) rfl | exact .ty _ | exact .int _ | exact .str _ | exact .bl _ | exact ClsV.ty _ | walk_at "ty" | exact kit_ty (by decide +kernel) | exact True.intro | (show tyV _ _ _ _; exact .inl ⟨rfl, _, SqL.of (by walk_at "hq")⟩) | (show TruV _ _ _ _; first | exact .inl ⟨_, SqL.of (by walk_at "hq"), rfl⟩ | exact .inr (.inl ⟨_, SqT.of (by walk_at "hq"), rfl⟩)) | (show DT _ _ _; walk_at "dt") | (apply DT.dp; walk_at "dt") | (apply Exists.intro; apply SqT.of; walk_at "hq") | (apply Exists.intro; apply SqL.of; walk_at "hq") | (show _ ≤ sizeLine; decide) | omega | (refine small1000 ?_; walk_at "sz") | (refine le1000 ?_; walk_at "sz"))
local macro_rules | `(tactic| walk_at "ite") => `(tactic| refine iteB (fun c => ?_) (fun c => ?_))
local macro_rules | `(tactic| walk_at "st") => `(tactic| first | (apply Exists.intro) | (apply And.intro; focus (walk_at "at"; done)) | (refine iteT ?_) | (refine iteF ?_) | (refine iteY (by assumption) ?_) | (refine iteN (by assumption) ?_) | (refine iteY (decide_eq_true (by first | assumption | omega)) ?_) | (refine iteN (decide_eq_false (by first | assumption | omega)) ?_))
local macro_rules | `(tactic| walk_at "rd") => `(tactic| repeat (walk_at "st"))
def rowT (r : List Nat × T) : PyData := .tuple [.tuple (r.1.map fun k => .int (k : Nat)), r.2.data, .int ((inner r.2).length : Nat)]
/-- a frame: the list at q, its parts pv (the trees all), k of them come to -/
structure Fr where
  q : Addr
  pv : V
  all : List T
  k : Nat
/-- the frames, the top one first; the path of its tree; what is still to come -/
inductive Stk (D : Nat) : List Fr → List Nat → List (List Nat × T) → Prop
  | nil : Stk D [] [] []
  | bot0 {q pv t} : deep t ≤ D → Stk D [⟨q, pv, [t], 0⟩] [] (pre [] t)
  | bot1 {q pv t} : Stk D [⟨q, pv, [t], 1⟩] [] []
  | up1 {q pv all k f} : k ≤ all.length → deeps all ≤ D → Stk D [f] [] [] → Stk D [⟨q, pv, all, k⟩, f] [] (preL [] k (all.drop k))
  | up {q pv all k f f2 fs path rem} {j : Nat} : k ≤ all.length → path.length + 1 + deeps all ≤ D → Stk D (f :: f2 :: fs) path rem → Stk D (⟨q, pv, all, k⟩ :: f :: f2 :: fs) (path ++ [j]) (preL (path ++ [j]) k (all.drop k) ++ rem)
structure TreesAt (H : Hp) (fA pA aA : Addr) (t : T) (fs : List Fr) (path : List Nat) (rem : List (List Nat × T)) (H2 : Hp) : Prop where
  same : Same H H2
  nd : (fA :: pA :: aA :: fs.map (·.q)).Nodup
  fresh : ∀ x ∈ fA :: pA :: aA :: fs.map (·.q), H x = none
  stk : Stk (deep t) fs path rem
  around : H2 aA = some (.lst ((fs.map fun f => V.ref f.q).reverse))
  frs : ∀ f ∈ fs, H2 f.q = some (.lst [f.pv, .int (f.k : Nat)]) ∧ DT H2 f.pv (.tuple (datas f.all)) ∧ Wfs f.all
  pth : H2 pA = some (.lst (path.map fun k => V.int (k : Nat)))
  found : ∃ xs done, H2 fA = some (.lst xs) ∧ DTs H2 xs (done.map rowT) ∧ done ++ rem = pre [] t
theorem stk_pop {D : Nat} {f : Fr} {fs : List Fr} {path : List Nat} {rem : List (List Nat × T)} (h : Stk D (f :: fs) path rem) (e : f.k = f.all.length) : Stk D fs path.dropLast rem := by
  cases h with
  | bot0 _ => simp at e
  | bot1 => exact .nil
  | @up1 q pv all k f hk _ h =>
    obtain rfl : k = all.length := e
    rw [List.drop_length]
    simpa [preL] using h
  | @up q pv all k f f2 fs path rem j hk _ h =>
    obtain rfl : k = all.length := e
    rw [List.drop_length, List.dropLast_concat]
    simpa [preL] using h
theorem stk_push {D : Nat} {q : Addr} {pv : V} {all : List T} {k : Nat} {fs : List Fr} {path : List Nat} {rem : List (List Nat × T)} {c : T} (h : Stk D (⟨q, pv, all, k⟩ :: fs) path rem) (e : all[k]? = some c) :
    ∃ rem', rem = ((if fs = [] then path else path ++ [k]), c) :: rem' ∧ (if fs = [] then path else path ++ [k]).length ≤ D ∧ ∀ qn u, Stk D (⟨qn, u, inner c, 0⟩ :: ⟨q, pv, all, k + 1⟩ :: fs) (if fs = [] then path else path ++ [k]) rem' := by
  cases h with
  | @bot0 _ _ t dt =>
    obtain rfl : t = c := by simpa using e
    have dd := deep_eq t
    refine ⟨preL [] 0 (inner t), by rw [if_pos rfl]; exact pre_eq [] t, by simp, fun qn u => ?_⟩
    rw [if_pos rfl]
    have z := Stk.up1 (D := D) (q := qn) (pv := u) (all := inner t) (k := 0) (f := ⟨q, pv, [t], 1⟩) (Nat.zero_le _) (by omega) .bot1
    simpa using z
  | bot1 => simp at e
  | @up1 _ _ _ _ f hk hd h =>
    obtain ⟨hlt, ec⟩ := List.getElem?_eq_some_iff.mp e
    have dd := deep_eq c
    have dm := deep_mem (List.mem_of_getElem? e)
    have dr : all.drop k = c :: all.drop (k + 1) := by rw [List.drop_eq_getElem_cons hlt, ec]
    refine ⟨preL ([] ++ [k]) 0 (inner c) ++ preL [] (k + 1) (all.drop (k + 1)), ?_, ?_, fun qn u => ?_⟩
    · rw [if_neg (by simp), dr, preL, pre_eq]
      rfl
    · rw [if_neg (by simp)]
      simp
      omega
    · rw [if_neg (by simp)]
      have z := Stk.up (D := D) (q := qn) (pv := u) (all := inner c) (k := 0) (j := k) (f := ⟨q, pv, all, k + 1⟩) (f2 := f) (fs := []) (path := []) (Nat.zero_le _) (by simp; omega) (.up1 hlt hd h)
      simpa using z
  | @up _ _ _ _ f f2 fs path rem j hk hd h =>
    obtain ⟨hlt, ec⟩ := List.getElem?_eq_some_iff.mp e
    have dd := deep_eq c
    have dm := deep_mem (List.mem_of_getElem? e)
    have dr : all.drop k = c :: all.drop (k + 1) := by rw [List.drop_eq_getElem_cons hlt, ec]
    refine ⟨preL (path ++ [j] ++ [k]) 0 (inner c) ++ (preL (path ++ [j]) (k + 1) (all.drop (k + 1)) ++ rem), ?_, ?_, fun qn u => ?_⟩
    · rw [if_neg (by simp), dr, preL, pre_eq]
      simp
    · rw [if_neg (by simp)]
      simp
      omega
    · rw [if_neg (by simp)]
      have z := Stk.up (D := D) (q := qn) (pv := u) (all := inner c) (k := 0) (j := k) (f := ⟨q, pv, all, k + 1⟩) (f2 := f) (fs := f2 :: fs) (path := path ++ [j]) (Nat.zero_le _) (by simp; omega) (.up (j := j) hlt hd h)
      simpa using z
theorem wfs_get : ∀ {ts : List T} {k : Nat} {c : T}, Wfs ts → ts[k]? = some c → Wf c
  | _ :: _, 0, c, h, e => by
    rw [Wfs] at h
    injection e with e
    subst e
    exact h.1
  | _ :: _, k + 1, c, h, e => by
    rw [Wfs] at h
    exact wfs_get h.2 (by simpa using e)
theorem wf_inner {t : T} (h : Wf t) : Wfs (inner t) := by
  cases t <;> simp only [Wf, inner, Wfs] at * <;> simp_all
section
variable {H H2 : Hp} {fA pA aA : Addr} {t : T} {fs : List Fr} {f : Fr} {path : List Nat} {rem : List (List Nat × T)}
/-- one frame less -/
theorem trees_pop (h : TreesAt H fA pA aA t (f :: fs) path rem H2) (e : f.k = f.all.length) {H3 : Hp} (ha : H3 aA = some (.lst ((fs.map fun f => V.ref f.q).reverse))) (hp : H3 pA = some (.lst (path.dropLast.map fun k => V.int (k : Nat))))
    (kp : ∀ b o, b ≠ aA → b ≠ pA → H2 b = some o → H3 b = some o) : TreesAt H fA pA aA t fs path.dropLast rem H3 := by
  obtain ⟨s2, nd, fr, st, ar, frs, pt, xs, done, hf, dx, ed⟩ := h
  have nf := fr fA (by simp)
  have np := fr pA (by simp)
  have na := fr aA (by simp)
  have tp : Tups H2 H3 := fun a zs z => kp a _ (fun y => by rw [y, ar] at z; cases z) (fun y => by rw [y, pt] at z; cases z) z
  simp only [List.map_cons, List.nodup_cons, List.mem_cons, not_or] at nd
  obtain ⟨⟨n1, n2, n3, n4⟩, ⟨n5, n6, n7⟩, ⟨n8, n9⟩, n10, n11⟩ := nd
  refine ⟨fun b o z => kp b o (ne_of_none z na) (ne_of_none z np) (s2 _ _ z), ?_, fun x m => fr x ?_, stk_pop st e, ha, fun g m => ?_, hp, xs, done, kp _ _ n2 n1 hf, dx.keep tp, ed⟩
  · simp only [List.nodup_cons, List.mem_cons, not_or]
    exact ⟨⟨n1, n2, n4⟩, ⟨n5, n7⟩, n9, n11⟩
  · simp only [List.map_cons, List.mem_cons] at m ⊢
    rcases m with m | m | m | m
    · exact .inl m
    · exact .inr (.inl m)
    · exact .inr (.inr (.inl m))
    · exact .inr (.inr (.inr (.inr m)))
  · obtain ⟨h1, h2, h3⟩ := frs g (List.mem_cons_of_mem _ m)
    have mq : g.q ∈ fs.map (·.q) := List.mem_map.mpr ⟨g, m, rfl⟩
    refine ⟨kp _ _ (fun z => ?_) (fun z => ?_) h1, h2.keep tp, h3⟩
    · rw [z] at mq; exact n9 mq
    · rw [z] at mq; exact n7 mq
/-- one more frame -/
theorem trees_push {q : Addr} {pv u : V} {all : List T} {k : Nat} {c : T} (h : TreesAt H fA pA aA t (⟨q, pv, all, k⟩ :: fs) path rem H2) (e : all[k]? = some c) {H3 : Hp} {qn : Addr} {xs : List V} {done : List (List Nat × T)} {row : V}
    (nq : H2 qn = none) (hf : H2 fA = some (.lst xs)) (dx : DTs H2 xs (done.map rowT)) (ed : done ++ rem = pre [] t)
    (ha : H3 aA = some (.lst (((⟨q, pv, all, k⟩ :: fs).map fun f => V.ref f.q).reverse ++ [.ref qn]))) (hp : H3 pA = some (.lst ((if fs = [] then path else path ++ [k]).map fun k => V.int (k : Nat))))
    (hq : H3 q = some (.lst [pv, .int ((k + 1 : Nat) : Int)])) (hn : H3 qn = some (.lst [u, .int 0])) (du : DT H3 u (.tuple (datas (inner c)))) (hf3 : H3 fA = some (.lst (xs ++ [row]))) (dr : DT H3 row (rowT ((if fs = [] then path else path ++ [k]), c)))
    (kp : ∀ b o, b ≠ aA → b ≠ pA → b ≠ fA → b ≠ q → H2 b = some o → H3 b = some o) :
    ∃ path' rem', TreesAt H fA pA aA t (⟨qn, u, inner c, 0⟩ :: ⟨q, pv, all, k + 1⟩ :: fs) path' rem' H3 ∧ 2 * rem'.length + (fs.length + 2) < 2 * rem.length + (fs.length + 1) := by
  obtain ⟨s2, nd, fr, st, ar, frs, pt, _⟩ := h
  have nf := fr fA (by simp)
  have np := fr pA (by simp)
  have na := fr aA (by simp)
  have nqq := fr q (by simp)
  have qA := (frs _ (List.mem_cons_self ..)).1
  have tp : Tups H2 H3 := fun a zs z => kp a _ (fun y => by rw [y, ar] at z; cases z) (fun y => by rw [y, pt] at z; cases z) (fun y => by rw [y, hf] at z; cases z) (fun y => by rw [y, qA] at z; cases z) z
  simp only [List.map_cons, List.nodup_cons, List.mem_cons, not_or] at nd
  obtain ⟨⟨n1, n2, n3, n4⟩, ⟨n5, n6, n7⟩, ⟨n8, n9⟩, n10, n11⟩ := nd
  obtain ⟨rem', er, _, st'⟩ := stk_push st e
  have dis : ∀ x o, H2 x = some o → x ≠ qn := fun x o z y => by rw [y, nq] at z; cases z
  refine ⟨_, rem', ⟨fun b o z => kp b o (ne_of_none z na) (ne_of_none z np) (ne_of_none z nf) (ne_of_none z nqq) (s2 _ _ z), ?_, fun x m => ?_, st' qn u, ?_, fun g m => ?_, hp, xs ++ [row], done ++ [((if fs = [] then path else path ++ [k]), c)], hf3, ?_, ?_⟩, ?_⟩
  · have fz : ∀ g ∈ fs, g.q ≠ qn := fun g m => dis _ _ (frs g (List.mem_cons_of_mem _ m)).1
    simp only [List.map_cons, List.nodup_cons, List.mem_cons, not_or]
    refine ⟨⟨n1, n2, dis _ _ hf, n3, n4⟩, ⟨n5, dis _ _ pt, n6, n7⟩, ⟨dis _ _ ar, n8, n9⟩, ⟨fun z => dis _ _ qA z.symm, fun z => ?_⟩, n10, n11⟩
    obtain ⟨g, m, ge⟩ := List.mem_map.mp z
    exact fz g m ge
  · simp only [List.map_cons, List.mem_cons] at m
    rcases m with rfl | rfl | rfl | rfl | m
    · exact nf
    · exact np
    · exact na
    · exact s2.free nq
    · exact fr x (by simp only [List.map_cons, List.mem_cons]; exact .inr (.inr (.inr m)))
  · rw [ha]
    simp
  · simp only [List.mem_cons] at m
    have wf := (frs _ (List.mem_cons_self ..)).2.2
    rcases m with rfl | rfl | m
    · exact ⟨hn, du, wf_inner (wfs_get wf e)⟩
    · exact ⟨hq, (frs _ (List.mem_cons_self ..)).2.1.keep tp, wf⟩
    · obtain ⟨h1, h2, h3⟩ := frs g (List.mem_cons_of_mem _ m)
      have mq : g.q ∈ fs.map (·.q) := List.mem_map.mpr ⟨g, m, rfl⟩
      refine ⟨kp _ _ (fun z => ?_) (fun z => ?_) (fun z => ?_) (fun z => ?_) h1, h2.keep tp, h3⟩
      · rw [z] at mq; exact n9 mq
      · rw [z] at mq; exact n7 mq
      · rw [z] at mq; exact n4 mq
      · rw [z] at mq; exact n10 mq
  · rw [List.map_append]
    exact (dx.keep tp).append (.cons dr .nil)
  · rw [← ed, er]
    simp
  · rw [er]
    simp only [List.length_cons]
    omega
theorem trees0 {v : V} {tA q0 : Addr} (hv : DT H v t.data) (ok : Wf t) (hf : H fA = none) (hp : upd H fA (.lst []) pA = none) (ht : upd (upd H fA (.lst [])) pA (.lst []) tA = none) (hq : upd (upd (upd H fA (.lst [])) pA (.lst [])) tA (.tup [v]) q0 = none)
    (ha : upd (upd (upd (upd H fA (.lst [])) pA (.lst [])) tA (.tup [v])) q0 (.lst [.ref tA, .int 0]) aA = none) :
    TreesAt H fA pA aA t [⟨q0, .ref tA, [t], 0⟩] [] (pre [] t) (upd (upd (upd (upd (upd H fA (.lst [])) pA (.lst [])) tA (.tup [v])) q0 (.lst [.ref tA, .int 0])) aA (.lst [.ref q0])) := by
  have S1 : Same H (upd H fA (.lst [])) := same_new hf
  have S2 : Same (upd H fA (.lst [])) (upd (upd H fA (.lst [])) pA (.lst [])) := same_new hp
  have S3 : Same (upd (upd H fA (.lst [])) pA (.lst [])) (upd (upd (upd H fA (.lst [])) pA (.lst [])) tA (.tup [v])) := same_new ht
  have S4 : Same (upd (upd (upd H fA (.lst [])) pA (.lst [])) tA (.tup [v])) (upd (upd (upd (upd H fA (.lst [])) pA (.lst [])) tA (.tup [v])) q0 (.lst [.ref tA, .int 0])) := same_new hq
  have S5 : Same (upd (upd (upd (upd H fA (.lst [])) pA (.lst [])) tA (.tup [v])) q0 (.lst [.ref tA, .int 0])) (upd (upd (upd (upd (upd H fA (.lst [])) pA (.lst [])) tA (.tup [v])) q0 (.lst [.ref tA, .int 0])) aA (.lst [.ref q0])) := same_new ha
  have f1 : upd H fA (.lst []) fA = some (.lst []) := upd_same
  have p1 : upd (upd H fA (.lst [])) pA (.lst []) pA = some (.lst []) := upd_same
  have t1 : upd (upd (upd H fA (.lst [])) pA (.lst [])) tA (.tup [v]) tA = some (.tup [v]) := upd_same
  have q1 : upd (upd (upd (upd H fA (.lst [])) pA (.lst [])) tA (.tup [v])) q0 (.lst [.ref tA, .int 0]) q0 = some (.lst [.ref tA, .int 0]) := upd_same
  have ff := S5 _ _ (S4 _ _ (S3 _ _ (S2 _ _ f1)))
  have pp := S5 _ _ (S4 _ _ (S3 _ _ p1))
  refine ⟨S1.trans (S2.trans (S3.trans (S4.trans S5))), ?_, fun x m => ?_, .bot0 (Nat.le_refl _), by simp [upd_same], fun g m => ?_, pp, [], [], ff, .nil, rfl⟩
  · simp only [List.map_cons, List.map_nil, List.nodup_cons, List.mem_cons, not_or, List.not_mem_nil, or_false, not_false_eq_true, List.nodup_nil, and_true]
    exact ⟨⟨ne_of_none f1 hp, ne_of_none (S4 _ _ (S3 _ _ (S2 _ _ f1))) ha, ne_of_none (S3 _ _ (S2 _ _ f1)) hq⟩, ⟨ne_of_none (S4 _ _ (S3 _ _ p1)) ha, ne_of_none (S3 _ _ p1) hq⟩, fun z => ne_of_none q1 ha z.symm⟩
  · simp only [List.map_cons, List.map_nil, List.mem_cons, List.not_mem_nil, or_false] at m
    rcases m with rfl | rfl | rfl | rfl
    · exact hf
    · exact S1.free hp
    · exact Same.free (S1.trans (S2.trans (S3.trans S4))) ha
    · exact Same.free (S1.trans (S2.trans S3)) hq
  · simp only [List.mem_singleton] at m
    subst m
    refine ⟨S5 _ _ q1, ?_, by simp only [Wfs]; exact ⟨ok, trivial⟩⟩
    simp only [datas]
    exact .tup (S5 _ _ (S4 _ _ t1)) (.cons (Same.dt (S1.trans (S2.trans (S3.trans (S4.trans S5)))) hv) .nil)
theorem free_upd {H : Hp} {p q : Addr} {o : HO} (h : upd H p o q = none) : H q = none := by
  by_cases e : q = p
  · rw [e, upd_same] at h
    cases h
  · rw [upd_ne e] at h
    exact h
theorem dts_ints {H : Hp} : ∀ l : List Nat, DTs H (l.map fun k => V.int (k : Nat)) (l.map fun k => PyData.int (k : Nat))
  | [] => .nil
  | k :: l => .cons (.int _) (dts_ints l)
theorem push_end {q1 pp : Addr} {all : List T} {k : Nat} {tc : T} (I : TreesAt H fA pA aA t (⟨q1, .ref pp, all, k⟩ :: fs) path rem H2) (ec : all[k]? = some tc) {xs : List V} {done : List (List Nat × T)} (hfx : H2 fA = some (.lst xs)) (dx : DTs H2 xs (done.map rowT)) (ed : done ++ rem = pre [] t)
    {H1 Hk : Hp} {P : List V} (p1 : H1 pA = some (.lst P)) (k1 : ∀ b o, b ≠ pA → b ≠ q1 → H2 b = some o → H1 b = some o) (h1 : H1 q1 = some (.lst [.ref pp, .int ((k + 1 : Nat) : Int)])) (r1 : ∀ q, H1 q = none → H2 q = none) (eP : P = (if fs = [] then path else path ++ [k]).map fun k => V.int (k : Nat))
    (sk : Same H1 Hk) {pu : Addr} {us : List V} (hpu : Hk pu = some (.tup us)) (dus : DTs Hk us (datas (inner tc))) {x : V} (gx : DT H2 x tc.data) {ta tb qn : Addr} (hta : Hk ta = none) (htb : upd Hk ta (.tup P) tb = none)
    (hqn : upd (upd (upd Hk ta (.tup P)) tb (.tup [.ref ta, x, .int ((us.length : Nat) : Int)])) fA (.lst (xs ++ [.ref tb])) qn = none) {L : List V} (eL : L = (fs.map fun f => V.ref f.q).reverse ++ [V.ref q1] ++ [V.ref qn]) :
    ∃ path' rem', TreesAt H fA pA aA t (⟨qn, .ref pu, inner tc, 0⟩ :: ⟨q1, .ref pp, all, k + 1⟩ :: fs) path' rem' (upd (upd (upd (upd (upd Hk ta (.tup P)) tb (.tup [.ref ta, x, .int ((us.length : Nat) : Int)])) fA (.lst (xs ++ [.ref tb]))) qn (.lst [.ref pu, .int 0])) aA (.lst L)) ∧ 2 * rem'.length + (fs.length + 2) < 2 * rem.length + (fs.length + 1) := by
  have Ar := I.around
  have Pt := I.pth
  have F1 : H2 q1 = some (.lst [.ref pp, .int (k : Nat)]) := (I.frs _ (List.mem_cons_self ..)).1
  have nd := I.nd
  simp only [List.map_cons, List.nodup_cons, List.mem_cons, not_or] at nd
  obtain ⟨⟨n1, n2, n3, n4⟩, ⟨n5, n6, n7⟩, ⟨n8, n9⟩, n10, n11⟩ := nd
  have m1 := Ne.symm n1
  have m3 := Ne.symm n3
  have m8 := Ne.symm n8
  have z1 : Hk qn = none := free_upd (free_upd (free_upd hqn))
  have z2 : H2 qn = none := r1 _ (sk.free z1)
  have ul : us.length = (inner tc).length := by rw [dus.length, datas_map, List.length_map]
  subst eP
  subst eL
  have w1 : fA ≠ qn := fun z => by rw [← z, hfx] at z2; cases z2
  have w2 : pA ≠ qn := fun z => by rw [← z, Pt] at z2; cases z2
  have w3 : qn ≠ aA := fun z => by rw [z, Ar] at z2; cases z2
  have w4 : q1 ≠ qn := fun z => by rw [← z, F1] at z2; cases z2
  have S2 : Same Hk (upd (upd Hk ta (.tup ((if fs = [] then path else path ++ [k]).map fun k => V.int (k : Nat)))) tb (.tup [.ref ta, x, .int ((us.length : Nat) : Int)])) := (same_new hta).trans (same_new htb)
  have f2 := S2 _ _ (sk _ _ (k1 _ _ n1 n3 hfx))
  have S4 : Tups Hk (upd (upd (upd (upd (upd Hk ta (.tup ((if fs = [] then path else path ++ [k]).map fun k => V.int (k : Nat)))) tb (.tup [.ref ta, x, .int ((us.length : Nat) : Int)])) fA (.lst (xs ++ [.ref tb]))) qn (.lst [.ref pu, .int 0])) aA (.lst ((fs.map fun f => V.ref f.q).reverse ++ [V.ref q1] ++ [V.ref qn]))) := fun a zs e => by
    have e2 := tups_lst (ys := xs ++ [.ref tb]) f2 _ _ (S2 _ _ e)
    have e3 := same_new (o := .lst [.ref pu, .int 0]) hqn _ _ e2
    have a4 := same_new (o := .lst [.ref pu, .int 0]) hqn _ _ ((upd_ne (o := .lst (xs ++ [.ref tb])) (Ne.symm n2)).trans (S2 _ _ (sk _ _ (k1 _ _ (Ne.symm n5) n8 Ar))))
    exact tups_lst (ys := (fs.map fun f => V.ref f.q).reverse ++ [V.ref q1] ++ [V.ref qn]) a4 _ _ e3
  have S3 : Tups H2 Hk := fun a zs e => sk _ _ (k1 _ _ (fun z => by rw [z, Pt] at e; cases e) (fun z => by rw [z, F1] at e; cases e) e)
  have tb2 : upd (upd Hk ta (.tup ((if fs = [] then path else path ++ [k]).map fun k => V.int (k : Nat)))) tb (.tup [.ref ta, x, .int ((us.length : Nat) : Int)]) tb = some (.tup [.ref ta, x, .int ((us.length : Nat) : Int)]) := upd_same
  have S5 : Tups (upd (upd Hk ta (.tup ((if fs = [] then path else path ++ [k]).map fun k => V.int (k : Nat)))) tb (.tup [.ref ta, x, .int ((us.length : Nat) : Int)])) (upd (upd (upd (upd (upd Hk ta (.tup ((if fs = [] then path else path ++ [k]).map fun k => V.int (k : Nat)))) tb (.tup [.ref ta, x, .int ((us.length : Nat) : Int)])) fA (.lst (xs ++ [.ref tb]))) qn (.lst [.ref pu, .int 0])) aA (.lst ((fs.map fun f => V.ref f.q).reverse ++ [V.ref q1] ++ [V.ref qn]))) := fun a zs e => by
    have e2 := tups_lst (ys := xs ++ [.ref tb]) f2 _ _ e
    have e3 := same_new (o := .lst [.ref pu, .int 0]) hqn _ _ e2
    have a4 := same_new (o := .lst [.ref pu, .int 0]) hqn _ _ ((upd_ne (o := .lst (xs ++ [.ref tb])) (Ne.symm n2)).trans (S2 _ _ (sk _ _ (k1 _ _ (Ne.symm n5) n8 Ar))))
    exact tups_lst (ys := (fs.map fun f => V.ref f.q).reverse ++ [V.ref q1] ++ [V.ref qn]) a4 _ _ e3
  refine trees_push (u := .ref pu) (row := .ref tb) I ec z2 hfx dx ed ?_ ?_ ?_ ?_ ?_ ?_ ?_ ?_
  · rw [List.map_cons, List.reverse_cons]
    exact upd_same
  · rw [upd_ne n5, upd_ne w2, upd_ne m1]
    exact S2 _ _ (sk _ _ p1)
  · rw [upd_ne m8, upd_ne w4, upd_ne m3]
    exact S2 _ _ (sk _ _ h1)
  · rw [upd_ne w3]
    exact upd_same
  · exact (DT.tup hpu dus).keep S4
  · rw [upd_ne n2, upd_ne w1]
    exact upd_same
  · have td : upd (upd Hk ta (.tup ((if fs = [] then path else path ++ [k]).map fun k => V.int (k : Nat)))) tb (.tup [.ref ta, x, .int ((us.length : Nat) : Int)]) ta = some (.tup ((if fs = [] then path else path ++ [k]).map fun k => V.int (k : Nat))) := same_new htb _ _ upd_same
    refine DT.keep S5 (.tup tb2 (.cons (.tup td (dts_ints _)) (.cons ((gx.keep S3).keep (Same.tups S2)) ?_)))
    rw [ul]
    exact .cons (.int _) .nil
  · intro b o b1 b2 b3 b4 hb
    rw [upd_ne b1, upd_ne (fun z => by rw [z, z2] at hb; cases hb), upd_ne b3]
    exact S2 _ _ (sk _ _ (k1 _ _ b2 b4 hb))
end

end Wood

set_option maxHeartbeats 8000000
namespace Wood
open PySem PySem.Spec PyProof.Rows L2 Gen
local macro_rules | `(tactic| walk_at "sz") => `(tactic| first | assumption | omega | (simp only [List.length_map, List.length_append, List.length_cons, List.length_nil, List.length_reverse] at *; omega))
local macro_rules | `(tactic| walk_at "hq") => `(tactic| first | assumption | exact upd_same | (refine same_new (by assumption) _ _ ?_; walk_at "hq") | (refine (show Same _ _ by assumption) _ _ ?_; walk_at "hq") | (refine (upd_ne (by assumption)).trans ?_; walk_at "hq"))
local macro_rules | `(tactic| walk_at "ty") => `(tactic| first | exact .base (.int _) | exact .base (.str _) | exact .base (.bl _) | exact .base .non | (apply TyX.base; apply TyOf.tup; walk_at "hq") | (apply TyX.base; apply TyOf.lst; walk_at "hq"))
local macro_rules | `(tactic| walk_at "dt") => `(tactic| first | assumption | exact DT.str _ | exact DT.int _ | exact DT.bl _ | exact DT.non | (refine Same.dt (same_new (by assumption)) ?_; walk_at "dt") | (refine Same.dt (by assumption) ?_; walk_at "dt"))
local macro_rules | `(tactic| walk_at "at") => `(tactic| first | with_reducible rfl | rfl | assumption | (show _ = some _; walk_at "hq") | (apply SqT.of; walk_at "hq") | (apply SqL.of; walk_at "hq") | (apply Or.inl; apply SqL.of; walk_at "hq") | (apply Or.inr; apply SqT.of; walk_at "hq") | (apply Or.inl; apply SqT.of; walk_at "hq") | (apply Or.inr; apply SqL.of; walk_at "hq") | exact atI_nat (j := 0) rfl | exact atI_nat (j := 1) rfl | exact atI_nat (j := 2) rfl | exact atI_nat (j := 3) rfl | exact .ty _ | exact .int _ | exact .str _ | exact .bl _ | exact ClsV.ty _ | walk_at "ty" | exact kit_ty (by decide +kernel) | exact True.intro | (show tyV _ _ _ _; exact .inl ⟨rfl, _, SqL.of (by walk_at "hq")⟩) | (show TruV _ _ _ _; first | exact .inl ⟨_, SqL.of (by walk_at "hq"), rfl⟩ | exact .inr (.inl ⟨_, SqT.of (by walk_at "hq"), rfl⟩)) | (show DT _ _ _; walk_at "dt") | (apply DT.dp; walk_at "dt") | (apply Exists.intro; apply SqT.of; walk_at "hq") | (apply Exists.intro; apply SqL.of; walk_at "hq") | (show _ ≤ sizeLine; decide) | omega | (refine small1000 ?_; walk_at "sz") | (refine le1000 ?_; walk_at "sz"))
local macro_rules | `(tactic| walk_at "ite") => `(tactic| refine iteB (fun c => ?_) (fun c => ?_))
local macro_rules | `(tactic| walk_at "st") => `(tactic| first | (apply Exists.intro) | (apply And.intro; focus (walk_at "at"; done)) | (refine iteT ?_) | (refine iteF ?_) | (refine iteY (by assumption) ?_) | (refine iteN (by assumption) ?_) | (refine iteY (decide_eq_true (by first | assumption | omega)) ?_) | (refine iteN (decide_eq_false (by first | assumption | omega)) ?_))
local macro_rules | `(tactic| walk_at "rd") => `(tactic| repeat (walk_at "st"))
abbrev S_trees_in : Stmt := top 15
theorem sc_trees_in : FnScope ["tree", "found", "path", "around", "inner", "parts", "done"] ["tree"] (defScope S_trees_in) := ⟨rfl, rfl, rfl, by decide +kernel, rfl, by decide +kernel, by decide +kernel⟩
theorem stk_le {D : Nat} {q : Addr} {pv : V} {all : List T} {k : Nat} {fs : List Fr} {path : List Nat} {rem : List (List Nat × T)} (h : Stk D (⟨q, pv, all, k⟩ :: fs) path rem) : k ≤ all.length := by
  cases h <;> first | assumption | simp
theorem stk_len {D : Nat} {fs : List Fr} {path : List Nat} {rem : List (List Nat × T)} (h : Stk D fs path rem) : fs.length ≤ path.length + 2 := by
  induction h with
  | nil => simp
  | bot0 => simp
  | bot1 => simp
  | up1 => simp
  | up _ _ _ ih => simp at ih ⊢; omega
structure TWn (H : Hp) (v : V) (fA pA aA : Addr) (t : T) (n : Nat) (σ : L2.St) (H2 : Hp) : Prop where
  ex : ∃ o4 o5 o6 fs path rem, n = 2 * rem.length + fs.length ∧ σ = [some v, some (.ref fA), some (.ref pA), some (.ref aA), o4, o5, o6] ∧ TreesAt H fA pA aA t fs path rem H2
structure TWl (H : Hp) (v : V) (fA pA aA : Addr) (t : T) (n : Nat) (σ : L2.St) (H2 : Hp) : Prop where
  lt : ∃ m, m < n ∧ TWn H v fA pA aA t m σ H2
theorem twl_push {H H3 : Hp} {v : V} {fA pA aA : Addr} {t : T} {n : Nat} {σ : L2.St} {fs : List Fr} {m : Nat} (e : ∃ o4 o5 o6, σ = [some v, some (.ref fA), some (.ref pA), some (.ref aA), o4, o5, o6])
    (h : ∃ path' rem', TreesAt H fA pA aA t fs path' rem' H3 ∧ 2 * rem'.length + m < n) (hm : m = fs.length := by rfl) : TWl H v fA pA aA t n σ H3 := by
  obtain ⟨o4, o5, o6, rfl⟩ := e
  obtain ⟨path', rem', J, lt⟩ := h
  subst hm
  exact ⟨_, lt, ⟨_, _, _, _, _, _, rfl, rfl, J⟩⟩
def spTrees : Sp := fun vs H Q _ => ∃ (v : V) (t : T), vs = [v] ∧ DT H v t.data ∧ Wf t ∧ size t ≤ 900 ∧ deep t ≤ 100 ∧ ∀ l xs H', Same H H' → H' l = some (.lst xs) → DTs H' xs ((pre [] t).map rowT) → Q (.ref l) H'
section
variable {P : Program} {w : World} {K : PySem.W.Frag} {mg : Str → Option Value} {base : Heap}
theorem ok_trees_in  {f : Addr} {fd : FuncData} (F : Fun K "trees_in" "trees_in" S_trees_in f fd) (m_len : mg "len" = none) {f_parts_in : Addr} {fd_parts_in : FuncData} (G_parts_in : FnOk P w K mg base CX0 5 f_parts_in fd_parts_in ["tree"] spParts) (g_parts_in : mg "parts_in" = some (.ref f_parts_in)) (k_parts_in : PySem.W.keepIn K (.ref f_parts_in) = true) (b_parts_in : Binds K fd_parts_in ["tree"] []) {t_MOST_PLACES : Tok} (m_MOST_PLACES : mg "MOST_PLACES" = some (.int (200) t_MOST_PLACES)) {t_MOST_TREES : Tok} (m_MOST_TREES : mg "MOST_TREES" = some (.int (3000) t_MOST_TREES)) (m_tuple : mg "tuple" = none)  : FnOk P w K mg base CX0 6 f fd ["tree"] spTrees := by
  refine F.ok sc_trees_in (fun vs H Q E h => ?_) (fun cdv A outer s H vs Q E hr h => ?_)
  · obtain ⟨x, _, rfl, _⟩ := h; rfl
  · obtain ⟨v, t, rfl, hv, ok, sz, dp, q⟩ := h
    refine ⟨_, pss_cons (ps_set (i := 1) sc_trees_in.nd rfl (.inl rfl) (pe_lst pa_nil))
      (pss_cons (ps_set (i := 2) sc_trees_in.nd rfl (.inl rfl) (pe_lst pa_nil))
      (pss_cons (ps_set (i := 3) sc_trees_in.nd rfl (.inl rfl) (pe_lst (pa_cons (pe_lst (pa_cons (pe_tup (pa_cons (pv 0) pa_nil)) (pa_cons (pe_int) pa_nil))) pa_nil)))
      (pss_cons (ps_while PassesOwn.never (pt_truth (pv 3) (by intro _; rfl))
        (pss_cons (ps_asg (pe_ix (r := rIxL K) ix_list (pv 3) (pe_un un_neg pe_int) (fun _ _ => rfl)) (pg_unl (by rfl) (pgs_cons (pg_name (i := 5) sc_trees_in.nd rfl (.inl rfl)) (pgs_cons (pg_name (i := 6) sc_trees_in.nd rfl (.inl rfl)) pgs_nil))))
        (pss_cons (ps_if (pt_cmpR op_eq (pv 6) (pe_callB (r := rLenQ K) (call_len_seq) (by rfl) m_len PySem.boot_len (pa_cons (pv 5) pa_nil)) (nomark _))
          (pss_cons (ps_expr (pe_bm0K (K := K) rfl PySem.F.plainAttrs_list PySem.F.slot_list_pop PySem.F.type_list_pop mt_pop (pv 3)))
          (pss_cons (ps_if (pt_truth (pv 2) (by intro _; rfl))
            (pss_one (ps_expr (pe_bm0K (K := K) rfl PySem.F.plainAttrs_list PySem.F.slot_list_pop PySem.F.type_list_pop mt_pop (pv 2))))
            (pss_nil))
          (pss_one (ps_continue))))
          (pss_nil))
        (pss_cons (ps_augS (pe_ix (r := rIxL K) ix_list (pv 3) (pe_un un_neg pe_int) (fun _ _ => rfl)) (pe_int) get_listN (pe_int) ip_add set_list)
        (pss_cons (ps_if (pt_cmpR op_gt (pe_callB (r := rLenQ K) (call_len_seq) (by rfl) m_len PySem.boot_len (pa_cons (pv 3) pa_nil)) (pe_int) (nomark _))
          (pss_one (ps_expr (pe_bmK (K := K) rfl PySem.F.plainAttrs_list PySem.F.slot_list_append PySem.F.type_list_append mt_append (pv 2) (pa_cons (pv 6) pa_nil))))
          (pss_nil))
        (pss_cons (ps_set (i := 4) sc_trees_in.nd rfl (.inl rfl) (pe_call G_parts_in (hr.mono (by decide)) (by rfl) g_parts_in k_parts_in b_parts_in .nil pass0 (pa_cons (pe_ix (r := rIxT K) ix_tup (pv 5) (pv 6) (fun _ _ => rfl)) pa_nil)))
        (pss_cons (ps_if (PW.pt (pw_or (pt_cmpR op_isN (pv 4) (pe_non) (nomark _)) (pw_or (pt_cmpR op_gt (pe_callB (r := rLenQ K) (call_len_seq) (by rfl) m_len PySem.boot_len (pa_cons (pv 2) pa_nil)) (pe_glob (v := .int (200)) rfl m_MOST_PLACES ⟨_, rfl⟩) (nomark _)) (pw_or1 (pt_cmpR op_eq (pe_callB (r := rLenQ K) (call_len_seq) (by rfl) m_len PySem.boot_len (pa_cons (pv 1) pa_nil)) (pe_glob (v := .int (3000)) rfl m_MOST_TREES ⟨_, rfl⟩) (nomark _))))))
          (pss_one (ps_never))
          (pss_nil))
        (pss_cons (ps_expr (pe_bmK (K := K) rfl PySem.F.plainAttrs_list PySem.F.slot_list_append PySem.F.type_list_append mt_append (pv 1) (pa_cons (pe_tup (pa_cons (pe_callTy (r := rTupOf K) (call_tuple_of) (by rfl) m_tuple (by decide +kernel) (pa_cons (pv 2) pa_nil)) (pa_cons (pe_ix (r := rIxT K) ix_tup (pv 5) (pv 6) (fun _ _ => rfl)) (pa_cons (pe_callB (r := rLenQ K) (call_len_seq) (by rfl) m_len PySem.boot_len (pa_cons (pv 4) pa_nil)) pa_nil)))) pa_nil)))
        (pss_one (ps_expr (pe_bmK (K := K) rfl PySem.F.plainAttrs_list PySem.F.slot_list_append PySem.F.type_list_append mt_append (pv 3) (pa_cons (pe_lst (pa_cons (pv 4) (pa_cons (pe_int) pa_nil))) pa_nil))))))))))))
      (pss_one (ps_ret (pv 1)))))), ?_⟩
    walk_at "rd"
    intro fA hf
    walk_at "rd"
    intro pA hp
    walk_at "rd"
    intro tA ht
    walk_at "rd"
    intro q0 hq
    walk_at "rd"
    intro aA ha
    have S1 : Same H (upd H fA (.lst [])) := same_new hf
    have S2 : Same H (upd (upd H fA (.lst [])) pA (.lst [])) := S1.trans (same_new hp)
    have S3 : Same H (upd (upd (upd H fA (.lst [])) pA (.lst [])) tA (.tup [v])) := S2.trans (same_new ht)
    have S4 : Same H (upd (upd (upd (upd H fA (.lst [])) pA (.lst [])) tA (.tup [v])) q0 (.lst [.ref tA, .int 0])) := S3.trans (same_new hq)
    have I0 := trees0 (t := t) hv ok hf hp ht hq ha
    refine ⟨TWn H v fA pA aA t, ⟨_, none, none, none, _, _, _, rfl, rfl, I0⟩, ?_⟩
    rintro n σ H2 ⟨o4, o5, o6, fs, path, rem, rfl, rfl, I⟩
    cases fs with
    | nil =>
      obtain ⟨s2, _, _, st, Ar, _, _, xs, done, hfx, dx, ed⟩ := I
      walk_at "rd"
      cases st
      rw [List.append_nil] at ed
      exact q _ _ _ s2 hfx (by rw [← ed]; exact dx)
    | cons f fs =>
      obtain ⟨q1, pv, all, k⟩ := f
      have Ar : H2 aA = some (.lst ((fs.map fun f => V.ref f.q).reverse ++ [V.ref q1])) := by have z := I.around; rw [List.map_cons, List.reverse_cons] at z; exact z
      have ne : (!((fs.map fun f => V.ref f.q).reverse ++ [V.ref q1]).isEmpty) = true := by simp
      have last : atI ((fs.map fun f => V.ref f.q).reverse ++ [V.ref q1]) (-1) = some (.ref q1) := atI_last _ _
      obtain ⟨F1, F2, F3⟩ : H2 q1 = some (.lst [pv, .int (k : Nat)]) ∧ DT H2 pv (.tuple (datas all)) ∧ Wfs all := I.frs _ (List.mem_cons_self ..)
      obtain ⟨pp, ps, rfl, hpp, dps⟩ := F2.tup_inv
      have Pt := I.pth
      have lps : ps.length = all.length := by rw [dps.length, datas_map, List.length_map]
      refine ⟨_, rfl, _, .inl ⟨_, SqL.of Ar, rfl⟩, ?_⟩
      rw [ne]
      refine iteT ⟨TWl H v fA pA aA t (2 * rem.length + (fs.length + 1)), fun _ _ h => h.lt, ?_⟩
      walk_at "rd"
      have nd := I.nd
      simp only [List.map_cons, List.nodup_cons, List.mem_cons, not_or] at nd
      obtain ⟨⟨n1, n2, n3, n4⟩, ⟨n5, n6, n7⟩, ⟨n8, n9⟩, n10, n11⟩ := nd
      have m1 := Ne.symm n1
      have m2 := Ne.symm n2
      have m3 := Ne.symm n3
      have m5 := Ne.symm n5
      have m6 := Ne.symm n6
      have m8 := Ne.symm n8
      refine iteB (fun c => ?_) (fun c => ?_)
      · have c : k = all.length := by have z := V.int.inj (dT c); omega
        have last2 : ((fs.map fun f => V.ref f.q).reverse ++ [V.ref q1])[((fs.map fun f => V.ref f.q).reverse ++ [V.ref q1]).length - 1]? = some (.ref q1) := by simp
        walk_at "rd"
        rcases List.eq_nil_or_concat path with rfl | ⟨p', j, pe⟩
        · walk_at "rd"
          refine TWl.mk ⟨_, ?_, ⟨_, _, _, _, _, _, rfl, rfl, trees_pop I c ?_ ?_ ?_⟩⟩
          · simp
          · rw [List.dropLast_concat]; exact upd_same
          · exact (upd_ne n5).trans Pt
          · intro b o b1 b2 hb
            walk_at "hq"
        · rw [List.concat_eq_append] at pe
          subst pe
          have lastp : ((p' ++ [j]).map fun k => V.int (k : Nat))[((p' ++ [j]).map fun k => V.int (k : Nat)).length - 1]? = some (.int (j : Nat)) := by simp
          have nep : (!((p' ++ [j]).map fun k => V.int (k : Nat)).isEmpty) = true := by simp
          walk_at "rd"
          refine TWl.mk ⟨_, ?_, ⟨_, _, _, _, _, _, rfl, rfl, trees_pop I c ?_ ?_ ?_⟩⟩
          · simp
          · rw [List.dropLast_concat]
            walk_at "hq"
          · rw [List.map_append, List.map_singleton, List.dropLast_concat, List.dropLast_concat, List.dropLast_concat]
            exact upd_same
          · intro b o b1 b2 hb
            walk_at "hq"
      · have kl := stk_le I.stk
        have c : k ≠ all.length := fun z => dF c (by rw [lps, z])
        obtain ⟨tc, ec⟩ : ∃ tc, all[k]? = some tc := ⟨all[k], List.getElem?_eq_getElem (by omega)⟩
        obtain ⟨x, ex⟩ : ∃ x, ps[k]? = some x := ⟨ps[k], List.getElem?_eq_getElem (by omega)⟩
        have gx : DT H2 x tc.data := by
          obtain ⟨d, ed, gd⟩ := dps.get ex
          rw [datas_map] at ed
          obtain ⟨tc', e2, rfl⟩ := map_get ed
          rw [ec] at e2
          obtain rfl := Option.some.inj e2
          exact gd
        have wc := wfs_get F3 ec
        obtain ⟨xs, done, hfx, dx, ed⟩ := I.found
        obtain ⟨rem1, er, pl, _⟩ := stk_push I.stk ec
        have xl : xs.length < 900 := by
          have z := congrArg List.length ed
          rw [pre_len, List.length_append, er, List.length_cons] at z
          rw [dx.length, List.length_map]
          omega
        have t1 : pp ≠ q1 := fun z => by rw [z, F1] at hpp; cases hpp
        have t2 : pp ≠ pA := fun z => by rw [z, Pt] at hpp; cases hpp
        have t3 : pp ≠ aA := fun z => by rw [z, Ar] at hpp; cases hpp
        have t4 : pp ≠ fA := fun z => by rw [z, hfx] at hpp; cases hpp
        have pc : atI ps ((k : Nat) : Int) = some x := atI_nat ex
        walk_at "rd"
        cases fs with
        | nil =>
          rw [if_pos rfl] at pl
          walk_at "rd"
          refine ⟨gx.keep (tups_lst F1), wc, fun u Hk sk du => ?_⟩
          obtain ⟨pu, us, rfl, hpu, dus⟩ := du.tup_inv
          have pl : path.length ≤ 100 := by omega
          have g1 : decide ((200 : Int) < (((path.map fun k => V.int (k : Nat)).length : Nat) : Int)) = false := decide_eq_false (by simp; omega)
          have g2 : decide (V.int ((xs.length : Nat) : Int) = V.int 3000) = false := decide_eq_false (fun z => by have := V.int.inj z; omega)
          walk_at "rd"
          refine .inl ⟨SqL.of (by walk_at "hq"), fun ta hta => ?_⟩
          walk_at "rd"
          intro tb htb
          walk_at "rd"
          intro qn hqn
          walk_at "rd"
          exact twl_push ⟨_, _, _, rfl⟩ (push_end I ec hfx dx ed (H1 := upd H2 q1 (.lst [.ref pp, .int ((k + 1 : Nat) : Int)])) ((upd_ne n6).trans Pt) (fun b o _ hb e => (upd_ne hb).trans e) upd_same (fun q z => free_upd z) rfl sk hpu dus gx hta htb hqn rfl)
        | cons f2 fs =>
          rw [if_neg (by simp), List.length_append, List.length_singleton] at pl
          have fl := stk_len I.stk
          simp only [List.length_cons] at fl
          have gt : decide ((1 : Int) < (((((f2 :: fs).map fun f => V.ref f.q).reverse ++ [V.ref q1]).length : Nat) : Int)) = true := decide_eq_true (by simp; omega)
          walk_at "rd"
          refine ⟨gx.keep (fun a zs e => tups_lst (p := pA) (by walk_at "hq") a zs (tups_lst F1 a zs e)), wc, fun u Hk sk du => ?_⟩
          obtain ⟨pu, us, rfl, hpu, dus⟩ := du.tup_inv
          have pl : path.length + 1 ≤ 100 := by omega
          have g1 : decide ((200 : Int) < ((((path.map fun k => V.int (k : Nat)) ++ [V.int (k : Nat)]).length : Nat) : Int)) = false := decide_eq_false (by simp; omega)
          have g2 : decide (V.int ((xs.length : Nat) : Int) = V.int 3000) = false := decide_eq_false (fun z => by have := V.int.inj z; omega)
          walk_at "rd"
          refine .inl ⟨SqL.of (by walk_at "hq"), fun ta hta => ?_⟩
          walk_at "rd"
          intro tb htb
          walk_at "rd"
          intro qn hqn
          walk_at "rd"
          exact twl_push ⟨_, _, _, rfl⟩ (push_end I ec hfx dx ed (H1 := upd (upd H2 q1 (.lst [.ref pp, .int ((k + 1 : Nat) : Int)])) pA (.lst ((path.map fun k => V.int (k : Nat)) ++ [V.int (k : Nat)]))) upd_same (fun b o hb hb2 e => (upd_ne hb).trans ((upd_ne hb2).trans e)) ((upd_ne m6).trans upd_same) (fun q z => free_upd (free_upd z)) (by rw [if_neg (by simp)]; simp) sk hpu dus gx hta htb hqn rfl)

end

end Wood

set_option maxHeartbeats 8000000
namespace Wood
open PySem PySem.Spec PyProof.Rows L2 Gen
local macro_rules | `(tactic| walk_at "sz") => `(tactic| first | assumption | omega | (simp only [List.length_map, List.length_append, List.length_cons, List.length_nil, List.length_reverse] at *; omega))
local macro_rules | `(tactic| walk_at "hq") => `(tactic| first | assumption | exact upd_same | (refine same_new (by assumption) _ _ ?_; walk_at "hq") | (refine (show Same _ _ by assumption) _ _ ?_; walk_at "hq") | (refine (upd_ne (by assumption)).trans ?_; walk_at "hq"))
local macro_rules | `(tactic| walk_at "ty") => `(tactic| first | exact .base (.int _) | exact .base (.str _) | exact .base (.bl _) | exact .base .non | (apply TyX.base; apply TyOf.tup; walk_at "hq") | (apply TyX.base; apply TyOf.lst; walk_at "hq"))
local macro_rules | `(tactic| walk_at "dt") => `(tactic| first | assumption | exact DT.str _ | exact DT.int _ | exact DT.bl _ | exact DT.non | (refine Same.dt (same_new (by assumption)) ?_; walk_at "dt") | (refine Same.dt (by assumption) ?_; walk_at "dt"))
local macro_rules | `(tactic| walk_at "at") => `(tactic| first | with_reducible rfl | rfl | assumption | (show _ = some _; walk_at "hq") | (apply SqT.of; walk_at "hq") | (apply SqL.of; walk_at "hq") | (apply Or.inl; apply SqL.of; walk_at "hq") | (apply Or.inr; apply SqT.of; walk_at "hq") | (apply Or.inl; apply SqT.of; walk_at "hq") | (apply Or.inr; apply SqL.of; walk_at "hq") | exact atI_nat (j := 0) rfl | exact atI_nat (j := 1) rfl | exact atI_nat (j := 2) rfl | exact atI_nat (j := 3) rfl | exact .ty _ | exact .int _ | exact .str _ | exact .bl _ | exact ClsV.ty _ | walk_at "ty" | exact kit_ty (by decide +kernel) | exact True.intro | (show tyV _ _ _ _; exact .inl ⟨rfl, _, SqL.of (by walk_at "hq")⟩) | (show TruV _ _ _ _; first | exact .inl ⟨_, SqL.of (by walk_at "hq"), rfl⟩ | exact .inr (.inl ⟨_, SqT.of (by walk_at "hq"), rfl⟩)) | (show DT _ _ _; walk_at "dt") | (apply DT.dp; walk_at "dt") | (apply Exists.intro; apply SqT.of; walk_at "hq") | (apply Exists.intro; apply SqL.of; walk_at "hq") | (show _ ≤ sizeLine; decide) | omega | (refine small1000 ?_; walk_at "sz") | (refine le1000 ?_; walk_at "sz"))
local macro_rules | `(tactic| walk_at "ite") => `(tactic| refine iteB (fun c => ?_) (fun c => ?_))
local macro_rules | `(tactic| walk_at "st") => `(tactic| first | (apply Exists.intro) | (apply And.intro; focus (walk_at "at"; done)) | (refine iteT ?_) | (refine iteF ?_) | (refine iteY (by assumption) ?_) | (refine iteN (by assumption) ?_) | (refine iteY (decide_eq_true (by first | assumption | omega)) ?_) | (refine iteN (decide_eq_false (by first | assumption | omega)) ?_))
local macro_rules | `(tactic| walk_at "rd") => `(tactic| repeat (walk_at "st"))
/-! the fold over the rows -/
def nOf (r : List Nat × T) : T × Nat := (r.2, (inner r.2).length)
theorem size_inner {t c : T} (h : c ∈ inner t) : size c < size t := by
  rw [size_eq t]
  have : ∀ {ts : List T}, c ∈ ts → size c ≤ sizes ts := by
    intro ts m
    induction ts with
    | nil => cases m
    | cons x xs ih =>
      rw [sizes]
      rcases List.mem_cons.mp m with rfl | m
      · omega
      · have := ih m
        omega
  have := this h
  omega
section
variable {R : Type} {J : T → List R → R} {F : T → R}
theorem foldL_step (ts : List T) (ih : ∀ c ∈ ts, ∀ p rest, foldR J ((pre p c).map nOf ++ rest) = F c :: foldR J rest) : ∀ p k rest, foldR J ((preL p k ts).map nOf ++ rest) = ts.map F ++ foldR J rest := by
  induction ts with
  | nil => intro p k rest; simp [preL]
  | cons t ts ih2 =>
    intro p k rest
    rw [preL, List.map_append, List.append_assoc, ih t (List.mem_cons_self ..), ih2 (fun c m => ih c (List.mem_cons_of_mem _ m))]
    rfl
theorem fold_pre (hF : ∀ t, F t = J t ((inner t).map F)) : ∀ (m : Nat) (t : T), size t ≤ m → ∀ p rest, foldR J ((pre p t).map nOf ++ rest) = F t :: foldR J rest
  | 0, t, h => by rw [size_eq] at h; omega
  | m + 1, t, h => fun p rest => by
    rw [pre_eq, List.map_cons, List.cons_append, show nOf (p, t) = (t, (inner t).length) from rfl, foldR]
    rw [foldL_step (inner t) (fun c mc p rest => fold_pre hF m c (by have := size_inner mc; omega) p rest)]
    rw [List.take_append_of_le_length (by simp), List.take_of_length_le (by simp), ← hF, List.drop_append_of_le_length (by simp), List.drop_of_length_le (by simp)]
    rfl
theorem okL_step {Fit : T → List R → Prop} (hF : ∀ t, F t = J t ((inner t).map F)) (ts : List T) (ih : ∀ c ∈ ts, ∀ p rest, FoldOK J Fit rest → FoldOK J Fit ((pre p c).map nOf ++ rest)) : ∀ p k rest, FoldOK J Fit rest → FoldOK J Fit ((preL p k ts).map nOf ++ rest) := by
  induction ts with
  | nil => intro p k rest h; simpa [preL] using h
  | cons t ts ih2 =>
    intro p k rest h
    rw [preL, List.map_append, List.append_assoc]
    exact ih t (List.mem_cons_self ..) _ _ (ih2 (fun c m => ih c (List.mem_cons_of_mem _ m)) _ _ _ h)
theorem ok_pre {Fit : T → List R → Prop} (hF : ∀ t, F t = J t ((inner t).map F)) (fit : ∀ t, Fit t ((inner t).map F)) : ∀ (m : Nat) (t : T), size t ≤ m → ∀ p rest, FoldOK J Fit rest → FoldOK J Fit ((pre p t).map nOf ++ rest)
  | 0, t, h => by rw [size_eq] at h; omega
  | m + 1, t, h => fun p rest hr => by
    rw [pre_eq, List.map_cons, List.cons_append, show nOf (p, t) = (t, (inner t).length) from rfl, FoldOK]
    have e := foldL_step (inner t) (fun c mc p rest => fold_pre hF m c (by have := size_inner mc; omega) p rest) p 0 rest
    rw [e]
    refine ⟨by simp, ?_, okL_step hF (inner t) (fun c mc p rest => ok_pre hF fit m c (by have := size_inner mc; omega) p rest) _ _ _ hr⟩
    rw [List.take_append_of_le_length (by simp), List.take_of_length_le (by simp)]
    exact fit t
theorem fold_whole (hF : ∀ t, F t = J t ((inner t).map F)) (t : T) : foldR J ((pre [] t).map nOf) = [F t] := by
  have := fold_pre hF (size t) t (Nat.le_refl _) [] []
  simpa [foldR] using this
theorem ok_whole {Fit : T → List R → Prop} (hF : ∀ t, F t = J t ((inner t).map F)) (fit : ∀ t, Fit t ((inner t).map F)) (t : T) : FoldOK J Fit ((pre [] t).map nOf) := by
  have := ok_pre (Fit := Fit) hF fit (size t) t (Nat.le_refl _) [] [] True.intro
  simpa using this
end
theorem lessL_eq : ∀ ts : List T, lessL ts = (ts.map less).filterMap id
  | [] => by simp [lessL]
  | t :: ts => by
    rw [lessL, List.map_cons, lessL_eq ts]
    cases less t <;> simp
theorem less_eq (t : T) : less t = lessJ t ((inner t).map less) := by
  cases t with
  | set ss => simp [less, lessJ]
  | ring => simp [less, lessJ]
  | any ps => simp [less, lessJ, lessL_eq, inner]
  | both ps => simp [less, lessJ, lessL_eq, inner]
  | but a b => simp only [less, inner, List.map]; cases less a <;> cases less b <;> simp [lessJ]
  | opn k n r t => simp only [less, inner, List.map]; cases less t <;> simp [lessJ]
theorem fits_inner (t : T) : Fits2 t ((inner t).map less) := by cases t <;> simp [Fits2, inner]
theorem row_get {H : Hp} {xs : List V} {rs : List (List Nat × T)} {i : Nat} {x : V} (h : DTs H xs (rs.map rowT)) (e : xs[i]? = some x) : ∃ r, rs[i]? = some r ∧ DT H x (rowT r) := by
  obtain ⟨d, ed, gd⟩ := h.get e
  obtain ⟨r, er, rfl⟩ := map_get ed
  exact ⟨r, er, gd⟩
theorem row_take {rs : List (List Nat × T)} {i : Nat} {r : List Nat × T} (e : rs[i]? = some r) : ((rs.map nOf).map rowD).take (i + 1) = ((rs.map nOf).map rowD).take i ++ [rowD (nOf r)] := take_get (by simp [e])
/-- a list that is being written -/
structure AccAt (H : Hp) (D : Addr) (ds : List PyData) (H2 : Hp) : Prop where
  same : Same H H2
  acc : ∃ ys, H2 D = some (.lst ys) ∧ DTs H2 ys ds
theorem acc0 {H : Hp} {D : Addr} (h : H D = none) : AccAt H D [] (upd H D (.lst [])) := ⟨same_new h, [], upd_same, .nil⟩
theorem acc_push {H H2 H3 : Hp} {D : Addr} {ds : List PyData} {d : PyData} {ys : List V} {x : V} (h : AccAt H D ds H2) (hD : H D = none) (s : Same H2 H3) (e : H3 D = some (.lst ys)) (g : DT H3 x d) : AccAt H D (ds ++ [d]) (upd H3 D (.lst (ys ++ [x]))) := by
  obtain ⟨s2, zs, hz, dz⟩ := h
  have e2 := s _ _ hz
  rw [e] at e2
  obtain rfl : ys = zs := by injection e2 with e2; injection e2
  refine ⟨fun b o z => ?_, _, upd_same, ((Same.dts s dz).keep (tups_lst e)).append (.cons (g.keep (tups_lst e)) .nil)⟩
  rw [upd_ne (ne_of_none z hD)]
  exact s _ _ (s2 _ _ z)

abbrev S_pruned : Stmt := top 23
theorem sc_pruned : FnScope ["tree", "_", "one", "many"] ["tree"] (defScope S_pruned) := ⟨rfl, rfl, rfl, by decide +kernel, rfl, by decide +kernel, by decide +kernel⟩
def spPruned : Sp := fun vs H Q _ => ∃ (v : V) (t : T), vs = [v] ∧ DT H v t.data ∧ Wf t ∧ size t ≤ 900 ∧ deep t ≤ 100 ∧ ∀ u H', Same H H' → DT H' u (oD (less t)) → Q u H'
section
variable {P : Program} {w : World} {K : PySem.W.Frag} {mg : Str → Option Value} {base : Heap}
theorem ok_pruned {f_without_nobody : Addr} {f : Addr} {fd : FuncData} (F : Fun K "pruned" "pruned" S_pruned f fd) {f_folded : Addr} {fd_folded : FuncData} (G_folded : FnOk P w K mg base CX0 3 f_folded fd_folded ["rows", "join"] (spFoldW f_without_nobody)) (g_folded : mg "folded" = some (.ref f_folded)) (k_folded : PySem.W.keepIn K (.ref f_folded) = true) (b_folded : Binds K fd_folded ["rows", "join"] []) {f_trees_in : Addr} {fd_trees_in : FuncData} (G_trees_in : FnOk P w K mg base CX0 6 f_trees_in fd_trees_in ["tree"] spTrees) (g_trees_in : mg "trees_in" = some (.ref f_trees_in)) (k_trees_in : PySem.W.keepIn K (.ref f_trees_in) = true) (b_trees_in : Binds K fd_trees_in ["tree"] []) (wn : mg "without_nobody" = some (.ref f_without_nobody)) : FnOk P w K mg base CX0 7 f fd ["tree"] spPruned := by
  refine F.ok sc_pruned (fun vs H Q E h => ?_) (fun cdv A outer s H vs Q E hr h => ?_)
  · obtain ⟨x, _, rfl, _⟩ := h; rfl
  · obtain ⟨v, t, rfl, hv, ok, sz, dp, q⟩ := h
    refine ⟨_, pss_one (ps_ret (pe_call G_folded (hr.mono (by decide)) (by rfl) g_folded k_folded b_folded .nil pass0 (pa_cons (pe_lc (own := [("_", 1), ("one", 2), ("many", 3)]) (g := (gTup K 3 (gCons (gName 1) (gCons (gName 2) (gCons (gName 3) gNil))))) (tt := tYes) (by rfl) sc_pruned.nd (pi_list (pe_call G_trees_in (hr.mono (by decide)) (by rfl) g_trees_in k_trees_in b_trees_in .nil pass0 (pa_cons (pv 0) pa_nil))) (blkOk_by (own := [("_", 1), ("one", 2), ("many", 3)]) (N := ["tree", "_", "one", "many"]) (sc := defScope S_pruned) (by decide +kernel)) (fun _ _ _ _ _ => pg_tup (by rfl) (pgs_cons (pg_name (i := 1) sc_pruned.nd rfl (.inl rfl)) (pgs_cons (pg_name (i := 2) sc_pruned.nd rfl (.inl rfl)) (pgs_cons (pg_name (i := 3) sc_pruned.nd rfl (.inl rfl)) pgs_nil)))) (fun _ _ _ _ _ => pts_nil) (fun _ _ _ _ _ => pe_tup (pa_cons (pv 2) (pa_cons (pv 3) pa_nil)))) (pa_cons (pe_glob (v := .ref f_without_nobody) (by rfl) wn rfl) pa_nil)))), ?_⟩
    walk_at "rd"
    intro l xs H1 s1 hl dx
    walk_at "rd"
    intro D hD
    refine lc_list (K := K) (a := l) (xs := xs) (fun i => AccAt H1 D ((((pre [] t).map nOf).map rowD).take i)) (acc0 hD) (fun i H2 _ h => SqL.of (h.same _ _ hl)) ?_ ?_
    · rintro i x H2 hi h
      obtain ⟨r, er, gx⟩ := row_get dx hi
      obtain ⟨p, a, b, c, rfl, hp, g1, g2, g3⟩ := (Same.dt h.same gx).three_inv
      obtain rfl := g3.int_inv
      obtain ⟨ys, hy, dy⟩ := h.acc
      have ly : ys.length < 1000 := by
        rw [dy.length, List.length_take, List.length_map, List.length_map, pre_len]
        omega
      walk_at "rd"
      intro p2 hp2
      walk_at "rd"
      rw [row_take er]
      exact acc_push h hD (same_new hp2) (same_new hp2 _ _ hy) (DT.laid hp2 (.cons g2 (.cons (.int _) .nil)))
    · rintro H2 ⟨s2, ys, hy, dy⟩
      have lx : xs.length = (((pre [] t).map nOf).map rowD).length := by rw [dx.length]; simp
      rw [lx, List.take_length] at dy
      show spFoldW f_without_nobody [.ref D, .ref f_without_nobody] H2 _ E0
      refine ⟨_, _, (pre [] t).map nOf, less t, rfl, hy, dy, ok_whole less_eq fits_inner t, by rw [List.length_map, pre_len]; exact sz, fold_whole less_eq t, fun u H3 s3 du => ?_⟩
      exact q _ _ (s1.trans (s2.trans s3)) du
end

end Wood

set_option maxHeartbeats 8000000
namespace Wood
open PySem PySem.Spec PyProof.Rows L2 Gen
local macro_rules | `(tactic| walk_at "sz") => `(tactic| first | assumption | omega | (simp only [List.length_map, List.length_append, List.length_cons, List.length_nil, List.length_reverse] at *; omega))
local macro_rules | `(tactic| walk_at "hq") => `(tactic| first | assumption | exact upd_same | (refine same_new (by assumption) _ _ ?_; walk_at "hq") | (refine (show Same _ _ by assumption) _ _ ?_; walk_at "hq") | (refine (upd_ne (by assumption)).trans ?_; walk_at "hq"))
local macro_rules | `(tactic| walk_at "ty") => `(tactic| first | exact .base (.int _) | exact .base (.str _) | exact .base (.bl _) | exact .base .non | (apply TyX.base; apply TyOf.tup; walk_at "hq") | (apply TyX.base; apply TyOf.lst; walk_at "hq"))
local macro_rules | `(tactic| walk_at "dt") => `(tactic| first | assumption | exact DT.str _ | exact DT.int _ | exact DT.bl _ | exact DT.non | (refine Same.dt (same_new (by assumption)) ?_; walk_at "dt") | (refine Same.dt (by assumption) ?_; walk_at "dt"))
local macro_rules | `(tactic| walk_at "at") => `(tactic| first | with_reducible rfl | rfl | assumption | (show _ = some _; walk_at "hq") | (apply SqT.of; walk_at "hq") | (apply SqL.of; walk_at "hq") | (apply Or.inl; apply SqL.of; walk_at "hq") | (apply Or.inr; apply SqT.of; walk_at "hq") | (apply Or.inl; apply SqT.of; walk_at "hq") | (apply Or.inr; apply SqL.of; walk_at "hq") | exact atI_nat (j := 0) rfl | exact atI_nat (j := 1) rfl | exact atI_nat (j := 2) rfl | exact atI_nat (j := 3) rfl | exact .ty _ | exact .int _ | exact .str _ | exact .bl _ | exact ClsV.ty _ | walk_at "ty" | exact kit_ty (by decide +kernel) | exact True.intro | (show tyV _ _ _ _; exact .inl ⟨rfl, _, SqL.of (by walk_at "hq")⟩) | (show TruV _ _ _ _; first | exact .inl ⟨_, SqL.of (by walk_at "hq"), rfl⟩ | exact .inr (.inl ⟨_, SqT.of (by walk_at "hq"), rfl⟩)) | (show DT _ _ _; walk_at "dt") | (apply DT.dp; walk_at "dt") | (apply Exists.intro; apply SqT.of; walk_at "hq") | (apply Exists.intro; apply SqL.of; walk_at "hq") | (show _ ≤ sizeLine; decide) | omega | (refine small1000 ?_; walk_at "sz") | (refine le1000 ?_; walk_at "sz"))
local macro_rules | `(tactic| walk_at "ite") => `(tactic| refine iteB (fun c => ?_) (fun c => ?_))
local macro_rules | `(tactic| walk_at "st") => `(tactic| first | (apply Exists.intro) | (apply And.intro; focus (walk_at "at"; done)) | (refine iteT ?_) | (refine iteF ?_) | (refine iteY (by assumption) ?_) | (refine iteN (by assumption) ?_) | (refine iteY (decide_eq_true (by first | assumption | omega)) ?_) | (refine iteN (decide_eq_false (by first | assumption | omega)) ?_))
local macro_rules | `(tactic| walk_at "rd") => `(tactic| repeat (walk_at "st"))
/-- where a set names the user -/
def hit (k : Str) (n : Int) : T → Bool
  | .set ss => decide (Sb.one k n ∈ ss) || decide (Sb.all k ∈ ss)
  | _ => false
def pathD (p : List Nat) : PyData := .tuple (p.map fun k => .int (k : Nat))
def hits (k : Str) (n : Int) (rs : List (List Nat × T)) : List (List Nat) := (rs.filter fun r => hit k n r.2).map (·.1)
theorem hits_take {k : Str} {n : Int} {rs : List (List Nat × T)} {i : Nat} {r : List Nat × T} (e : rs[i]? = some r) : hits k n (rs.take (i + 1)) = if hit k n r.2 then hits k n (rs.take i) ++ [r.1] else hits k n (rs.take i) := by
  unfold hits
  rw [take_get e, List.filter_append, List.map_append]
  cases h : hit k n r.2 <;> simp [h]
mutual
theorem pre_wf : ∀ (t : T) (p : List Nat), Wf t → ∀ r ∈ pre p t, Wf r.2
  | .set ss, p, h => fun r m => by rw [pre_eq] at m; simp [inner, preL] at m; subst m; exact h
  | .ring k n r0, p, h => fun r m => by rw [pre_eq] at m; simp [inner, preL] at m; subst m; exact h
  | .any ps, p, h => fun r m => by
    rw [pre] at m
    rcases List.mem_cons.mp m with rfl | m
    · exact h
    · rw [Wf] at h
      exact preL_wf ps p 0 h r m
  | .both ps, p, h => fun r m => by
    rw [pre] at m
    rcases List.mem_cons.mp m with rfl | m
    · exact h
    · rw [Wf] at h
      exact preL_wf ps p 0 h.2 r m
  | .but a b, p, h => fun r m => by
    rw [pre] at m
    rcases List.mem_cons.mp m with rfl | m
    · exact h
    · rw [Wf] at h
      rcases List.mem_append.mp m with m | m
      · exact pre_wf a _ h.1 r m
      · rw [List.append_nil] at m
        exact pre_wf b _ h.2 r m
  | .opn k n r0 t, p, h => fun r m => by
    rw [pre] at m
    rcases List.mem_cons.mp m with rfl | m
    · exact h
    · rw [Wf] at h
      rw [List.append_nil] at m
      exact pre_wf t _ h.2.2.2 r m
theorem preL_wf : ∀ (ts : List T) (p : List Nat) (k : Nat), Wfs ts → ∀ r ∈ preL p k ts, Wf r.2
  | [], p, k, h => fun r m => by rw [preL] at m; cases m
  | t :: ts, p, k, h => fun r m => by
    rw [preL] at m
    rw [Wfs] at h
    rcases List.mem_append.mp m with m | m
    · exact pre_wf t _ h.1 r m
    · exact preL_wf ts _ _ h.2 r m
end

abbrev S_places : Stmt := top 22
theorem sc_places : FnScope ["tree", "user", "rows", "path", "one", "_"] ["tree", "user"] (defScope S_places) := ⟨rfl, rfl, rfl, by decide +kernel, rfl, by decide +kernel, by decide +kernel⟩
def spPlaces : Sp := fun vs H Q _ => ∃ (v u : V) (t : T) (k : Str) (n : Int), vs = [v, u] ∧ DT H v t.data ∧ Wf t ∧ size t ≤ 900 ∧ deep t ≤ 100 ∧ DT H u (obj k n) ∧ NmOK k ∧ 0 ≤ n ∧ UsOK k n ∧ ∀ l xs H', Same H H' → H l = none → H' l = some (.lst xs) → DTs H' xs ((hits k n (pre [] t)).map pathD) → Q (.ref l) H'
section
variable {P : Program} {w : World} {K : PySem.W.Frag} {mg : Str → Option Value} {base : Heap}
theorem ok_places  {f : Addr} {fd : FuncData} (F : Fun K "places" "places" S_places f fd) {f_trees_in : Addr} {fd_trees_in : FuncData} (G_trees_in : FnOk P w K mg base CX0 6 f_trees_in fd_trees_in ["tree"] spTrees) (g_trees_in : mg "trees_in" = some (.ref f_trees_in)) (k_trees_in : PySem.W.keepIn K (.ref f_trees_in) = true) (b_trees_in : Binds K fd_trees_in ["tree"] []) {f_require_named_pair : Addr} {fd_require_named_pair : FuncData} (G_require_named_pair : FnOk P w K mg base CX0 3 f_require_named_pair fd_require_named_pair ["user"] spReq) (g_require_named_pair : mg "require_named_pair" = some (.ref f_require_named_pair)) (k_require_named_pair : PySem.W.keepIn K (.ref f_require_named_pair) = true) (b_require_named_pair : Binds K fd_require_named_pair ["user"] []) {f_names_user : Addr} {fd_names_user : FuncData} (G_names_user : FnOk P w K mg base CX0 1 f_names_user fd_names_user ["subjects", "user"] spNames) (g_names_user : mg "names_user" = some (.ref f_names_user)) (k_names_user : PySem.W.keepIn K (.ref f_names_user) = true) (b_names_user : Binds K fd_names_user ["subjects", "user"] [])  : FnOk P w K mg base CX0 7 f fd ["tree", "user"] spPlaces := by
  refine F.ok sc_places (fun vs H Q E h => ?_) (fun cdv A outer s H vs Q E hr h => ?_)
  · obtain ⟨x, _, _, _, _, rfl, _⟩ := h; rfl
  · obtain ⟨v, u, t, k, n, rfl, hv, ok, sz, dp, hu, nk, hn, us, q⟩ := h
    refine ⟨_, pss_cons (ps_set (i := 2) sc_places.nd rfl (.inl rfl) (pe_call G_trees_in (hr.mono (by decide)) (by rfl) g_trees_in k_trees_in b_trees_in .nil pass0 (pa_cons (pv 0) pa_nil)))
      (pss_cons (ps_expr (pe_call G_require_named_pair (hr.mono (by decide)) (by rfl) g_require_named_pair k_require_named_pair b_require_named_pair .nil pass0 (pa_cons (pv 1) pa_nil)))
      (pss_one (ps_ret (pe_lc (own := [("path", 3), ("one", 4), ("_", 5)]) (g := (gTup K 3 (gCons (gName 3) (gCons (gName 4) (gCons (gName 5) gNil))))) (by rfl) sc_places.nd (pi_list (pv 2)) (blkOk_by (own := [("path", 3), ("one", 4), ("_", 5)]) (N := ["tree", "user", "rows", "path", "one", "_"]) (sc := defScope S_places) (by decide +kernel)) (fun _ _ _ _ _ => pg_tup (by rfl) (pgs_cons (pg_name (i := 3) sc_places.nd rfl (.inl rfl)) (pgs_cons (pg_name (i := 4) sc_places.nd rfl (.inl rfl)) (pgs_cons (pg_name (i := 5) sc_places.nd rfl (.inl rfl)) pgs_nil)))) (fun _ _ _ _ _ => pts_one (PW.pt (pw_and (pt_cmpR op_eq (pe_ix (r := rIxT K) ix_tup (pv 4) (pe_int) (fun _ _ => rfl)) (pe_str) (nomark _)) (pw_and1 (pt_val (pe_call G_names_user (hr.mono (by decide)) (by rfl) g_names_user k_names_user b_names_user .nil pass0 (pa_cons (pe_ix (r := rIxT K) ix_tup (pv 4) (pe_int) (fun _ _ => rfl)) (pa_cons (pv 1) pa_nil)))))))) (fun _ _ _ _ _ => pv 3))))), ?_⟩
    walk_at "rd"
    intro l xs H1 s1 hl dx
    have hu1 := Same.dt s1 hu
    walk_at "rd"
    intro D hD
    refine lc_list (K := K) (a := l) (xs := xs) (fun i => AccAt H1 D ((hits k n ((pre [] t).take i)).map pathD)) (acc0 hD) (fun i H2 _ h => SqL.of (h.same _ _ hl)) ?_ ?_
    · rintro i x H2 hi h
      obtain ⟨⟨rp, rt⟩, er, gx⟩ := row_get dx hi
      have wf : Wf rt := pre_wf t [] ok _ (List.mem_of_getElem? er)
      obtain ⟨p, a, b, c, rfl, hp, g1, g2, g3⟩ := (Same.dt h.same gx).three_inv
      have g2 : DT H2 b rt.data := g2
      obtain ⟨ys, hy, dy⟩ := h.acc
      have ly : ys.length < 1000 := by
        rw [dy.length, List.length_map]
        unfold hits
        rw [List.length_map]
        have := List.length_filter_le (fun r : List Nat × T => hit k n r.2) ((pre [] t).take i)
        rw [List.length_take, pre_len] at this
        omega
      cases rt with
      | set ss =>
        rw [T.data] at g2
        obtain ⟨p2, x1, x2, rfl, hp2, w1, w2⟩ := g2.two_inv
        obtain rfl := w1.str_inv
        have hu2 := Same.dt h.same hu1
        rw [Wf] at wf
        walk_at "rd"
        refine ⟨fun s m => (wf.1 s m).2, us, fun H3 s3 => ?_⟩
        walk_at "rd"
        rw [hits_take er]
        refine iteB (fun c => ?_) (fun c => ?_)
        · rw [show hit k n (T.set ss) = true from c, if_pos rfl, List.map_append, List.map_singleton]
          walk_at "rd"
          exact acc_push h hD s3 (s3 _ _ hy) (Same.dt s3 g1)
        · rw [show hit k n (T.set ss) = false from c, if_neg (by decide)]
          exact ⟨h.same.trans s3, ys, s3 _ _ hy, Same.dts s3 dy⟩
      | ring k0 n0 r0 =>
        rw [T.data] at g2
        obtain ⟨p2, x1, x2, x3, rfl, hp2, w1, w2, w3⟩ := DT.three_inv g2
        obtain rfl := w1.str_inv
        walk_at "rd"
        rw [hits_take er, if_neg (by simp [hit])]
        exact h
      | any ps =>
        rw [T.data] at g2
        obtain ⟨p2, x1, x2, rfl, hp2, w1, w2⟩ := DT.two_inv g2
        obtain rfl := w1.str_inv
        walk_at "rd"
        rw [hits_take er, if_neg (by simp [hit])]
        exact h
      | both ps =>
        rw [T.data] at g2
        obtain ⟨p2, x1, x2, rfl, hp2, w1, w2⟩ := DT.two_inv g2
        obtain rfl := w1.str_inv
        walk_at "rd"
        rw [hits_take er, if_neg (by simp [hit])]
        exact h
      | but ta tb =>
        rw [T.data] at g2
        obtain ⟨p2, x1, x2, x3, rfl, hp2, w1, w2, w3⟩ := DT.three_inv g2
        obtain rfl := w1.str_inv
        walk_at "rd"
        rw [hits_take er, if_neg (by simp [hit])]
        exact h
      | opn k0 n0 r0 t0 =>
        rw [T.data] at g2
        obtain ⟨p2, x1, x2, x3, x4, rfl, hp2, w1, w2, w3, w4⟩ := DT.four_inv g2
        obtain rfl := w1.str_inv
        walk_at "rd"
        rw [hits_take er, if_neg (by simp [hit])]
        exact h
    · rintro H2 ⟨s2, ys, hy, dy⟩
      have lx : xs.length = (pre [] t).length := by rw [dx.length]; simp
      rw [lx, List.take_length] at dy
      walk_at "rd"
      exact q _ _ _ (s1.trans s2) (s1.free hD) hy dy
end

end Wood

set_option maxHeartbeats 8000000
namespace Wood
open PySem PySem.Spec PyProof.Rows L2 Gen LamX NdefX
/-! a nested def handed to another def, which calls it -/
theorem cells_un {cl : List (Str × Addr)} {fr : List Str} {ws : List (Option V)} {fs : List Addr} {H H2 : Hp} {h h2 : Heap} (C : CellsAt cl fr ws h H) (u : Un fs [] H H2 h h2) : CellsAt cl fr ws h2 H2 := by
  have kp : ∀ {c : Addr} {v : Option Value}, H c = none → h.IsCell c v → h2.IsCell c v := fun {c v} n ⟨o, ho, hd⟩ => by
    obtain ⟨sl, q⟩ := u.any ho n (by simp)
    exact ⟨_, q, hd⟩
  refine ⟨C.len, fun y c e => ?_, C.inj, fun i y e => ?_⟩
  · obtain ⟨n, v, z⟩ := C.all y c e
    obtain ⟨o, ho, hd⟩ := id z
    exact ⟨u.free c o ho n (by simp), v, kp n z⟩
  · obtain ⟨c, hc, hv⟩ := C.has i y e
    refine ⟨c, hc, fun v ev => ?_⟩
    obtain ⟨w, r, z⟩ := hv v ev
    exact ⟨w, r, kp (C.all y c hc).1 z⟩
/-- the reading of a call of it, of two arguments -/
def tJoin (i : Nat) (F : NF) (f : Addr) (ws : List (Option V)) (sp : List (Option V) → Sp) (t : TA) : TE := fun σ H Q => σ[i]? = some (some (.ref f)) ∧ H f = some (FnO f F) ∧ t σ H fun vs H1 => H1 f = some (FnO f F) ∧ H1 F.c = some (CodeO F.c F.qual) ∧ sp ws vs H1 Q E0
section
variable {X : Cx} {pins : List (Addr × Obj)} {σ : L2.St} {H : Hp} {s : Shared}
theorem pe_join {Eg : XK} {Ng ps fr : List Str} {qg : Str} {sg : Scope} {g f : Addr} {cdg : Value} {F : NF} {ws : List (Option V)} {sp : List (Option V) → Sp} {k j i : Nat} {a : Str} {p1 p2 : Pos} {e : Expr} {es : List Expr} {t : TA}
    (C : CellsAt F.cl fr ws s.heap H) (Fn : NOk X.prog X.w X.K X.mg X.base CX0 k f F ps fr sp) (hr : Room j (X.A.deeper (envOfC qg sg s.heap.objs.size g cdg))) (hk : k ≤ j)
    (hN : Ng[i]? = some a) (hv : Vis sg a) (ha : PA (cxOf CX0 X.prog X.w X.K X.mg X.base Ng qg sg g cdg X.A X.stack s H Eg).nox (e :: es) t)
    (hd : (a == ("__debug__" : Str)) = false := by decide) (hcd : (a == ("__classdict__" : Str)) = false := by decide)
    (he : starEach (e :: es) (cxOf CX0 X.prog X.w X.K X.mg X.base Ng qg sg g cdg X.A X.stack s H Eg).nox.env = (false, eval e (cxOf CX0 X.prog X.w X.K X.mg X.base Ng qg sg g cdg X.A X.stack s H Eg).nox.env) :: starEach es (cxOf CX0 X.prog X.w X.K X.mg X.base Ng qg sg g cdg X.A X.stack s H Eg).nox.env := by rfl)
    (hpl : (backTo p2 (starEach es (cxOf CX0 X.prog X.w X.K X.mg X.base Ng qg sg g cdg X.A X.stack s H Eg).nox.env)).any (·.1) = false := by rfl) :
    PE (cxOf CX0 X.prog X.w X.K X.mg X.base Ng qg sg g cdg X.A X.stack s H Eg).nox (.Call (.Name a p1) (e :: es) [] p2) (tJoin i F f ws sp t) := by
  refine ⟨fun pinsZ sZ σZ HZ Q IZ h => ?_⟩
  obtain ⟨hs, hf, ht⟩ := h
  refine wpAny_Call_Name_kw (thn ((pe_var (pos := p1) (i := i) hN hv hd hcd).run pinsZ sZ σZ HZ (fun v H1 => v = .ref f ∧ H1 = HZ) IZ ⟨.ref f, hs, rfl, rfl⟩) fun u s1 ⟨v, H1, I1, r1, q1⟩ => ?_)
  obtain ⟨ev, eH⟩ := q1
  subst ev
  rw [eH] at I1
  obtain rfl : u = Value.ref f := r1
  refine PySem.W.callWith_F (first := []) (fnAt_of I1 hf) (thn (ha.run p2 pinsZ s1 σZ HZ _ I1 ht) fun us s2 ⟨vs, H2, I2, r, h1, h2, q⟩ => ⟨fnAt_of I2 h1, ?_⟩) he hpl
  show wpAny _ _ (call (.ref f) us) _ _ _
  have C2 : CellsAt F.cl fr ws s2.heap H2 := cells_un C (show Un (frs X.stack) [] H H2 s.heap s2.heap from I2.base)
  refine wpAny_call (codeAny_mono (Fn.run _ _ s2 H2 us vs ws Q E0 (hr.mono hk) I2.env0 h1 h2 C2 r q) fun r s' hq => ?_)
  cases r with
  | error e => exact (show False from hq).elim
  | ok fl =>
    cases fl with
    | ret u => exact I2.after hq
    | next => exact False.elim hq
    | brk => exact False.elim hq
    | cont => exact False.elim hq
end
/-- the reading of folded(rows, f), f made by mk -/
def tFold {R : Type} (J : T → List R → R) (Fit : T → List R → Prop) (enc : R → PyData) (mk : Addr → NF) (js : List Nat) (sp : Addr → Addr → List (Option V) → Sp) (t : TA) : TE := fun σ H Q => t σ H fun vs H1 => ∃ (a f c' : Addr) (xs : List V) (rows : List (T × Nat)) (r : R), vs = [.ref a, .ref f] ∧
  H1 f = some (FnO f (mk c')) ∧ H1 (mk c').c = some (CodeO (mk c').c (mk c').qual) ∧ H1 a = some (.lst xs) ∧ DTs H1 xs (rows.map rowD) ∧ FoldOK J Fit rows ∧ rows.length ≤ 900 ∧ foldR J rows = [r] ∧
  (∀ (H2 : Hp) (Q2 : V → Hp → Prop) (v : V) (D : Addr) (t : T) (zs : List V) (rs : List R), Same H1 H2 → DT H2 v t.data → H2 D = some (.lst zs) → DTs H2 zs (rs.map enc) → Fit t rs → rs.length ≤ 900 → (∀ u H3, Same H2 H3 → DT H3 u (enc (J t rs)) → Q2 u H3) → sp f c' (js.map (slotAt σ)) [v, .ref D] H2 Q2 E0) ∧
  ∀ u H', Same H1 H' → DT H' u (enc r) → Q u H'
section
variable {X : Cx}
theorem pe_folded {R : Type} {J : T → List R → R} {Fit : T → List R → Prop} {enc : R → PyData} {g : Addr} {fd : FuncData} {mk : Addr → NF} {cl : List (Str × Addr)} {ps fr : List Str} {js : List Nat} {sp : Addr → Addr → List (Option V) → Sp} {k : Nat} {e : Expr} {es : List Expr} {t : TA} {p pos : Pos}
    (F : Fun X.K "folded" "folded" S_folded g fd) (b : L2.Binds X.K fd ["rows", "join"] []) (hm : X.mg "folded" = some (.ref g)) (kp : PySem.W.keepIn X.K (.ref g) = true) (m_reversed : X.mg "reversed" = none) (m_range : X.mg "range" = none) (hg : Gl X "folded")
    (Fn : ∀ f c', NOk X.prog X.w X.K X.mg X.base CX0 k f (mk c') ps fr (sp f c')) (hcl : ∀ c', (mk c').cl = cl) (cp : X.Ok → Caps X cl fr js) (hr : Room (k + 1) X.A) (ha : PA X (e :: es) t)
    (he : starEach (e :: es) X.env = (false, eval e X.env) :: starEach es X.env := by rfl) (hpl : (backTo pos (starEach es X.env)).any (·.1) = false := by rfl) :
    PE X (.Call (.Name "folded" p) (e :: es) [] pos) (tFold J Fit enc mk js sp t) := by
  refine ⟨fun pins s0 σ H0 Q I0 h => ?_⟩
  refine wpAny_Call_Name_kw (ld_glob I0 hg hm ?_ (by decide))
  refine PySem.W.callWith_K (h₀ := X.base) I0.ok.mod.kin kp (thn (ha.run pos pins s0 σ H0 _ I0 h) fun us s ⟨vs, H, I, r, q⟩ => ⟨I.kIn, ?_⟩) he hpl
  obtain ⟨a, f, c', xs, rows, res, rfl, hf, hc, hxs, dx, ok, few, one, step, fin⟩ := q
  show wpAny _ _ (call (.ref g) us) _ _ _
  have C : CellsAt (mk c').cl fr (js.map (slotAt σ)) s.heap H := by
    rw [hcl c']
    exact cells_of I (cp I.ok)
  have rc : codeAny (model X.prog X.w) X.A (.call (.ref g) ⟨us, []⟩) (CR CX0 X.stack X.prog X.w H s Q E0) s := by
    obtain ⟨oc, od, kV, doc, pm, an, cdv, ct, osl, rfl, lk, hcd⟩ := F.ex
    have lu : us.length = 2 := r.length.symm
    refine run_ofS (N := ["rows", "join", "made", "tree", "many", "parts", "_"]) (ps := ["rows", "join"]) (us := us) (vs := [.ref a, .ref f]) lk hcd sc_folded hr I.env0 ?_ r rfl fun hr' => ?_
    · have z := b s us I.kIn (by simp [lu])
      rw [List.append_nil] at z
      exact z
    · obtain ⟨t', ht', hq'⟩ := fold_body (J := J) (Fit := Fit) (enc := enc) (E := E0) (Q := Q) (jv := .ref f) m_reversed m_range
        (fun p1 p2 p3 p4 => pe_join (X := X) (Eg := E0) (Ng := ["rows", "join", "made", "tree", "many", "parts", "_"]) (qg := "folded") (sg := defScope S_folded) (g := g) (cdg := cdv) (i := 1) (a := "join") C (Fn f c') hr' (Nat.le_refl _) rfl (.inl rfl) (pa_cons (pv 3) (pa_cons (pv 5) pa_nil)))
        (fun σ H2 Q2 v D t zs rs h1 h3 h5 s2 dv hz dz fit few q2 => ⟨h1, s2 _ _ hf, v, h3, .ref D, h5, s2 _ _ hf, s2 _ _ hc, step H2 Q2 v D t zs rs s2 dv hz dz fit few q2⟩)
        hxs dx ok few res one fin
      exact ⟨t', ht'.nox, hq'⟩
  refine wpAny_call (codeAny_mono rc fun r s2 hq => ?_)
  cases r with
  | error e => exact (show False from hq).elim
  | ok fl =>
    cases fl with
    | ret u => exact I.after hq
    | next => exact False.elim hq
    | brk => exact False.elim hq
    | cont => exact False.elim hq
end
end Wood

set_option maxHeartbeats 8000000
namespace Wood
open PySem PySem.Spec PyProof.Rows L2 Gen LamX NdefX
local macro_rules | `(tactic| walk_at "sz") => `(tactic| first | assumption | omega | (simp only [List.length_map, List.length_append, List.length_cons, List.length_nil, List.length_reverse] at *; omega))
local macro_rules | `(tactic| walk_at "hq") => `(tactic| first | assumption | exact upd_same | (refine same_new (by assumption) _ _ ?_; walk_at "hq") | (refine (show Same _ _ by assumption) _ _ ?_; walk_at "hq") | (refine (upd_ne (by assumption)).trans ?_; walk_at "hq"))
local macro_rules | `(tactic| walk_at "ty") => `(tactic| first | exact .base (.int _) | exact .base (.str _) | exact .base (.bl _) | exact .base .non | (apply TyX.base; apply TyOf.tup; walk_at "hq") | (apply TyX.base; apply TyOf.lst; walk_at "hq"))
local macro_rules | `(tactic| walk_at "dt") => `(tactic| first | assumption | exact DT.str _ | exact DT.int _ | exact DT.bl _ | exact DT.non | (refine Same.dt (same_new (by assumption)) ?_; walk_at "dt") | (refine Same.dt (by assumption) ?_; walk_at "dt"))
local macro_rules | `(tactic| walk_at "at") => `(tactic| first | with_reducible rfl | rfl | assumption | (show _ = some _; walk_at "hq") | (apply SqT.of; walk_at "hq") | (apply SqL.of; walk_at "hq") | (apply Or.inl; apply SqL.of; walk_at "hq") | (apply Or.inr; apply SqT.of; walk_at "hq") | (apply Or.inl; apply SqT.of; walk_at "hq") | (apply Or.inr; apply SqL.of; walk_at "hq") | exact atI_nat (j := 0) rfl | exact atI_nat (j := 1) rfl | exact atI_nat (j := 2) rfl | exact atI_nat (j := 3) rfl | exact .ty _ | exact .int _ | exact .str _ | exact .bl _ | exact ClsV.ty _ | walk_at "ty" | exact kit_ty (by decide +kernel) | exact True.intro | (show tyV _ _ _ _; exact .inl ⟨rfl, _, SqL.of (by walk_at "hq")⟩) | (show TruV _ _ _ _; first | exact .inl ⟨_, SqL.of (by walk_at "hq"), rfl⟩ | exact .inr (.inl ⟨_, SqT.of (by walk_at "hq"), rfl⟩)) | (show DT _ _ _; walk_at "dt") | (apply DT.dp; walk_at "dt") | (apply Exists.intro; apply SqT.of; walk_at "hq") | (apply Exists.intro; apply SqL.of; walk_at "hq") | (show _ ≤ sizeLine; decide) | omega | (refine small1000 ?_; walk_at "sz") | (refine le1000 ?_; walk_at "sz"))
local macro_rules | `(tactic| walk_at "ite") => `(tactic| refine iteB (fun c => ?_) (fun c => ?_))
local macro_rules | `(tactic| walk_at "st") => `(tactic| first | (apply Exists.intro) | (apply And.intro; focus (walk_at "at"; done)) | (refine iteT ?_) | (refine iteF ?_) | (refine iteY (by assumption) ?_) | (refine iteN (by assumption) ?_) | (refine iteY (decide_eq_true (by first | assumption | omega)) ?_) | (refine iteN (decide_eq_false (by first | assumption | omega)) ?_))
local macro_rules | `(tactic| walk_at "rd") => `(tactic| repeat (walk_at "st"))
def S_has_user : Stmt := (defBody (top 21)).getD 2 (.Pass ⟨0, 0, 0, 0⟩)
def LayT : T → Prop
  | .set ss => ∀ s ∈ ss, SbLay s
  | _ => True
def JB (k : Str) (n : Int) : T → List Bool → Bool
  | .set ss, _ => decide (Sb.one k n ∈ ss) || decide (Sb.all k ∈ ss)
  | .but _ _, [a, b] => a && !b
  | .but _ _, _ => false
  | .both _, bs => bs.all id
  | _, bs => bs.any id
def FitB (t : T) (rs : List Bool) : Prop := LayT t ∧ (∀ a b, t = .but a b → ∃ x y, rs = [x, y])
theorem anyIn_eq (k : Str) (n : Int) : ∀ ts : List T, anyIn k n ts = (ts.map (isIn k n)).any id
  | [] => by simp [anyIn]
  | t :: ts => by rw [anyIn, List.map_cons, List.any_cons, anyIn_eq k n ts]; rfl
theorem allIn_eq (k : Str) (n : Int) : ∀ ts : List T, allIn k n ts = (ts.map (isIn k n)).all id
  | [] => by simp [allIn]
  | t :: ts => by rw [allIn, List.map_cons, List.all_cons, allIn_eq k n ts]; rfl
theorem isIn_eq (k : Str) (n : Int) (t : T) : isIn k n t = JB k n t ((inner t).map (isIn k n)) := by
  cases t <;> simp [isIn, JB, inner, anyIn_eq, allIn_eq]
theorem wfs_mem : ∀ {ts : List T} {c : T}, Wfs ts → c ∈ ts → Wf c
  | _ :: _, c, h, m => by
    rw [Wfs] at h
    rcases List.mem_cons.mp m with rfl | m
    · exact h.1
    · exact wfs_mem h.2 m
theorem fitB_inner (k : Str) (n : Int) {t : T} (h : Wf t) : FitB t ((inner t).map (isIn k n)) := by
  refine ⟨?_, fun a b e => ?_⟩
  · cases t with
    | set ss => rw [Wf] at h; exact fun s m => (h.1 s m).2
    | _ => exact True.intro
  · subst e
    exact ⟨_, _, rfl⟩
section
variable {R : Type} {J : T → List R → R} {F : T → R}
theorem okL_stepW {Fit : T → List R → Prop} (ts : List T) (h : Wfs ts) (ih : ∀ c ∈ ts, Wf c → ∀ p rest, FoldOK J Fit rest → FoldOK J Fit ((pre p c).map nOf ++ rest)) : ∀ p k rest, FoldOK J Fit rest → FoldOK J Fit ((preL p k ts).map nOf ++ rest) := by
  induction ts with
  | nil => intro p k rest h; simpa [preL] using h
  | cons t ts ih2 =>
    intro p k rest hr
    rw [Wfs] at h
    rw [preL, List.map_append, List.append_assoc]
    exact ih t (List.mem_cons_self ..) h.1 _ _ (ih2 h.2 (fun c m => ih c (List.mem_cons_of_mem _ m)) _ _ _ hr)
theorem ok_preW {Fit : T → List R → Prop} (hF : ∀ t, F t = J t ((inner t).map F)) (fit : ∀ t, Wf t → Fit t ((inner t).map F)) : ∀ (m : Nat) (t : T), size t ≤ m → Wf t → ∀ p rest, FoldOK J Fit rest → FoldOK J Fit ((pre p t).map nOf ++ rest)
  | 0, t, h, _ => by rw [size_eq] at h; omega
  | m + 1, t, h, hw => fun p rest hr => by
    rw [pre_eq, List.map_cons, List.cons_append, show nOf (p, t) = (t, (inner t).length) from rfl, FoldOK]
    have e := foldL_step (inner t) (fun c mc p rest => fold_pre hF m c (by have := size_inner mc; omega) p rest) p 0 rest
    rw [e]
    refine ⟨by simp, ?_, okL_stepW (inner t) (wf_inner hw) (fun c mc hc p rest => ok_preW hF fit m c (by have := size_inner mc; omega) hc p rest) _ _ _ hr⟩
    rw [List.take_append_of_le_length (by simp), List.take_of_length_le (by simp)]
    exact fit t hw
theorem ok_wholeW {Fit : T → List R → Prop} (hF : ∀ t, F t = J t ((inner t).map F)) (fit : ∀ t, Wf t → Fit t ((inner t).map F)) (t : T) (hw : Wf t) : FoldOK J Fit ((pre [] t).map nOf) := by
  have := ok_preW (Fit := Fit) hF fit (size t) t (Nat.le_refl _) hw [] [] True.intro
  simpa using this
end
theorem dts_bls {H : Hp} : ∀ {zs : List V} {rs : List Bool}, DTs H zs (rs.map PyData.bool) → zs = rs.map V.bl
  | zs, [], h => h.nil_inv
  | zs, r :: rs, h => by
    obtain ⟨v, w, rfl, g, t⟩ := h.cons_inv
    rw [dts_bls t]
    cases g
    rfl
def spHas : List (Option V) → Sp := fun ws vs H Q _ => ∃ (v u : V) (D : Addr) (t : T) (zs : List V) (rs : List Bool) (k : Str) (n : Int), vs = [v, .ref D] ∧ ws = [some u] ∧ DT H v t.data ∧ H D = some (.lst zs) ∧ DTs H zs (rs.map PyData.bool) ∧ FitB t rs ∧ DT H u (obj k n) ∧ UsOK k n ∧ ∀ H', Same H H' → Q (.bl (JB k n t rs)) H'
theorem sc_has : NScope ["one", "truths", "user"] ["one", "truths"] ["user"] (C8.fnScope S_has_user) := nscope_by (by decide +kernel)
section
variable {P : Program} {w : World} {K : PySem.W.Frag} {mg : Str → Option Value} {base : Heap}
theorem nok_has {q : Str} {cl : List (Str × Addr)} {c' f : Addr} {f_names_user : Addr} {fd_names_user : FuncData} (G_names_user : FnOk P w K mg base CX0 1 f_names_user fd_names_user ["subjects", "user"] spNames) (g_names_user : mg "names_user" = some (.ref f_names_user)) (k_names_user : PySem.W.keepIn K (.ref f_names_user) = true) (b_names_user : Binds K fd_names_user ["subjects", "user"] []) (m_all : mg "all" = none) (m_any : mg "any" = none) : NOk P w K mg base CX0 2 f (NF.of S_has_user "has_user" q cl c') ["one", "truths"] ["user"] spHas := by
  refine nok_of sc_has (fun doc pm ctv us hl => ?_) (fun ws vs H Q E h => ?_) (fun A outer s H vs ws Q E hr hf hc hl h => ?_)
  · match us, hl with
    | [_, _], _ => rfl
  · obtain ⟨_, _, _, _, _, _, _, _, rfl, _⟩ := h
    rfl
  · obtain ⟨v, u, D, t, zs, rs, k, n, rfl, rfl, hv, hz, dz, ⟨lay, fb⟩, hu, us, q⟩ := h
    obtain rfl := dts_bls dz
    refine ⟨_, pss_cons (ps_if (pt_cmpR op_eq (pe_ix (r := rIxT K) ix_tup (pv 0) (pe_int) (fun _ _ => rfl)) (pe_str) (nomark _))
        (pss_one (ps_ret (pe_call G_names_user (hr.mono (by decide)) (by rfl) g_names_user k_names_user b_names_user .nil pass0 (pa_cons (pe_ix (r := rIxT K) ix_tup (pv 0) (pe_int) (fun _ _ => rfl)) (pa_cons (pv 2) pa_nil)))))
        (pss_nil))
      (pss_cons (ps_if (pt_cmpR op_eq (pe_ix (r := rIxT K) ix_tup (pv 0) (pe_int) (fun _ _ => rfl)) (pe_str) (nomark _))
        (pss_one (ps_ret (pe_and (pe_ix (r := rIxL K) ix_list (pv 1) (pe_int) (fun _ _ => rfl)) (pe_one (pe_not (pe_ix (r := rIxL K) ix_list (pv 1) (pe_int) (fun _ _ => rfl)))))))
        (pss_nil))
      (pss_one (ps_ret (pe_ifExp (pt_cmpR op_eq (pe_ix (r := rIxT K) ix_tup (pv 0) (pe_int) (fun _ _ => rfl)) (pe_str) (nomark _)) (pe_callB (cr_all rfl) (by rfl) m_all (by decide +kernel) (pa_cons (pv 1) pa_nil)) (pe_callB (cr_any rfl) (by rfl) m_any (by decide +kernel) (pa_cons (pv 1) pa_nil)))))), ?_⟩
    cases t with
    | set ss =>
      rw [T.data] at hv
      obtain ⟨p2, x1, x2, rfl, hp2, w1, w2⟩ := hv.two_inv
      obtain rfl := w1.str_inv
      walk_at "rd"
      exact fun H' s' => q _ s'
    | ring k0 n0 r0 =>
      rw [T.data] at hv
      obtain ⟨p2, x1, x2, x3, rfl, hp2, w1, w2, w3⟩ := DT.three_inv hv
      obtain rfl := w1.str_inv
      walk_at "rd"
      exact q _ (fun _ _ h => h)
    | any ps =>
      rw [T.data] at hv
      obtain ⟨p2, x1, x2, rfl, hp2, w1, w2⟩ := DT.two_inv hv
      obtain rfl := w1.str_inv
      walk_at "rd"
      exact q _ (fun _ _ h => h)
    | both ps =>
      rw [T.data] at hv
      obtain ⟨p2, x1, x2, rfl, hp2, w1, w2⟩ := DT.two_inv hv
      obtain rfl := w1.str_inv
      walk_at "rd"
      exact q _ (fun _ _ h => h)
    | but ta tb =>
      obtain ⟨x, y, rfl⟩ := fb _ _ rfl
      rw [T.data] at hv
      obtain ⟨p2, x1, x2, x3, rfl, hp2, w1, w2, w3⟩ := hv.three_inv
      obtain rfl := w1.str_inv
      have q : Q (.bl (x && !y)) H := q _ (fun _ _ h => h)
      walk_at "rd"
      cases x
      · walk_at "rd"
        exact q
      · walk_at "rd"
        exact q
    | opn k0 n0 r0 t0 =>
      rw [T.data] at hv
      obtain ⟨p2, x1, x2, x3, x4, rfl, hp2, w1, w2, w3, w4⟩ := DT.four_inv hv
      obtain rfl := w1.str_inv
      walk_at "rd"
      exact q _ (fun _ _ h => h)
end
end Wood

set_option maxHeartbeats 8000000
namespace Wood
open PySem PySem.Spec PyProof.Rows L2 Gen LamX NdefX
local macro_rules | `(tactic| walk_at "sz") => `(tactic| first | assumption | omega | (simp only [List.length_map, List.length_append, List.length_cons, List.length_nil, List.length_reverse] at *; omega))
local macro_rules | `(tactic| walk_at "hq") => `(tactic| first | assumption | exact upd_same | (refine same_new (by assumption) _ _ ?_; walk_at "hq") | (refine (show Same _ _ by assumption) _ _ ?_; walk_at "hq") | (refine (upd_ne (by assumption)).trans ?_; walk_at "hq"))
local macro_rules | `(tactic| walk_at "ty") => `(tactic| first | exact .base (.int _) | exact .base (.str _) | exact .base (.bl _) | exact .base .non | (apply TyX.base; apply TyOf.tup; walk_at "hq") | (apply TyX.base; apply TyOf.lst; walk_at "hq"))
local macro_rules | `(tactic| walk_at "dt") => `(tactic| first | assumption | exact DT.str _ | exact DT.int _ | exact DT.bl _ | exact DT.non | (refine Same.dt (same_new (by assumption)) ?_; walk_at "dt") | (refine Same.dt (by assumption) ?_; walk_at "dt"))
local macro_rules | `(tactic| walk_at "at") => `(tactic| first | with_reducible rfl | rfl | assumption | (show _ = some _; walk_at "hq") | (apply SqT.of; walk_at "hq") | (apply SqL.of; walk_at "hq") | (apply Or.inl; apply SqL.of; walk_at "hq") | (apply Or.inr; apply SqT.of; walk_at "hq") | (apply Or.inl; apply SqT.of; walk_at "hq") | (apply Or.inr; apply SqL.of; walk_at "hq") | exact atI_nat (j := 0) rfl | exact atI_nat (j := 1) rfl | exact atI_nat (j := 2) rfl | exact atI_nat (j := 3) rfl | exact .ty _ | exact .int _ | exact .str _ | exact .bl _ | exact ClsV.ty _ | walk_at "ty" | exact kit_ty (by decide +kernel) | exact True.intro | (show tyV _ _ _ _; exact .inl ⟨rfl, _, SqL.of (by walk_at "hq")⟩) | (show TruV _ _ _ _; first | exact .inl ⟨_, SqL.of (by walk_at "hq"), rfl⟩ | exact .inr (.inl ⟨_, SqT.of (by walk_at "hq"), rfl⟩)) | (show DT _ _ _; walk_at "dt") | (apply DT.dp; walk_at "dt") | (apply Exists.intro; apply SqT.of; walk_at "hq") | (apply Exists.intro; apply SqL.of; walk_at "hq") | (show _ ≤ sizeLine; decide) | omega | (refine small1000 ?_; walk_at "sz") | (refine le1000 ?_; walk_at "sz"))
local macro_rules | `(tactic| walk_at "ite") => `(tactic| refine iteB (fun c => ?_) (fun c => ?_))
local macro_rules | `(tactic| walk_at "st") => `(tactic| first | (apply Exists.intro) | (apply And.intro; focus (walk_at "at"; done)) | (refine iteT ?_) | (refine iteF ?_) | (refine iteY (by assumption) ?_) | (refine iteN (by assumption) ?_) | (refine iteY (decide_eq_true (by first | assumption | omega)) ?_) | (refine iteN (decide_eq_false (by first | assumption | omega)) ?_))
local macro_rules | `(tactic| walk_at "rd") => `(tactic| repeat (walk_at "st"))
abbrev S_is_in : Stmt := top 21
theorem sc_is_in : FnScope ["tree", "user", "rows", "has_user", "_", "one", "many"] ["tree", "user"] (defScope S_is_in) := ⟨rfl, rfl, rfl, by decide +kernel, rfl, by decide +kernel, by decide +kernel⟩
def posHU : Pos := match S_has_user with
  | .FunctionDef _ _ _ _ _ _ _ _ _ p => p
  | _ => ⟨0, 0, 0, 0⟩
def nmI : Nat → Nat → Str := fun _ _ => "is_in.<locals>.has_user"
/-- what calls of own defs that make defs leave -/
structure Ext (T : List NTab) (H H' : Hp) : Prop where
  ext : ExtN H H'
  free : ∀ b, H' b = none → H b = none
  tabs : TabsN T H'
theorem Ext.of {T : List NTab} {H H' : Hp} (t : TabsN T H) (s : Same H H') : Ext T H H' := ⟨ExtN.of s, fun _ e => Same.free s e, t.ext s⟩
theorem Ext.trans {T : List NTab} {H H1 H2 : Hp} (a : Ext T H H1) (b : Ext T H1 H2) : Ext T H H2 := ⟨a.ext.trans b.ext, fun _ e => a.free _ (b.free _ e), b.tabs⟩
theorem Ext.lst {T : List NTab} {H H' : Hp} (a : Ext T H H') {p : Addr} {xs : List V} (h : H p = some (.lst xs)) : H' p = some (.lst xs) := a.ext _ _ h (fun _ z => by cases z)
theorem Ext.tups {T : List NTab} {H H' : Hp} (a : Ext T H H') : Tups H H' := fun p xs h => a.ext _ _ h (fun _ z => by cases z)
def spIsIn (T : List NTab) : Sp := fun vs H Q _ => ∃ (v u : V) (t : Wood.T) (k : Str) (n : Int), vs = [v, u] ∧ DT H v t.data ∧ Wf t ∧ size t ≤ 900 ∧ deep t ≤ 100 ∧ DT H u (obj k n) ∧ NmOK k ∧ 0 ≤ n ∧ UsOK k n ∧ TabsN T H ∧ ∀ H', Ext T H H' → Q (.bl (isIn k n t)) H'
section
variable {P : Program} {w : World} {K : PySem.W.Frag} {mg : Str → Option Value} {base : Heap}
theorem ok_is_in {T : List NTab} {f cI pI : Addr} {oc : Value} {od an : Option Addr} {osl : Array (Option Value)} {kV doc pm ct : Value}
    (lk : K.lookup f = some ⟨oc, od, .func (PySem.W.fnOf "is_in" "is_in" (defArgs S_is_in) (defBody S_is_in) (defScope S_is_in) .none kV doc pm an (.ref cI) ct), osl⟩) (hcd : PySem.W.codeIn K (.ref cI) "is_in" = true) (TB : TabB base mg cI pI) (hmT : (pI, nmI) ∈ T) (huT : ∀ p ∈ T, p.1 = pI → p.2 = nmI)
    {gf_ : Addr} {ff : FuncData} (Ff : Fun K "folded" "folded" S_folded gf_ ff) (gf : mg "folded" = some (.ref gf_)) (kf : PySem.W.keepIn K (.ref gf_) = true) (bf : L2.Binds K ff ["rows", "join"] []) (m_reversed : mg "reversed" = none) (m_range : mg "range" = none)
    {f_trees_in : Addr} {fd_trees_in : FuncData} (G_trees_in : FnOk P w K mg base CX0 6 f_trees_in fd_trees_in ["tree"] spTrees) (g_trees_in : mg "trees_in" = some (.ref f_trees_in)) (k_trees_in : PySem.W.keepIn K (.ref f_trees_in) = true) (b_trees_in : Binds K fd_trees_in ["tree"] []) {f_require_named_pair : Addr} {fd_require_named_pair : FuncData} (G_require_named_pair : FnOk P w K mg base CX0 3 f_require_named_pair fd_require_named_pair ["user"] spReq) (g_require_named_pair : mg "require_named_pair" = some (.ref f_require_named_pair)) (k_require_named_pair : PySem.W.keepIn K (.ref f_require_named_pair) = true) (b_require_named_pair : Binds K fd_require_named_pair ["user"] []) (m_reversed : mg "reversed" = none) (m_range : mg "range" = none) {f_names_user : Addr} {fd_names_user : FuncData} (G_names_user : FnOk P w K mg base CX0 1 f_names_user fd_names_user ["subjects", "user"] spNames) (g_names_user : mg "names_user" = some (.ref f_names_user)) (k_names_user : PySem.W.keepIn K (.ref f_names_user) = true) (b_names_user : Binds K fd_names_user ["subjects", "user"] []) (m_all : mg "all" = none) (m_any : mg "any" = none) : FnOk P w K mg base CX0 7 f (PySem.W.fnOf "is_in" "is_in" (defArgs S_is_in) (defBody S_is_in) (defScope S_is_in) .none kV doc pm an (.ref cI) ct) ["tree", "user"] (spIsIn T) := by
  refine fn_of lk hcd sc_is_in (fun vs H Q E h => ?_) fun A outer s H vs Q E hr h => ?_
  · obtain ⟨_, _, _, _, _, rfl, _⟩ := h
    rfl
  · obtain ⟨v, u, t, k, n, rfl, hv, ok, sz, dp, hu, nk, hn, us, tb, q⟩ := h
    have key : ∃ t, PSs (cxOf CX0 P w K mg base ["tree", "user", "rows", "has_user", "_", "one", "many"] "is_in" (defScope S_is_in) f (.ref cI) A outer s H E).nox (defBody S_is_in) t ∧ t { nx := fun _ H' => Q .non H', rt := Q } (L2.start ["tree", "user", "rows", "has_user", "_", "one", "many"] [v, u]) H := by
      refine ⟨_, pss_cons (ps_set (i := 2) sc_is_in.nd rfl (.inl rfl) (pe_call G_trees_in (hr.mono (by decide)) (by rfl) g_trees_in k_trees_in b_trees_in .nil pass0 (pa_cons (pv 0) pa_nil)))
      (pss_cons (ps_expr (pe_call G_require_named_pair (hr.mono (by decide)) (by rfl) g_require_named_pair k_require_named_pair b_require_named_pair .nil pass0 (pa_cons (pv 1) pa_nil)))
      (pss_cons (ps_ndefMS (st := S_has_user) (T := T) (nm := nmI) (c := cI) (P := pI) (i := 3) (pos := posHU) rfl TB rfl hmT rfl huT (ndef_free (sc := defScope S_is_in) (nsc := C8.fnScope S_has_user) (fr := ["user"]) (by decide +kernel)) rfl rfl rfl sc_is_in.nd rfl (.inl rfl) (.inl rfl))
      (pss_one (ps_ret (pe_folded (J := JB k n) (Fit := FitB) (enc := PyData.bool) (mk := NF.of S_has_user "has_user" "is_in.<locals>.has_user" (cloFrom (envOfC "is_in" (defScope S_is_in) s.heap.objs.size f (.ref cI)).cells (C8.fnScope S_has_user).names [])) (fr := ["user"]) (js := [1]) (sp := fun _ _ => spHas) (k := 2) Ff bf gf kf m_reversed m_range (by rfl) (fun _ _ => nok_has G_names_user g_names_user k_names_user b_names_user m_all m_any) (fun _ => rfl) (fun ok => Caps.made ok (ndef_free (sc := defScope S_is_in) (nsc := C8.fnScope S_has_user) (fr := ["user"]) (by decide +kernel)) (ndef_fr (sc := defScope S_is_in) (nsc := C8.fnScope S_has_user) (fr := ["user"]) (by decide +kernel)) rfl) (hr.mono (by decide)) (pa_cons (pe_lc (own := [("_", 4), ("one", 5), ("many", 6)]) (g := (gTup K 3 (gCons (gName 4) (gCons (gName 5) (gCons (gName 6) gNil))))) (tt := tYes) (by rfl) sc_is_in.nd (pi_list (pv 2)) (blkOk_by (own := [("_", 4), ("one", 5), ("many", 6)]) (N := ["tree", "user", "rows", "has_user", "_", "one", "many"]) (sc := defScope S_is_in) (by decide +kernel)) (fun _ _ _ _ _ => pg_tup (by rfl) (pgs_cons (pg_name (i := 4) sc_is_in.nd rfl (.inl rfl)) (pgs_cons (pg_name (i := 5) sc_is_in.nd rfl (.inl rfl)) (pgs_cons (pg_name (i := 6) sc_is_in.nd rfl (.inl rfl)) pgs_nil)))) (fun _ _ _ _ _ => pts_nil) (fun _ _ _ _ _ => pe_tup (pa_cons (pv 5) (pa_cons (pv 6) pa_nil)))) (pa_cons (pv 3) pa_nil))))))), ?_⟩
      walk_at "rd"
      intro l xs H1 s1 hl dx
      have hu1 := Same.dt s1 hu
      walk_at "rd"
      refine ⟨tb.ext s1, fun fh c' H2 eN nn T2 h0 h1 h2 => ?_⟩
      have x2 : Ext T H H2 := ⟨(ExtN.of s1).trans eN, fun b e => Same.free s1 (nn b e), T2⟩
      have hl2 : H2 l = some (.lst xs) := eN _ _ hl (fun _ z => by cases z)
      have dx2 : DTs H2 xs ((pre [] t).map rowT) := dx.keep fun p xs h => eN _ _ h (fun _ z => by cases z)
      have hu2 : DT H2 u (obj k n) := hu1.keep fun p xs h => eN _ _ h (fun _ z => by cases z)
      walk_at "rd"
      intro D hD
      refine lc_list (K := K) (a := l) (xs := xs) (fun i => AccAt H2 D ((((pre [] t).map nOf).map rowD).take i)) (acc0 hD) (fun i H3 _ h => SqL.of (h.same _ _ hl2)) ?_ ?_
      · rintro i x H3 hi h
        obtain ⟨r, er, gx⟩ := row_get dx2 hi
        obtain ⟨p, a, b, c, rfl, hp, g1, g2, g3⟩ := (Same.dt h.same gx).three_inv
        obtain rfl := g3.int_inv
        obtain ⟨ys, hy, dy⟩ := h.acc
        have ly : ys.length < 1000 := by
          rw [dy.length, List.length_take, List.length_map, List.length_map, pre_len]
          omega
        walk_at "rd"
        intro p2 hp2
        walk_at "rd"
        rw [row_take er]
        exact acc_push h hD (same_new hp2) (same_new hp2 _ _ hy) (DT.laid hp2 (.cons g2 (.cons (.int _) .nil)))
      · rintro H3 ⟨s3, ys, hy, dy⟩
        have lx : xs.length = (((pre [] t).map nOf).map rowD).length := by rw [dx.length]; simp
        rw [lx, List.take_length] at dy
        refine ⟨_, rfl, D, fh, c', ys, (pre [] t).map nOf, isIn k n t, rfl, s3 _ _ h1, s3 _ _ h2, hy, dy, ok_wholeW (isIn_eq k n) (fun _ h => fitB_inner k n h) t ok, by rw [List.length_map, pre_len]; exact sz, fold_whole (isIn_eq k n) t, ?_, ?_⟩
        · intro H4 Q2 v2 D2 t2 zs rs s4 dv hz dz fit few q2
          refine ⟨v2, u, D2, t2, zs, rs, k, n, rfl, rfl, dv, hz, dz, fit, Same.dt (s3.trans s4) hu2, us, fun H5 s5 => q2 _ _ s5 (.bl _)⟩
        · intro u2 H4 s4 du
          cases du
          exact q _ (x2.trans (Ext.of T2 (s3.trans s4)))
    obtain ⟨t', h1, h2⟩ := key
    exact ⟨t', h1.nox, h2⟩
end
end Wood

set_option maxHeartbeats 8000000
namespace Wood
open PySem PySem.Spec PyProof.Rows L2 Gen LamX NdefX
local macro_rules | `(tactic| walk_at "sz") => `(tactic| first | assumption | omega | (simp only [List.length_map, List.length_append, List.length_cons, List.length_nil, List.length_reverse] at *; omega))
local macro_rules | `(tactic| walk_at "hq") => `(tactic| first | assumption | exact upd_same | (refine same_new (by assumption) _ _ ?_; walk_at "hq") | (refine (show Same _ _ by assumption) _ _ ?_; walk_at "hq") | (refine (upd_ne (by assumption)).trans ?_; walk_at "hq"))
local macro_rules | `(tactic| walk_at "ty") => `(tactic| first | exact .base (.int _) | exact .base (.str _) | exact .base (.bl _) | exact .base .non | (apply TyX.base; apply TyOf.tup; walk_at "hq") | (apply TyX.base; apply TyOf.lst; walk_at "hq"))
local macro_rules | `(tactic| walk_at "dt") => `(tactic| first | assumption | exact DT.str _ | exact DT.int _ | exact DT.bl _ | exact DT.non | (refine Same.dt (same_new (by assumption)) ?_; walk_at "dt") | (refine Same.dt (by assumption) ?_; walk_at "dt"))
local macro_rules | `(tactic| walk_at "at") => `(tactic| first | with_reducible rfl | rfl | assumption | (show _ = some _; walk_at "hq") | (apply SqT.of; walk_at "hq") | (apply SqL.of; walk_at "hq") | (apply Or.inl; apply SqL.of; walk_at "hq") | (apply Or.inr; apply SqT.of; walk_at "hq") | (apply Or.inl; apply SqT.of; walk_at "hq") | (apply Or.inr; apply SqL.of; walk_at "hq") | exact atI_nat (j := 0) rfl | exact atI_nat (j := 1) rfl | exact atI_nat (j := 2) rfl | exact atI_nat (j := 3) rfl | exact .ty _ | exact .int _ | exact .str _ | exact .bl _ | exact ClsV.ty _ | walk_at "ty" | exact kit_ty (by decide +kernel) | exact True.intro | (show tyV _ _ _ _; exact .inl ⟨rfl, _, SqL.of (by walk_at "hq")⟩) | (show TruV _ _ _ _; first | exact .inl ⟨_, SqL.of (by walk_at "hq"), rfl⟩ | exact .inr (.inl ⟨_, SqT.of (by walk_at "hq"), rfl⟩)) | (show DT _ _ _; walk_at "dt") | (apply DT.dp; walk_at "dt") | (apply Exists.intro; apply SqT.of; walk_at "hq") | (apply Exists.intro; apply SqL.of; walk_at "hq") | (show _ ≤ sizeLine; decide) | omega | (refine small1000 ?_; walk_at "sz") | (refine le1000 ?_; walk_at "sz"))
local macro_rules | `(tactic| walk_at "ite") => `(tactic| refine iteB (fun c => ?_) (fun c => ?_))
local macro_rules | `(tactic| walk_at "rd") => `(tactic| repeat (walk_at "st"))
local macro_rules | `(tactic| walk_at "sr") => `(tactic| first | assumption | (apply Src.new; (focus (walk_at "sr")); (focus assumption)) | (apply Src.same; (focus (walk_at "sr")); (focus assumption)))
local macro_rules | `(tactic| walk_at "ar") => `(tactic| first | (show Src _ _ _; walk_at "sr") | (show ((_ : Nat) < _); first | omega | decide | (simp only [List.length_cons, List.length_nil]; omega)) | (show ((_ : Int) < _); first | omega | decide) | (apply Or.inl; assumption) | (apply Or.inr; assumption) | (show ¬ _; simp only [List.length_cons, List.length_nil]; decide) | (show CMul _ _; first | exact .inl ⟨by omega, by omega⟩ | exact .inr ⟨by omega, by omega⟩ | exact .inl ⟨by decide, by decide⟩ | exact .inr ⟨by decide, by decide⟩) | (show CDiv _ _; exact ⟨by omega, by omega⟩) | (show CDiv _ _; exact ⟨by decide, by decide⟩) | (show CDivW _ _; exact wide_div (b := 40) (by omega) (by omega) (by decide) (by decide)) | (show CPow _ _; exact ⟨by decide, by decide, by decide⟩) | (show (0 : Int) < _; omega) | (show (0 : Int) < _; decide))
local macro_rules | `(tactic| walk_at "st") => `(tactic| first | (apply Exists.intro) | (apply And.intro; focus (first | walk_at "ar" | walk_at "at"; done)) | (refine iteT ?_) | (refine iteF ?_) | (refine iteY (by assumption) ?_) | (refine iteN (by assumption) ?_) | (refine iteY (decide_eq_true ?_) ?_; focus (first | assumption | omega)) | (refine iteN (decide_eq_false ?_) ?_; focus (first | assumption | omega)) | (refine (show (∃ _ : Int, _) ∨ (∃ _ : Bool, _) from Or.inl ⟨_, rfl, ?_⟩)) | (refine (show (∃ _ : Int, _) ∨ (∃ _ : Bool, _) from Or.inr ⟨_, rfl, ?_⟩)))
local macro_rules | `(tactic| walk_at "sm") => `(tactic| first | exact (fun _ _ h => h) | assumption | (refine Same.trans ?_ (same_new (by assumption)); walk_at "sm") | (refine Same.trans ?_ (show Same _ _ by assumption); walk_at "sm"))
local macro_rules | `(tactic| walk_at "ri") => `(tactic| repeat (first | walk_at "st" | refine fun (_ : Addr) (_ : _ = none) => ?_))
abbrev S__law_well : Stmt := top 26
theorem sc__law_well : FnScope ["cell"] ["cell"] (defScope S__law_well) := ⟨rfl, rfl, rfl, by decide +kernel, rfl, by decide +kernel, by decide +kernel⟩

section
variable {P : Program} {w : World} {K : PySem.W.Frag} {mg : Str → Option Value} {base : Heap}
theorem ok__law_well  {f : Addr} {fd : FuncData} (F : Fun K "_law_well" "_law_well" S__law_well f fd) (m_int : mg "int" = none)  : FnOk P w K mg base CX0 1 f fd ["cell"] spS := by
  refine F.ok sc__law_well (fun vs H Q E h => ?_) (fun cdv A outer s H vs Q E hr h => ?_)
  · obtain ⟨x, rfl, _⟩ := h; rfl
  · obtain ⟨c, rfl, q⟩ := h
    refine ⟨_, pss_one (ps_ret (pe_lst (pa_cons (pe_op op_mul (pv 0) (pe_callTy (call_int1) (by rfl) m_int (by decide +kernel) (pa_cons (pe_cmpR op_ge (pv 0) (pe_op op_pow (pe_int) (pe_int)) (nomark _)) pa_nil))) (pa_cons (pe_op op_mod (pe_callTy (call_int1) (by rfl) m_int (by decide +kernel) (pa_cons (pv 0) pa_nil)) (pe_int)) (pa_cons (pe_int) pa_nil))))), ?_⟩
    walk_at "rd"
    intro p hp
    exact q _ _ hp (same_new hp) ⟨_, _, 0, upd_same, by decide, by decide⟩
end

abbrev S__law_draw : Stmt := top 27
theorem sc__law_draw : FnScope ["well", "many", "mixed", "found"] ["well", "many"] (defScope S__law_draw) := ⟨rfl, rfl, rfl, by decide +kernel, rfl, by decide +kernel, by decide +kernel⟩

section
variable {P : Program} {w : World} {K : PySem.W.Frag} {mg : Str → Option Value} {base : Heap}
theorem ok__law_draw  {f : Addr} {fd : FuncData} (F : Fun K "_law_draw" "_law_draw" S__law_draw f fd) (m_int : mg "int" = none)  : FnOk P w K mg base CX0 1 f fd ["well", "many"] spT := by
  refine F.ok sc__law_draw (fun vs H Q E h => ?_) (fun cdv A outer s H vs Q E hr h => ?_)
  · obtain ⟨x, _, _, rfl, _⟩ := h; rfl
  · obtain ⟨p, n, m, rfl, ⟨x, y, z, hp, z0, z1⟩, hn, b0, b1, q⟩ := h
    refine ⟨_, pss_cons (ps_if (pt_cmpR op_gt (pe_ix (r := rIxL K) ix_list (pv 0) (pe_int) (fun _ _ => rfl)) (pe_int) (nomark _))
        (pss_cons (ps_set (i := 3) sc__law_draw.nd rfl (.inl rfl) (pe_op op_mod (pe_callTy (call_int1) (by rfl) m_int (by decide +kernel) (pa_cons (pe_ix (r := rIxL K) ix_list (pv 0) (pe_int) (fun _ _ => rfl)) pa_nil)) (pv 1)))
        (pss_cons (ps_asg (pe_op op_fdivW (pe_ix (r := rIxL K) ix_list (pv 0) pe_int (fun _ _ => rfl)) (pv 1)) (pg_sub (pv 0) (pe_int) set_list))
        (pss_one (ps_ret (pv 3)))))
        (pss_nil))
      (pss_cons (ps_asg (pe_op op_add (pe_ix (r := rIxL K) ix_list (pv 0) (pe_int) (fun _ _ => rfl)) (pe_int)) (pg_sub (pv 0) (pe_int) set_list))
      (pss_cons (ps_set (i := 2) sc__law_draw.nd rfl (.inl rfl) (pe_op op_mod (pe_callTy (call_int1) (by rfl) m_int (by decide +kernel) (pa_cons (pe_op op_add (pe_op op_add (pe_ix (r := rIxL K) ix_list (pv 0) (pe_int) (fun _ _ => rfl)) (pe_op op_mul (pe_int) (pe_ix (r := rIxL K) ix_list (pv 0) (pe_int) (fun _ _ => rfl)))) (pe_int)) pa_nil)) (pe_int)))
      (pss_cons (ps_set (i := 2) sc__law_draw.nd rfl (.inl rfl) (pe_op op_mod (pe_callTy (call_int1) (by rfl) m_int (by decide +kernel) (pa_cons (pe_op op_mul (pv 2) (pe_op op_add (pe_op op_fdiv (pv 2) (pe_int)) (pe_int))) pa_nil)) (pe_int)))
      (pss_cons (ps_set (i := 2) sc__law_draw.nd rfl (.inl rfl) (pe_op op_mod (pe_callTy (call_int1) (by rfl) m_int (by decide +kernel) (pa_cons (pe_op op_mul (pv 2) (pe_op op_add (pe_op op_fdiv (pv 2) (pe_int)) (pe_int))) pa_nil)) (pe_int)))
      (pss_one (ps_ret (pe_op op_mod (pe_callTy (call_int1) (by rfl) m_int (by decide +kernel) (pa_cons (pe_op op_fdiv (pv 2) (pe_int)) pa_nil)) (pv 1)))))))), ?_⟩
    walk_at "rd"
    refine iteB (fun c => ?_) (fun c => ?_)
    · walk_at "rd"
      exact q _ _ (Int.emod_nonneg _ (by omega)) (Int.emod_lt_of_pos _ b0) But.upd ⟨_, _, z, upd_same, z0, by omega⟩
    · walk_at "rd"
      exact q _ _ (Int.emod_nonneg _ (by omega)) (Int.emod_lt_of_pos _ b0) But.upd ⟨_, _, _, upd_same, by omega, by omega⟩
end

abbrev S__law_pick : Stmt := top 28
theorem sc__law_pick : FnScope ["well", "some"] ["well", "some"] (defScope S__law_pick) := ⟨rfl, rfl, rfl, by decide +kernel, rfl, by decide +kernel, by decide +kernel⟩

section
variable {P : Program} {w : World} {K : PySem.W.Frag} {mg : Str → Option Value} {base : Heap}
theorem ok__law_pick  {f : Addr} {fd : FuncData} (F : Fun K "_law_pick" "_law_pick" S__law_pick f fd) {f__law_draw : Addr} {fd__law_draw : FuncData} (G__law_draw : FnOk P w K mg base CX0 1 f__law_draw fd__law_draw ["well", "many"] spT) (g__law_draw : mg "_law_draw" = some (.ref f__law_draw)) (k__law_draw : PySem.W.keepIn K (.ref f__law_draw) = true) (b__law_draw : Binds K fd__law_draw ["well", "many"] []) (m_len : mg "len" = none)  : FnOk P w K mg base CX0 2 f fd ["well", "some"] (spP K) := by
  refine F.ok sc__law_pick (fun vs H Q E h => ?_) (fun cdv A outer s H vs Q E hr h => ?_)
  · obtain ⟨x, _, _, _, rfl, _⟩ := h; rfl
  · obtain ⟨p, n, a, xs, rfl, hp, hn, hx, x0, x1, ne, q⟩ := h
    refine ⟨_, pss_one (ps_ret (pe_ix (r := rIxL K) ix_list (pv 1) (pe_call G__law_draw (hr.mono (by decide)) (by rfl) g__law_draw k__law_draw b__law_draw .nil pass0 (pa_cons (pv 0) (pa_cons (pe_callB (r := rLenQ K) (call_len_seq) (by rfl) m_len PySem.boot_len (pa_cons (pv 1) pa_nil)) pa_nil))) (fun _ _ => rfl))), ?_⟩
    have b0 : (0 : Int) < ((xs.length : Nat) : Int) := by omega
    have b1 : ((xs.length : Nat) : Int) < 1000000 := by omega
    walk_at "rd"
    intro r H1 r0 r1 s1 hp1
    have hr' : r.toNat < xs.length := by omega
    have e : atI xs ((r.toNat : Nat) : Int) = some xs[r.toNat] := atI_nat (List.getElem?_eq_getElem hr')
    rw [Int.toNat_of_nonneg r0] at e
    have hx1 := s1.seq hx ne
    walk_at "rd"
    exact q _ (List.getElem_mem hr') H1 s1 hp1
end

end Wood

set_option maxHeartbeats 8000000
namespace Wood
open PySem PySem.Spec PyProof.Rows L2 Gen LamX NdefX
local macro_rules | `(tactic| walk_at "sz") => `(tactic| first | assumption | omega | (simp only [List.length_map, List.length_append, List.length_cons, List.length_nil, List.length_reverse] at *; omega))
local macro_rules | `(tactic| walk_at "hq") => `(tactic| first | assumption | exact upd_same | (refine same_new (by assumption) _ _ ?_; walk_at "hq") | (refine (show Same _ _ by assumption) _ _ ?_; walk_at "hq") | (refine (upd_ne (by assumption)).trans ?_; walk_at "hq"))
local macro_rules | `(tactic| walk_at "ty") => `(tactic| first | exact .base (.int _) | exact .base (.str _) | exact .base (.bl _) | exact .base .non | (apply TyX.base; apply TyOf.tup; walk_at "hq") | (apply TyX.base; apply TyOf.lst; walk_at "hq"))
local macro_rules | `(tactic| walk_at "dt") => `(tactic| first | assumption | exact DT.str _ | exact DT.int _ | exact DT.bl _ | exact DT.non | (refine Same.dt (same_new (by assumption)) ?_; walk_at "dt") | (refine Same.dt (by assumption) ?_; walk_at "dt"))
local macro_rules | `(tactic| walk_at "at") => `(tactic| first | with_reducible rfl | rfl | assumption | (show _ = some _; walk_at "hq") | (apply SqT.of; walk_at "hq") | (apply SqL.of; walk_at "hq") | (apply Or.inl; apply SqL.of; walk_at "hq") | (apply Or.inr; apply SqT.of; walk_at "hq") | (apply Or.inl; apply SqT.of; walk_at "hq") | (apply Or.inr; apply SqL.of; walk_at "hq") | exact atI_nat (j := 0) rfl | exact atI_nat (j := 1) rfl | exact atI_nat (j := 2) rfl | exact atI_nat (j := 3) rfl | exact .ty _ | exact .int _ | exact .str _ | exact .bl _ | exact ClsV.ty _ | walk_at "ty" | exact kit_ty (by decide +kernel) | exact True.intro | (show tyV _ _ _ _; exact .inl ⟨rfl, _, SqL.of (by walk_at "hq")⟩) | (show TruV _ _ _ _; first | exact .inl ⟨_, SqL.of (by walk_at "hq"), rfl⟩ | exact .inr (.inl ⟨_, SqT.of (by walk_at "hq"), rfl⟩)) | (show DT _ _ _; walk_at "dt") | (apply DT.dp; walk_at "dt") | (apply Exists.intro; apply SqT.of; walk_at "hq") | (apply Exists.intro; apply SqL.of; walk_at "hq") | (show _ ≤ sizeLine; decide) | omega | (refine small1000 ?_; walk_at "sz") | (refine le1000 ?_; walk_at "sz"))
local macro_rules | `(tactic| walk_at "ite") => `(tactic| refine iteB (fun c => ?_) (fun c => ?_))
local macro_rules | `(tactic| walk_at "rd") => `(tactic| repeat (walk_at "st"))
local macro_rules | `(tactic| walk_at "sr") => `(tactic| first | assumption | (apply Src.new; (focus (walk_at "sr")); (focus assumption)) | (apply Src.same; (focus (walk_at "sr")); (focus assumption)))
local macro_rules | `(tactic| walk_at "ar") => `(tactic| first | (show Src _ _ _; walk_at "sr") | (show ((_ : Nat) < _); first | omega | decide | (simp only [List.length_cons, List.length_nil]; omega)) | (show ((_ : Int) < _); first | omega | decide) | (apply Or.inl; assumption) | (apply Or.inr; assumption) | (show ¬ _; simp only [List.length_cons, List.length_nil]; decide) | (show CMul _ _; first | exact .inl ⟨by omega, by omega⟩ | exact .inr ⟨by omega, by omega⟩ | exact .inl ⟨by decide, by decide⟩ | exact .inr ⟨by decide, by decide⟩) | (show CDiv _ _; exact ⟨by omega, by omega⟩) | (show CDiv _ _; exact ⟨by decide, by decide⟩) | (show CDivW _ _; exact wide_div (b := 40) (by omega) (by omega) (by decide) (by decide)) | (show CPow _ _; exact ⟨by decide, by decide, by decide⟩) | (show (0 : Int) < _; omega) | (show (0 : Int) < _; decide))
local macro_rules | `(tactic| walk_at "st") => `(tactic| first | (apply Exists.intro) | (apply And.intro; focus (first | walk_at "ar" | walk_at "at"; done)) | (refine iteT ?_) | (refine iteF ?_) | (refine iteY (by assumption) ?_) | (refine iteN (by assumption) ?_) | (refine iteY (decide_eq_true ?_) ?_; focus (first | assumption | omega)) | (refine iteN (decide_eq_false ?_) ?_; focus (first | assumption | omega)) | (refine (show (∃ _ : Int, _) ∨ (∃ _ : Bool, _) from Or.inl ⟨_, rfl, ?_⟩)) | (refine (show (∃ _ : Int, _) ∨ (∃ _ : Bool, _) from Or.inr ⟨_, rfl, ?_⟩)))
local macro_rules | `(tactic| walk_at "sm") => `(tactic| first | exact (fun _ _ h => h) | assumption | (refine Same.trans ?_ (same_new (by assumption)); walk_at "sm") | (refine Same.trans ?_ (show Same _ _ by assumption); walk_at "sm"))
local macro_rules | `(tactic| walk_at "ri") => `(tactic| repeat (first | walk_at "st" | refine fun (_ : Addr) (_ : _ = none) => ?_))
abbrev S__law_object : Stmt := top 29
theorem sc__law_object : FnScope ["well"] ["well"] (defScope S__law_object) := ⟨rfl, rfl, rfl, by decide +kernel, rfl, by decide +kernel, by decide +kernel⟩
def DrawnK (k : Str) : Prop := k ∈ (["user", "bot", "doc", "a"] : List Str)
def DrawnN (i : Int) : Prop := i ∈ ([0, 1, 2, 3, 10 ^ 20] : List Int)
def spObj : Sp := fun vs H Q _ => ∃ (p : Addr) (n : Nat), vs = [.ref p] ∧ Src H p n ∧ n < 10000000 ∧ ∀ (v : V) (k : Str) (i : Int) (H' : Hp), But p H H' → Src H' p (n + 2) → DT H' v (obj k i) → DrawnK k → DrawnN i → Q v H'
section
variable {P : Program} {w : World} {K : PySem.W.Frag} {mg : Str → Option Value} {base : Heap}
theorem ok__law_object  {f : Addr} {fd : FuncData} (F : Fun K "_law_object" "_law_object" S__law_object f fd) {f__law_pick : Addr} {fd__law_pick : FuncData} (G__law_pick : FnOk P w K mg base CX0 2 f__law_pick fd__law_pick ["well", "some"] (spP K)) (g__law_pick : mg "_law_pick" = some (.ref f__law_pick)) (k__law_pick : PySem.W.keepIn K (.ref f__law_pick) = true) (b__law_pick : Binds K fd__law_pick ["well", "some"] [])  : FnOk P w K mg base CX0 3 f fd ["well"] spObj := by
  refine F.ok sc__law_object (fun vs H Q E h => ?_) (fun cdv A outer s H vs Q E hr h => ?_)
  · obtain ⟨x, _, rfl, _⟩ := h; rfl
  · obtain ⟨p, n, rfl, hp, hn, q⟩ := h
    refine ⟨_, pss_one (ps_ret (pe_tup (pa_cons (pe_call G__law_pick (hr.mono (by decide)) (by rfl) g__law_pick k__law_pick b__law_pick .nil pass0 (pa_cons (pv 0) (pa_cons (pe_lst (pa_cons (pe_str) (pa_cons (pe_str) (pa_cons (pe_str) (pa_cons (pe_str) pa_nil))))) pa_nil))) (pa_cons (pe_call G__law_pick (hr.mono (by decide)) (by rfl) g__law_pick k__law_pick b__law_pick .nil pass0 (pa_cons (pv 0) (pa_cons (pe_lst (pa_cons (pe_int) (pa_cons (pe_int) (pa_cons (pe_int) (pa_cons (pe_int) (pa_cons (pe_op op_pow (pe_int) (pe_int)) pa_nil)))))) pa_nil))) pa_nil)))), ?_⟩
    walk_at "rd"
    intro l hl
    have n1 := (Src.ne hp hl).symm
    have hp1 := Src.new (o := .lst [V.str "user", V.str "bot", V.str "doc", V.str "a"]) hp hl
    walk_at "rd"
    intro v1 hv1 H1 s1 hs1
    obtain ⟨k, hk, rfl⟩ : ∃ k, DrawnK k ∧ v1 = .str k := by
      simp only [List.mem_cons, List.not_mem_nil, or_false] at hv1
      rcases hv1 with rfl | rfl | rfl | rfl
      · exact ⟨_, by simp [DrawnK], rfl⟩
      · exact ⟨_, by simp [DrawnK], rfl⟩
      · exact ⟨_, by simp [DrawnK], rfl⟩
      · exact ⟨_, by simp [DrawnK], rfl⟩
    walk_at "rd"
    intro l2 hl2
    have n2 := (Src.ne hs1 hl2).symm
    walk_at "rd"
    intro v2 hv2 H2 s2 hs2
    obtain ⟨i, hi, rfl⟩ : ∃ i, DrawnN i ∧ v2 = .int i := by
      simp only [List.mem_cons, List.not_mem_nil, or_false] at hv2
      rcases hv2 with rfl | rfl | rfl | rfl | rfl
      · exact ⟨_, by simp [DrawnN], rfl⟩
      · exact ⟨_, by simp [DrawnN], rfl⟩
      · exact ⟨_, by simp [DrawnN], rfl⟩
      · exact ⟨_, by simp [DrawnN], rfl⟩
      · exact ⟨10 ^ 20, by simp [DrawnN], rfl⟩
    walk_at "rd"
    intro t ht
    exact q _ k i _ (((But.new hl).trans s1).trans (((But.new hl2).trans s2).trans (But.new ht))) (Src.new hs2 ht) (DT.laid ht (.cons (.str _) (.cons (.int _) .nil))) hk hi
end

end Wood

set_option maxHeartbeats 8000000
namespace Wood
open PySem PySem.Spec PyProof.Rows L2 Gen LamX NdefX
local macro_rules | `(tactic| walk_at "sz") => `(tactic| first | assumption | omega | (simp only [List.length_map, List.length_append, List.length_cons, List.length_nil, List.length_reverse] at *; omega))
local macro_rules | `(tactic| walk_at "hq") => `(tactic| first | assumption | exact upd_same | (refine same_new (by assumption) _ _ ?_; walk_at "hq") | (refine (show Same _ _ by assumption) _ _ ?_; walk_at "hq") | (refine (upd_ne (by assumption)).trans ?_; walk_at "hq"))
local macro_rules | `(tactic| walk_at "ty") => `(tactic| first | exact .base (.int _) | exact .base (.str _) | exact .base (.bl _) | exact .base .non | (apply TyX.base; apply TyOf.tup; walk_at "hq") | (apply TyX.base; apply TyOf.lst; walk_at "hq"))
local macro_rules | `(tactic| walk_at "dt") => `(tactic| first | assumption | exact DT.str _ | exact DT.int _ | exact DT.bl _ | exact DT.non | (refine Same.dt (same_new (by assumption)) ?_; walk_at "dt") | (refine Same.dt (by assumption) ?_; walk_at "dt"))
local macro_rules | `(tactic| walk_at "at") => `(tactic| first | with_reducible rfl | rfl | assumption | (show _ = some _; walk_at "hq") | (apply SqT.of; walk_at "hq") | (apply SqL.of; walk_at "hq") | (apply Or.inl; apply SqL.of; walk_at "hq") | (apply Or.inr; apply SqT.of; walk_at "hq") | (apply Or.inl; apply SqT.of; walk_at "hq") | (apply Or.inr; apply SqL.of; walk_at "hq") | exact atI_nat (j := 0) rfl | exact atI_nat (j := 1) rfl | exact atI_nat (j := 2) rfl | exact atI_nat (j := 3) rfl | exact .ty _ | exact .int _ | exact .str _ | exact .bl _ | exact ClsV.ty _ | walk_at "ty" | exact kit_ty (by decide +kernel) | exact True.intro | (show tyV _ _ _ _; exact .inl ⟨rfl, _, SqL.of (by walk_at "hq")⟩) | (show TruV _ _ _ _; first | exact .inl ⟨_, SqL.of (by walk_at "hq"), rfl⟩ | exact .inr (.inl ⟨_, SqT.of (by walk_at "hq"), rfl⟩)) | (show DT _ _ _; walk_at "dt") | (apply DT.dp; walk_at "dt") | (apply Exists.intro; apply SqT.of; walk_at "hq") | (apply Exists.intro; apply SqL.of; walk_at "hq") | (show _ ≤ sizeLine; decide) | omega | (refine small1000 ?_; walk_at "sz") | (refine le1000 ?_; walk_at "sz"))
local macro_rules | `(tactic| walk_at "ite") => `(tactic| refine iteB (fun c => ?_) (fun c => ?_))
local macro_rules | `(tactic| walk_at "rd") => `(tactic| repeat (walk_at "st"))
local macro_rules | `(tactic| walk_at "sr") => `(tactic| first | assumption | (apply Src.new; (focus (walk_at "sr")); (focus assumption)) | (apply Src.same; (focus (walk_at "sr")); (focus assumption)))
local macro_rules | `(tactic| walk_at "ar") => `(tactic| first | (show Src _ _ _; walk_at "sr") | (show ((_ : Nat) < _); first | omega | decide | (simp only [List.length_cons, List.length_nil]; omega)) | (show ((_ : Int) < _); first | omega | decide) | (apply Or.inl; assumption) | (apply Or.inr; assumption) | (show ¬ _; simp only [List.length_cons, List.length_nil]; decide) | (show CMul _ _; first | exact .inl ⟨by omega, by omega⟩ | exact .inr ⟨by omega, by omega⟩ | exact .inl ⟨by decide, by decide⟩ | exact .inr ⟨by decide, by decide⟩) | (show CDiv _ _; exact ⟨by omega, by omega⟩) | (show CDiv _ _; exact ⟨by decide, by decide⟩) | (show CDivW _ _; exact wide_div (b := 40) (by omega) (by omega) (by decide) (by decide)) | (show CPow _ _; exact ⟨by decide, by decide, by decide⟩) | (show (0 : Int) < _; omega) | (show (0 : Int) < _; decide))
local macro_rules | `(tactic| walk_at "st") => `(tactic| first | (apply Exists.intro) | (apply And.intro; focus (first | walk_at "ar" | walk_at "at"; done)) | (refine iteT ?_) | (refine iteF ?_) | (refine iteY (by assumption) ?_) | (refine iteN (by assumption) ?_) | (refine iteY (decide_eq_true ?_) ?_; focus (first | assumption | omega)) | (refine iteN (decide_eq_false ?_) ?_; focus (first | assumption | omega)) | (refine (show (∃ _ : Int, _) ∨ (∃ _ : Bool, _) from Or.inl ⟨_, rfl, ?_⟩)) | (refine (show (∃ _ : Int, _) ∨ (∃ _ : Bool, _) from Or.inr ⟨_, rfl, ?_⟩)))
local macro_rules | `(tactic| walk_at "sm") => `(tactic| first | exact (fun _ _ h => h) | assumption | (refine Same.trans ?_ (same_new (by assumption)); walk_at "sm") | (refine Same.trans ?_ (show Same _ _ by assumption); walk_at "sm"))
local macro_rules | `(tactic| walk_at "ri") => `(tactic| repeat (first | walk_at "st" | refine fun (_ : Addr) (_ : _ = none) => ?_))
abbrev S__law_set : Stmt := top 30
theorem sc__law_set : FnScope ["well", "some", "turn"] ["well"] (defScope S__law_set) := ⟨rfl, rfl, rfl, by decide +kernel, rfl, by decide +kernel, by decide +kernel⟩
def names4 : List Str := ["user", "bot", "doc", "a"]
def nums5 : List Int := [0, 1, 2, 3, 10 ^ 20]
def allSb : List Sb := (names4.flatMap fun k => nums5.map (Sb.one k)) ++ (["user", "bot", "a"] : List Str).map Sb.all
theorem drawn_one {k : Str} {i : Int} (h : DrawnK k) (h2 : DrawnN i) : Sb.one k i ∈ allSb :=
  List.mem_append_left _ (List.mem_flatMap.mpr ⟨k, h, List.mem_map.mpr ⟨i, h2, rfl⟩⟩)
theorem sb_tri : ∀ a ∈ allSb, ∀ b ∈ allSb, a ≠ b → PySem.W.dataLt b.data a.data = false → PySem.W.dataLt a.data b.data = true := by decide +kernel
def sbKey : Sb → NestedKey
  | .one k n => .tup [.text "one", .tup [.text k, .num n]]
  | .all k => .tup [.text "all", .text k]
theorem sbKey_data (s : Sb) : (sbKey s).data = s.data := by cases s <;> simp [sbKey, NestedKey.data, NestedKey.datas, Sb.data, obj]
theorem sbKey_inj {a b : Sb} (h : sbKey a = sbKey b) : a = b := by
  cases a <;> cases b <;> simp [sbKey] at h ⊢ <;> simp_all
mutual
theorem nk_dt {H : Hp} : ∀ {k : NestedKey} {v : V}, NK H k v → DT H v k.data
  | _, _, .non => by rw [NestedKey.data]; exact .non
  | _, _, .int i => by rw [NestedKey.data]; exact .int i
  | _, _, .txt x => by rw [NestedKey.data]; exact .str x
  | _, _, .tup h t => by rw [NestedKey.data]; exact .tup h (nks_dts t)
theorem nks_dts {H : Hp} : ∀ {ks : List NestedKey} {vs : List V}, NKs H ks vs → DTs H vs (NestedKey.datas ks)
  | _, _, .nil => by rw [NestedKey.datas]; exact .nil
  | _, _, .cons h t => by rw [NestedKey.datas]; exact .cons (nk_dt h) (nks_dts t)
end
theorem sb_nk {H : Hp} {a : Addr} {s : Sb} (h : DT H (.ref a) s.data) : NK H (sbKey s) (.ref a) := by
  cases s with
  | one k n =>
    obtain ⟨p, x, y, e, hp, hx, hy⟩ := h.two_inv
    cases e
    obtain rfl := hx.str_inv
    obtain ⟨p2, x2, y2, rfl, hp2, hx2, hy2⟩ := hy.two_inv
    obtain rfl := hx2.str_inv
    obtain rfl := hy2.int_inv
    exact .tup hp (.cons (.txt _) (.cons (.tup hp2 (.cons (.txt _) (.cons (.int _) .nil))) .nil))
  | all k =>
    obtain ⟨p, x, y, e, hp, hx, hy⟩ := h.two_inv
    cases e
    obtain rfl := hx.str_inv
    obtain rfl := hy.str_inv
    exact .tup hp (.cons (.txt _) (.cons (.txt _) .nil))
theorem sb_keyN {H : Hp} {a : Addr} {s : Sb} (h : DT H (.ref a) s.data) : KeyN H (sbKey s) (.ref a) :=
  ⟨by cases s <;> simp [sbKey, NestedKey.depth, NestedKey.depthAll], a, rfl, sb_nk h⟩
theorem keys_sb : ∀ M : List (Addr × NestedKey), (∀ z ∈ M, ∃ s, z.2 = sbKey s ∧ s ∈ allSb) → ∃ ss : List Sb, M.map (·.2) = ss.map sbKey ∧ ∀ s ∈ ss, s ∈ allSb
  | [], _ => ⟨[], rfl, fun s m => by cases m⟩
  | z :: M, h => by
    obtain ⟨ss, e, a⟩ := keys_sb M fun z m => h z (List.mem_cons_of_mem _ m)
    obtain ⟨s, e1, a1⟩ := h z (List.mem_cons_self ..)
    refine ⟨s :: ss, by rw [List.map_cons, List.map_cons, e, e1], fun x m => ?_⟩
    rcases List.mem_cons.mp m with rfl | m
    · exact a1
    · exact a x m
theorem keys_dts {H : Hp} : ∀ {M : List (Addr × NestedKey)} {ss : List Sb}, (∀ z ∈ M, ∃ s, z.2 = sbKey s ∧ DT H (.ref z.1) s.data) → M.map (·.2) = ss.map sbKey → DTs H (M.map fun z => V.ref z.1) (ss.map Sb.data)
  | [], [], _, _ => .nil
  | z :: M, s :: ss, h, e => by
    rw [List.map_cons, List.map_cons] at e
    injection e with e1 e2
    obtain ⟨s', e', g⟩ := h z (List.mem_cons_self ..)
    rw [e1] at e'
    obtain rfl := sbKey_inj e'
    exact .cons g (keys_dts (fun z m => h z (List.mem_cons_of_mem _ m)) e2)
/-- the subjects drawn so far -/
structure SomeAt (H : Hp) (p D : Addr) (n i : Nat) (H2 : Hp) : Prop where
  but : But p H H2
  src : Src H2 p (n + 6 * i)
  some : ∃ ks : List (Addr × Sb), H2 D = .some (.lst (ks.map fun z => V.ref z.1)) ∧ ks.length = i ∧ ∀ z ∈ ks, DT H2 (.ref z.1) z.2.data ∧ z.2 ∈ allSb
def spSet : Sp := fun vs H Q _ => ∃ (p : Addr) (n : Nat), vs = [.ref p] ∧ Src H p n ∧ n < 1000000 ∧ ∀ (v : V) (ss : List Sb) (H' : Hp), But p H H' → Src H' p (n + 20) → DT H' v (T.set ss).data → (∀ s ∈ ss, s ∈ allSb) → ss.Pairwise (fun a b => PySem.W.dataLt a.data b.data = true) → Q v H'
section
variable {P : Program} {w : World} {K : PySem.W.Frag} {mg : Str → Option Value} {base : Heap}
theorem ok__law_set  {f : Addr} {fd : FuncData} (F : Fun K "_law_set" "_law_set" S__law_set f fd) (m_range : mg "range" = none) {f__law_draw : Addr} {fd__law_draw : FuncData} (G__law_draw : FnOk P w K mg base CX0 1 f__law_draw fd__law_draw ["well", "many"] spT) (g__law_draw : mg "_law_draw" = some (.ref f__law_draw)) (k__law_draw : PySem.W.keepIn K (.ref f__law_draw) = true) (b__law_draw : Binds K fd__law_draw ["well", "many"] []) {f__law_pick : Addr} {fd__law_pick : FuncData} (G__law_pick : FnOk P w K mg base CX0 2 f__law_pick fd__law_pick ["well", "some"] (spP K)) (g__law_pick : mg "_law_pick" = some (.ref f__law_pick)) (k__law_pick : PySem.W.keepIn K (.ref f__law_pick) = true) (b__law_pick : Binds K fd__law_pick ["well", "some"] []) {f__law_object : Addr} {fd__law_object : FuncData} (G__law_object : FnOk P w K mg base CX0 3 f__law_object fd__law_object ["well"] spObj) (g__law_object : mg "_law_object" = some (.ref f__law_object)) (k__law_object : PySem.W.keepIn K (.ref f__law_object) = true) (b__law_object : Binds K fd__law_object ["well"] []) (m_tuple : mg "tuple" = none) (m_sorted : mg "sorted" = none) (m_set : mg "set" = none)  : FnOk P w K mg base CX0 4 f fd ["well"] spSet := by
  refine F.ok sc__law_set (fun vs H Q E h => ?_) (fun cdv A outer s H vs Q E hr h => ?_)
  · obtain ⟨x, _, rfl, _⟩ := h; rfl
  · obtain ⟨p, n, rfl, hp, hn, q⟩ := h
    have hu64 : (A.deeper (envOfC "_law_set" (defScope S__law_set) s.heap.objs.size f cdv)).units + 64 < cLine := by have := hr.un; omega
    have hu20 : (A.deeper (envOfC "_law_set" (defScope S__law_set) s.heap.objs.size f cdv)).units + 20 < cLine := by have := hr.un; omega
    refine ⟨_, pss_cons (ps_set (i := 1) sc__law_set.nd rfl (.inl rfl) (pe_lst pa_nil))
      (pss_cons (ps_for PassesOwn.never rfl (pi_range1 (by rfl) m_range (pa_cons (pe_call G__law_draw (hr.mono (by decide)) (by rfl) g__law_draw k__law_draw b__law_draw .nil pass0 (pa_cons (pv 0) (pa_cons (pe_int) pa_nil))) pa_nil)) (pg_name (i := 2) sc__law_set.nd rfl (.inl rfl))
        (pss_one (ps_expr (pe_bmK (K := K) rfl PySem.F.plainAttrs_list PySem.F.slot_list_append PySem.F.type_list_append mt_append (pv 1) (pa_cons (pe_call G__law_pick (hr.mono (by decide)) (by rfl) g__law_pick k__law_pick b__law_pick .nil pass0 (pa_cons (pv 0) (pa_cons (pe_lst (pa_cons (pe_tup (pa_cons (pe_str) (pa_cons (pe_call G__law_object (hr.mono (by decide)) (by rfl) g__law_object k__law_object b__law_object .nil pass0 (pa_cons (pv 0) pa_nil)) pa_nil))) (pa_cons (pe_tup (pa_cons (pe_str) (pa_cons (pe_call G__law_pick (hr.mono (by decide)) (by rfl) g__law_pick k__law_pick b__law_pick .nil pass0 (pa_cons (pv 0) (pa_cons (pe_lst (pa_cons (pe_str) (pa_cons (pe_str) (pa_cons (pe_str) pa_nil)))) pa_nil))) pa_nil))) pa_nil))) pa_nil))) pa_nil)))))
      (pss_one (ps_ret (pe_tup (pa_cons (pe_str) (pa_cons (pe_callTy (r := rTupOf K) (call_tuple_of) (by rfl) m_tuple (by decide +kernel) (pa_cons (pe_callB (r := rSortedSM P w) (cr_sortedSM (by rfl) hu20) (by rfl) m_sorted (by decide +kernel) (pa_cons (pe_callTy (T := "set") (r := rSetN K P w) (cr_setN (by rfl) hu64) (by rfl) m_set (by decide +kernel) (pa_cons (pv 1) pa_nil)) pa_nil)) pa_nil)) pa_nil)))))), ?_⟩
    walk_at "rd"
    intro D hD
    walk_at "rd"
    intro r H1 r0 r1 s1 hp1
    obtain ⟨m, rfl⟩ : ∃ m : Nat, r = (m : Int) := ⟨r.toNat, by omega⟩
    have D1 : H1 D = some (.lst []) := s1 _ _ (Src.ne hp hD).symm upd_same
    walk_at "rd"
    refine (for_it (walk_range (lo := 0) (n := m)) (fun i σ H2 => ∃ o2, σ = [some (.ref p), some (.ref D), o2] ∧ SomeAt H p D (n + 1) i H2)
      ⟨_, rfl, ⟨(But.new hD).trans s1, hp1, [], D1, rfl, fun z m => by cases m⟩⟩ (fun _ _ _ _ _ => True.intro) ?_ ?_).choose_spec
    · rintro i x σ H2 H3 hi ⟨o2, rfl, I⟩ ⟨rfl, rfl⟩
      obtain ⟨b1, sr, ks, hk, kl, kd⟩ := I
      walk_at "rd"
      intro v1 k1 i1 H4 b4 sr4 g4 hk4 hi4
      walk_at "rd"
      intro t1 ht1
      have srt := Src.new (o := .tup [.str "one", v1]) sr4 ht1
      have d1 : DT (upd H4 t1 (.tup [.str "one", v1])) (.ref t1) (Sb.one k1 i1).data := DT.laid ht1 (.cons (.str _) (.cons g4 .nil))
      walk_at "rd"
      intro l1 hl1
      have m1 := (Src.ne srt hl1).symm
      walk_at "rd"
      intro v2 hv2 H5 b5 sr5
      obtain ⟨k2, hk2, rfl⟩ : ∃ k, Sb.all k ∈ allSb ∧ v2 = .str k := by
        simp only [List.mem_cons, List.not_mem_nil, or_false] at hv2
        rcases hv2 with rfl | rfl | rfl
        · exact ⟨_, by decide +kernel, rfl⟩
        · exact ⟨_, by decide +kernel, rfl⟩
        · exact ⟨_, by decide +kernel, rfl⟩
      walk_at "rd"
      intro t2 ht2
      have srt2 := Src.new (o := .tup [.str "all", .str k2]) sr5 ht2
      have d2 : DT (upd H5 t2 (.tup [.str "all", .str k2])) (.ref t2) (Sb.all k2).data := DT.laid ht2 (.cons (.str _) (.cons (.str _) .nil))
      walk_at "rd"
      intro l2 hl2
      have m2 := (Src.ne srt2 hl2).symm
      walk_at "rd"
      intro v3 hv3 H6 b6 sr6
      have B2 := (But.new (p := p) (o := .lst [.ref t1, .ref t2]) hl2).trans b6
      have B1 := (But.new (p := p) hl1).trans (b5.trans ((But.new (p := p) ht2).trans B2))
      have Bk : But p H3 H6 := b4.trans ((But.new (p := p) ht1).trans B1)
      have nD := (Src.ne hp hD).symm
      have hk6 := Bk _ _ nD hk
      obtain ⟨t, sb, rfl, d, al⟩ : ∃ t sb, v3 = .ref t ∧ DT H6 (.ref t) sb.data ∧ sb ∈ allSb := by
        simp only [List.mem_cons, List.not_mem_nil, or_false] at hv3
        rcases hv3 with rfl | rfl
        · exact ⟨t1, _, rfl, d1.keep (B1.tups srt), drawn_one hk4 hi4⟩
        · exact ⟨t2, _, rfl, d2.keep (B2.tups srt2), hk2⟩
      have kl2 : (ks.map fun z => V.ref z.1).length ≤ 1000 := by rw [List.length_map]; omega
      walk_at "rd"
      refine ⟨fun b o nb z => ?_, Src.upd (sr6.le (by omega)) nD, ks ++ [(t, sb)], by rw [upd_same, List.map_append]; rfl, by simp [kl], fun z m => ?_⟩
      · rw [upd_ne (ne_of_none z hD)]
        exact Bk _ _ nb (b1 _ _ nb z)
      · have T : Tups H3 (upd H6 D (.lst ((ks.map fun z => V.ref z.1) ++ [V.ref t]))) := fun a zs e => tups_lst hk6 a zs (Bk.tups sr a zs e)
        rcases List.mem_append.mp m with m | m
        · exact ⟨(kd z m).1.keep T, (kd z m).2⟩
        · simp only [List.mem_singleton] at m
          subst m
          exact ⟨d.keep (tups_lst hk6), al⟩
    · rintro σ H2 ⟨o2, rfl, I⟩
      obtain ⟨b1, sr, ks, hk, kl, kd⟩ := I
      have e1 : (ks.map fun z => ((z.1, sbKey z.2) : Addr × NestedKey)).map (fun p => V.ref p.1) = ks.map fun z => V.ref z.1 := by rw [List.map_map]; rfl
      refine ⟨_, rfl, D, ks.map fun z => (z.1, sbKey z.2), rfl, .inl (SqL.of (by rw [e1]; exact hk)), fun z m => ?_, by rw [List.length_map]; omega, fun a L ha tk nd => ?_⟩
      · obtain ⟨y, my, rfl⟩ := List.mem_map.mp m
        exact sb_keyN (kd y my).1
      have hL : ∀ z ∈ L, ∃ sb, z.2 = sbKey sb ∧ sb ∈ allSb ∧ DT H2 (.ref z.1) sb.data := fun z m => by
        have z1 := tk.from_ z m
        rw [List.take_length] at z1
        obtain ⟨y, my, rfl⟩ := List.mem_map.mp z1
        exact ⟨_, rfl, (kd y my).2, (kd y my).1⟩
      have sa := same_new (o := .ext (SnObj P w a L)) ha
      refine ⟨a, L, rfl, ⟨upd_same, fun z m => ?_⟩, fun d m d' m' => ?_, fun d m => ?_, fun z m => ?_, fun p2 M hp2 pm pw => ?_⟩
      · obtain ⟨sb, e, _, g⟩ := hL z m
        rw [e]
        exact sb_keyN (Same.dt sa g)
      · obtain ⟨z, mz, rfl⟩ := List.mem_map.mp m
        obtain ⟨z', mz', rfl⟩ := List.mem_map.mp m'
        obtain ⟨sb, e, _⟩ := hL z mz
        obtain ⟨sb', e', _⟩ := hL z' mz'
        rw [e, e', sbKey_data, sbKey_data]
        exact sb_mix _ _
      · obtain ⟨z, mz, rfl⟩ := List.mem_map.mp m
        obtain ⟨sb, e, _⟩ := hL z mz
        rw [e, sbKey_data]
        cases sb <;> exact ⟨_, _, rfl⟩
      · obtain ⟨sb, e, _⟩ := hL z m
        rw [e, sbKey_data]
        cases sb <;> simp [Sb.data, obj, PyData.depth, PyData.depthAll]
      have hM : ∀ z ∈ M, ∃ sb, z.2 = sbKey sb ∧ sb ∈ allSb ∧ DT H2 (.ref z.1) sb.data := fun z m => hL z (pm.mem_iff.mp m)
      obtain ⟨ss, es, as⟩ := keys_sb M fun z m => let ⟨sb, e, al, _⟩ := hM z m; ⟨sb, e, al⟩
      have s2 := sa.trans (same_new (o := .lst (M.map fun z => V.ref z.1)) hp2)
      have dM : DTs H2 (M.map fun z => V.ref z.1) (ss.map Sb.data) := keys_dts (fun z m => let ⟨sb, e, _, g⟩ := hM z m; ⟨sb, e, g⟩) es
      have nds : ss.Nodup := by
        have z := (pm.map (·.2)).nodup_iff.mpr nd
        rw [es] at z
        exact (List.pairwise_map.mp z).imp fun h e => h (by rw [e])
      have pws : ss.Pairwise fun a b => PySem.W.dataLt b.data a.data = false := by
        have z : (M.map (·.2)).Pairwise fun x y => PySem.W.dataLt y.data x.data = false := List.pairwise_map.mpr pw
        rw [es, List.pairwise_map] at z
        exact z.imp fun h => by rwa [sbKey_data, sbKey_data] at h
      have pws2 : ss.Pairwise fun a b => PySem.W.dataLt a.data b.data = true := (pws.and nds).imp_of_mem fun ma mb h => sb_tri _ (as _ ma) _ (as _ mb) h.2 h.1
      refine ⟨p2, _, rfl, .inl ⟨SqL.of upd_same, fun t3 ht3 => ?_⟩⟩
      refine ⟨by show 2 ≤ sizeLine; decide, fun t4 ht4 => ?_⟩
      have s3 := s2.trans (same_new (o := .tup (M.map fun z => V.ref z.1)) ht3)
      have s4 := s3.trans (same_new (o := .tup [.str "set", .ref t3]) ht4)
      refine q _ ss _ (b1.trans (But.of s4)) ((sr.same s4).le (by omega)) ?_ as pws2
      rw [T.data]
      exact DT.laid ht4 (.cons (.str _) (.cons (DT.laid ht3 (Same.dts s2 dM)) .nil))
end

end Wood

set_option maxHeartbeats 4000000
/-! A drawn schema is a plan. -/
namespace Gen
open PySem PySem.Spec PyProof.Rows L2
theorem rulesOf_cons (r : Str × List (Str × PyData)) (rs : Plan) : rulesOf (r :: rs) = (r.2.map fun e => ((r.1, e.1), e.2)) ++ rulesOf rs := List.flatMap_cons
theorem mem_rulesOf {pl : Plan} {x : (Str × Str) × PyData} (h : x ∈ rulesOf pl) : ∃ r ∈ pl, x.1.1 = r.1 ∧ (x.1.2, x.2) ∈ r.2 := by
  obtain ⟨r, hr, hx⟩ := List.mem_flatMap.mp h
  obtain ⟨e, he, rfl⟩ := List.mem_map.mp hx
  exact ⟨r, hr, rfl, he⟩
theorem rulesOf_mem {pl : Plan} {r : Str × List (Str × PyData)} {e : Str × PyData} (h : r ∈ pl) (g : e ∈ r.2) : ((r.1, e.1), e.2) ∈ rulesOf pl := List.mem_flatMap.mpr ⟨r, h, List.mem_map.mpr ⟨e, g, rfl⟩⟩
theorem rulesOf_nodup : ∀ {pl : Plan}, (pl.map (·.1)).Nodup → (∀ r ∈ pl, (r.2.map (·.1)).Nodup) → ((rulesOf pl).map (·.1)).Nodup
  | [], _, _ => List.nodup_nil
  | r :: rs, h, g => by
    rw [List.map_cons, List.nodup_cons] at h
    rw [rulesOf_cons, List.map_append, List.nodup_append]
    refine ⟨?_, rulesOf_nodup h.2 (fun x hx => g x (List.mem_cons_of_mem _ hx)), ?_⟩
    · have z := g r (List.mem_cons_self ..)
      rw [List.map_map]
      rw [List.Nodup, List.pairwise_map] at z ⊢
      refine z.imp fun hne e => hne ?_
      injection e
    · intro a ha b hb e
      subst e
      obtain ⟨x, hx, rfl⟩ := List.mem_map.mp ha
      obtain ⟨y, hy, rfl⟩ := List.mem_map.mp hx
      obtain ⟨x', hx', e'⟩ := List.mem_map.mp hb
      obtain ⟨r', hr', e1, _⟩ := mem_rulesOf hx'
      rw [e'] at e1
      exact h.1 (List.mem_map.mpr ⟨r', hr', e1.symm⟩)
theorem rulesOf_len {m : Nat} : ∀ {pl : Plan}, (∀ r ∈ pl, r.2.length ≤ m) → (rulesOf pl).length ≤ pl.length * m
  | [], _ => by simp [rulesOf]
  | r :: rs, h => by
    rw [rulesOf_cons, List.length_append, List.length_map, List.length_cons, Nat.succ_mul]
    have a := h r (List.mem_cons_self ..)
    have b := rulesOf_len (fun x hx => h x (List.mem_cons_of_mem _ hx))
    omega
theorem prefix_cases3 {ks : List Str} {a b c : Str} (h : ks <+: [a, b, c]) : ks = [] ∨ ks = [a] ∨ ks = [a, b] ∨ ks = [a, b, c] := by
  have e := List.prefix_iff_eq_take.mp h
  have l := h.length_le
  match n : ks.length, l with
  | 0, _ => rw [n] at e; exact .inl e
  | 1, _ => rw [n] at e; exact .inr (.inl e)
  | 2, _ => rw [n] at e; exact .inr (.inr (.inl e))
  | 3, _ => rw [n] at e; exact .inr (.inr (.inr e))
theorem prefix_cases2 {ks : List Str} {a b : Str} (h : ks <+: [a, b]) : ks = [] ∨ ks = [a] ∨ ks = [a, b] := by
  have e := List.prefix_iff_eq_take.mp h
  have l := h.length_le
  match n : ks.length, l with
  | 0, _ => rw [n] at e; exact .inl e
  | 1, _ => rw [n] at e; exact .inr (.inl e)
  | 2, _ => rw [n] at e; exact .inr (.inr e)
theorem IsRels.nodup {ks : List Str} {rs : List (Str × PyData)} (h : IsRels ks rs) : (rs.map (·.1)).Nodup := by
  obtain ⟨ls, pls, pm, _⟩ := h
  rw [pm.nodup_iff]
  rcases prefix_cases2 pls with rfl | rfl | rfl <;> decide
theorem IsRels.len {ks : List Str} {rs : List (Str × PyData)} (h : IsRels ks rs) : 4 ≤ rs.length ∧ rs.length ≤ 6 := by
  obtain ⟨ls, pls, pm, _⟩ := h
  have e := pm.length_eq
  rw [List.length_map, List.length_append] at e
  have l : ls.length ≤ 2 := pls.length_le
  have t : (titles.map (·.1)).length = 4 := rfl
  omega
theorem IsSchema.names {ks : List Str} {rows : Plan} (h : IsSchema ks rows) : (rows.map (·.1)).Nodup := by
  obtain ⟨nk, pk, pm, _⟩ := h
  rw [pm.nodup_iff]
  rcases prefix_cases3 pk with rfl | rfl | rfl | rfl
  · exact absurd rfl nk
  all_goals decide
theorem IsSchema.plan {ks : List Str} {rows : Plan} (h : IsSchema ks rows) : PlanOK rows := by
  have nms := h.names
  obtain ⟨nk, pk, pm, hr⟩ := h
  have lk : ks.length ≤ 3 := pk.length_le
  have lr : rows.length ≤ 5 := by
    have e := pm.length_eq
    rw [List.length_map, List.length_append] at e
    have t : (["user", "bot"] : List Str).length = 2 := rfl
    omega
  have l6 : ∀ r ∈ rows, r.2.length ≤ 6 := fun r m => by
    rcases hr r m with ⟨_, z⟩ | ⟨_, z⟩
    · exact z.len.2
    · rw [z]; exact Nat.zero_le _
  refine ⟨rulesOf_nodup nms (fun r m => ?_), ?_, ?_, fun x hx => ?_⟩
  · rcases hr r m with ⟨_, z⟩ | ⟨_, z⟩
    · exact z.nodup
    · rw [z]; exact List.nodup_nil
  · obtain ⟨k, ks', e⟩ := List.exists_cons_of_ne_nil nk
    have m : k ∈ rows.map (·.1) := pm.mem_iff.mpr (List.mem_append_left _ (e ▸ List.mem_cons_self ..))
    obtain ⟨r, hm, rfl⟩ := List.mem_map.mp m
    have kk : r.1 ∈ ks := e ▸ List.mem_cons_self ..
    rcases hr r hm with ⟨_, z⟩ | ⟨z, _⟩
    · obtain ⟨en, es, ee⟩ := List.exists_cons_of_ne_nil (l := r.2) (fun e0 => by
        have l4 := z.len.1
        rw [e0] at l4
        exact absurd l4 (by decide))
      exact List.length_pos_of_mem (rulesOf_mem hm (e := en) (ee ▸ List.mem_cons_self ..))
    · exfalso
      rcases prefix_cases3 pk with rfl | rfl | rfl | rfl
      · exact nk rfl
      all_goals
        simp only [List.mem_cons, List.not_mem_nil, or_false] at kk
        rcases z with z | z <;> rw [z] at kk <;> revert kk <;> decide
  · have := rulesOf_len l6
    have : rows.length * 6 ≤ 5 * 6 := Nat.mul_le_mul_right _ lr
    omega
  · obtain ⟨r, hm, _, he⟩ := mem_rulesOf hx
    rcases hr r hm with ⟨_, ls, pls, _, hent⟩ | ⟨_, z⟩
    · have g := hent _ he
      generalize hd : x.2 = d at g
      generalize ht : x.1.2 = t at g
      cases g with
      | link hl sub ne =>
        refine .link ne ?_
        have := sub.length_le
        omega
      | right ht hru =>
        obtain ⟨fs, a, b, c⟩ := hru.fi
        exact .forms a (by omega) (forms_shaped (ok_names pk) c) (fun f hf => (c f hf).f)
    · rw [z] at he
      cases he
end Gen

set_option maxHeartbeats 4000000
/-! Data of drawn schemas are shaped; things that rows name. -/
namespace Gen
open PySem PySem.Spec PyProof.Rows L2 PySem.W
theorem okW : PyData.strOk "same" = true ∧ PyData.strOk "through" = true ∧ PyData.strOk "either" = true ∧ PyData.strOk "both" = true ∧ PyData.strOk "but" = true ∧ PyData.strOk "direct" = true ∧ PyData.strOk "links" = true := by decide +kernel
theorem all_lay {n : Nat} : ∀ {ds : List PyData}, (∀ d ∈ ds, d.canLay0 = true ∧ d.depth ≤ n) → PyData.canLayAll0 ds = true ∧ PyData.depthAll ds ≤ n
  | [], _ => ⟨by simp [PyData.canLayAll0], by simp [PyData.depthAll]⟩
  | d :: ds, h => by
    obtain ⟨h1, h2⟩ := h d (List.mem_cons_self ..)
    obtain ⟨h3, h4⟩ := all_lay fun x hx => h x (List.mem_cons_of_mem _ hx)
    exact ⟨by simp [PyData.canLayAll0, h1, h3], by simp [PyData.depthAll]; omega⟩
theorem tup_lay {n : Nat} {ds : List PyData} (h : ∀ d ∈ ds, d.canLay0 = true ∧ d.depth ≤ n) : (PyData.tuple ds).canLay0 = true ∧ (PyData.tuple ds).depth ≤ n + 1 := by
  obtain ⟨h1, h2⟩ := all_lay h
  exact ⟨by simp [PyData.canLay0, h1], by simp [PyData.depth]; omega⟩
theorem str_lay {x : Str} (h : PyData.strOk x = true) (n : Nat) : (PyData.str x).canLay0 = true ∧ (PyData.str x).depth ≤ n := ⟨by simp [PyData.canLay0, h], by simp [PyData.depth]⟩
theorem lay_up {d : PyData} {n m : Nat} (h : d.canLay0 = true ∧ d.depth ≤ n) (l : n ≤ m) : d.canLay0 = true ∧ d.depth ≤ m := ⟨h.1, Nat.le_trans h.2 l⟩
theorem two_lay {a b : PyData} {n : Nat} (ha : a.canLay0 = true ∧ a.depth ≤ n) (hb : b.canLay0 = true ∧ b.depth ≤ n) : (PyData.tuple [a, b]).canLay0 = true ∧ (PyData.tuple [a, b]).depth ≤ n + 1 := tup_lay fun d m => by
  simp only [List.mem_cons, List.not_mem_nil, or_false] at m
  rcases m with rfl | rfl
  · exact ha
  · exact hb
theorem three_lay {a b c : PyData} {n : Nat} (ha : a.canLay0 = true ∧ a.depth ≤ n) (hb : b.canLay0 = true ∧ b.depth ≤ n) (hc : c.canLay0 = true ∧ c.depth ≤ n) : (PyData.tuple [a, b, c]).canLay0 = true ∧ (PyData.tuple [a, b, c]).depth ≤ n + 1 := tup_lay fun d m => by
  simp only [List.mem_cons, List.not_mem_nil, or_false] at m
  rcases m with rfl | rfl | rfl
  · exact ha
  · exact hb
  · exact hc
theorem leaf_lay {ls : List Str} (hl : ∀ k ∈ ls, PyData.strOk k = true) {lv : Int} {d : PyData} (h : IsLeaf ls lv d) : d.canLay0 = true ∧ d.depth ≤ 1 := by
  cases h with
  | same ht => exact two_lay (str_lay okW.1 0) (str_lay (ok_title ht) 0)
  | through hm ht => exact three_lay (str_lay okW.2.1 0) (str_lay (hl _ hm) 0) (str_lay (ok_title ht) 0)
theorem part_lay {ls : List Str} (hl : ∀ k ∈ ls, PyData.strOk k = true) {lv : Int} {m : Nat} {d : PyData} (h : IsPart ls lv m d) : d.canLay0 = true ∧ d.depth ≤ 2 * m := by
  induction h with
  | leaf h => exact lay_up (leaf_lay hl h) (by omega)
  | @many lv m w ps hw _ _ _ ih =>
    have ow : PyData.strOk w = true := by rcases hw with rfl | rfl <;> decide +kernel
    exact two_lay (str_lay ow (2 * m + 1)) (tup_lay ih)
  | @but lv m a b _ _ _ iha ihb => exact lay_up (three_lay (str_lay okW.2.2.2.2.1 (2 * m)) iha ihb) (by omega)
  | up _ ih => exact lay_up ih (by omega)
theorem direct_lay {ks : List Str} (hk : ∀ k ∈ ks, PyData.strOk k = true) {lv : Int} {d : PyData} (h : IsDirect ks lv d) : d.canLay0 = true ∧ d.depth ≤ 3 := by
  obtain ⟨fs, rfl, _, _, _, h5⟩ := h
  exact two_lay (str_lay okW.2.2.2.2.2.1 2) (tup_lay fun f m => form_lay hk (h5 f m))
theorem rule_lay {ks ls : List Str} (hk : ∀ k ∈ ks, PyData.strOk k = true) (hl : ∀ k ∈ ls, PyData.strOk k = true) {lv : Int} {d : PyData} (h : IsRule ks ls lv d) : d.canLay0 = true ∧ d.depth ≤ 9 := by
  cases h with
  | direct h => exact lay_up (direct_lay hk h) (by decide)
  | part h => exact lay_up (part_lay hl h) (by decide)
  | but1 _ h1 h2 => exact lay_up (three_lay (str_lay okW.2.2.2.2.1 6) (lay_up (direct_lay hk h1) (by decide)) (lay_up (part_lay hl h2) (by decide))) (by decide)
  | but2 _ h1 h2 h3 => exact three_lay (str_lay okW.2.2.2.2.1 8) (two_lay (str_lay okW.2.2.1 7) (two_lay (lay_up (direct_lay hk h1) (by decide)) (part_lay hl h2))) (lay_up (part_lay hl h3) (by decide))
  | @two w a b hw h =>
    have ow : PyData.strOk w = true := by rcases hw with rfl | rfl <;> decide +kernel
    rcases h with ⟨h1, h2⟩ | ⟨h2, h1⟩
    · exact lay_up (two_lay (str_lay ow 7) (two_lay (lay_up (direct_lay hk h1) (by decide)) (part_lay hl h2))) (by decide)
    · exact lay_up (two_lay (str_lay ow 7) (two_lay (part_lay hl h2) (lay_up (direct_lay hk h1) (by decide)))) (by decide)
theorem entry_lay {ks ls : List Str} (hk : ∀ k ∈ ks, PyData.strOk k = true) (hl : ∀ k ∈ ls, PyData.strOk k = true) {r : Str × PyData} (h : IsEntry ks ls r) : (ent r).canLay0 = true ∧ (ent r).depth ≤ 10 := by
  cases h with
  | link hm sub _ => exact lay_up (two_lay (str_lay (hl _ hm) 2) (two_lay (str_lay okW.2.2.2.2.2.2 1) (tup_lay (n := 0) fun d m => by
      obtain ⟨g, hg, rfl⟩ := List.mem_map.mp m
      exact str_lay (hk g (sub.subset hg)) 0))) (by decide)
  | right ht hr => exact two_lay (str_lay (ok_title ⟨_, ht, Int.le_refl _⟩) 9) (rule_lay hk hl hr)
theorem rels_shaped {ks : List Str} (hk : ∀ k ∈ ks, PyData.strOk k = true) {rs : List (Str × PyData)} (h : IsRels ks rs) : SeqAt.shaped (.tuple (rs.map ent)) = true := by
  obtain ⟨ls, pls, _, he⟩ := h
  obtain ⟨h1, h2⟩ := tup_lay (ds := rs.map ent) fun d m => by
    obtain ⟨r, hr, rfl⟩ := List.mem_map.mp m
    exact entry_lay hk (ok_links pls) (he r hr)
  unfold SeqAt.shaped
  rw [h1, Bool.true_and]
  exact decide_eq_true (by omega)
theorem nilT_shaped : SeqAt.shaped (.tuple []) = true := by decide +kernel
theorem eqv_nilT (ds : List PyData) : PyData.eqv (.tuple ds) (.tuple []) = ds.isEmpty := by
  cases ds <;> simp [PyData.eqv, PyData.eqvAll]
def PlanSh (pl : Plan) : Prop := pl.length < 1000 ∧ ∀ r ∈ pl, SeqAt.shaped (.tuple (r.2.map ent)) = true
theorem IsSchema.sh {ks : List Str} {rows : Plan} (h : IsSchema ks rows) : PlanSh rows := by
  obtain ⟨_, pk, pm, hr⟩ := h
  refine ⟨?_, fun r m => ?_⟩
  · have e := pm.length_eq
    have l := pk.length_le
    rw [List.length_map, List.length_append] at e
    have t : (["user", "bot"] : List Str).length = 2 := rfl
    have t3 : (["doc", "dir", "group"] : List Str).length = 3 := rfl
    omega
  · rcases hr r m with ⟨_, z⟩ | ⟨_, z⟩
    · exact rels_shaped (ok_names pk) z
    · rw [z]; exact nilT_shaped
/-! ### things -/
/-- a row: the thing, and the object in its subject -/
inductive Shape : PyData → (Str × Int) → Option (Str × Int) → Prop
  | two {k t w g : Str} {i j : Int} : (w == ("all" : Str)) = false → Shape (.tuple [.tuple [.str k, .int i], .str t, .tuple [.str w, .tuple [.str g, .int j]]]) (k, i) (some (g, j))
  | three {k t w g r : Str} {i j : Int} : (w == ("all" : Str)) = false → Shape (.tuple [.tuple [.str k, .int i], .str t, .tuple [.str w, .tuple [.str g, .int j], .str r]]) (k, i) (some (g, j))
  | all {k t g : Str} {i : Int} : Shape (.tuple [.tuple [.str k, .int i], .str t, .tuple [.str "all", .str g]]) (k, i) none
theorem IsRowD.shape {pl : Plan} {d : PyData} (h : IsRowD pl d) : ∃ p s, Shape d p s := by
  obtain ⟨k, t, d', s, i, _, _, hs, rfl⟩ := h
  cases hs with
  | link _ _ _ => exact ⟨_, _, .two (by decide)⟩
  | one _ _ _ => exact ⟨_, _, .two (by decide)⟩
  | all _ _ => exact ⟨_, _, .all⟩
  | who _ _ _ => exact ⟨_, _, .three (by decide)⟩
inductive Shapes : List PyData → List ((Str × Int) × Option (Str × Int)) → Prop
  | nil : Shapes [] []
  | cons {d : PyData} {ds : List PyData} {p : Str × Int} {s : Option (Str × Int)} {ss : List ((Str × Int) × Option (Str × Int))} : Shape d p s → Shapes ds ss → Shapes (d :: ds) ((p, s) :: ss)
theorem Shapes.get : ∀ {ds : List PyData} {ss : List ((Str × Int) × Option (Str × Int))} {i : Nat} {d : PyData}, Shapes ds ss → ds[i]? = some d → ∃ p s, ss[i]? = some (p, s) ∧ Shape d p s
  | _, _, _, _, .nil, e => by simp at e
  | _, _, 0, _, .cons h _, e => ⟨_, _, rfl, Option.some.inj e ▸ h⟩
  | _, _, i + 1, d, .cons _ t, e => by
    rw [List.getElem?_cons_succ] at e
    obtain ⟨p, s, e1, h⟩ := Shapes.get t e
    exact ⟨p, s, by rw [List.getElem?_cons_succ]; exact e1, h⟩
theorem Shapes.length : ∀ {ds : List PyData} {ss : List ((Str × Int) × Option (Str × Int))}, Shapes ds ss → ds.length = ss.length
  | _, _, .nil => rfl
  | _, _, .cons _ t => congrArg Nat.succ (Shapes.length t)
theorem Shapes.of : ∀ {ds : List PyData}, (∀ d ∈ ds, ∃ p s, Shape d p s) → ∃ ss, Shapes ds ss
  | [], _ => ⟨[], .nil⟩
  | d :: ds, h => by
    obtain ⟨p, s, e⟩ := h d (List.mem_cons_self ..)
    obtain ⟨ss, r⟩ := Shapes.of fun x m => h x (List.mem_cons_of_mem _ m)
    exact ⟨_, .cons e r⟩
def bareOf (pl : Plan) : List Str := (pl.filter fun r => r.2.isEmpty).map (·.1)
/-- the things of a row, one after the other -/
def thingsOf (bare : List Str) (z : (Str × Int) × Option (Str × Int)) : List (Str × Int) := z.1 :: (match z.2 with
  | some g => if g.1 ∈ bare then [] else [g]
  | none => [])
def foundIn (bare : List Str) (ss : List ((Str × Int) × Option (Str × Int))) : List (Str × Int) := ss.flatMap (thingsOf bare)
def tkey (q : Str × Int) : NestedKey := .tup [.text q.1, .num q.2]
theorem tkey_alike (a b : Str × Int) : alike (tkey a).data (tkey b).data = true := by
  simp [tkey, NestedKey.data, NestedKey.datas, alike, alikeAll]
theorem tkey_key {H : Hp} {b : Addr} {q : Str × Int} (h : H b = some (.tup [.str q.1, .int q.2])) : KeyN H (tkey q) (.ref b) :=
  ⟨by simp [tkey, NestedKey.depth, NestedKey.depthAll], b, rfl, .tup h (.cons (.txt _) (.cons (.int _) .nil))⟩
theorem thingsOf_len (bare : List Str) (z : (Str × Int) × Option (Str × Int)) : (thingsOf bare z).length ≤ 2 := by
  unfold thingsOf
  rcases z with ⟨p, _ | g⟩
  · simp
  · simp only
    split <;> simp
theorem foundIn_len (bare : List Str) : ∀ ss : List ((Str × Int) × Option (Str × Int)), (foundIn bare ss).length ≤ 2 * ss.length
  | [] => Nat.le_refl 0
  | z :: ss => by
    have a := thingsOf_len bare z
    have b := foundIn_len bare ss
    unfold foundIn at b ⊢
    rw [List.flatMap_cons, List.length_append, List.length_cons]
    omega
theorem foundIn_take {bare : List Str} {ss : List ((Str × Int) × Option (Str × Int))} {i : Nat} {z : (Str × Int) × Option (Str × Int)} (e : ss[i]? = some z) : foundIn bare (ss.take (i + 1)) = foundIn bare (ss.take i) ++ thingsOf bare z := by
  rw [take_get e]
  unfold foundIn
  rw [List.flatMap_append, List.flatMap_cons, List.flatMap_nil, List.append_nil]
/-- the things that rows name, in order, once each -/
def spThings (K : PySem.W.Frag) : Sp := fun vs H Q _ => ∃ (v : V) (pl : Plan) (l : Addr) (xs : List V) (ds : List PyData) (ss : List ((Str × Int) × Option (Str × Int))), vs = [v, .ref l] ∧ DT H v (planD pl) ∧ PlanSh pl ∧ SqL K H l xs ∧ DTs H xs ds ∧ Shapes ds ss ∧ 2 * ss.length < 64 ∧
  ∀ (p : Addr) (M : List (Addr × NestedKey)) (H' : Hp), Same H H' → H p = none → H' p = some (.lst (M.map fun z => V.ref z.1)) → (∀ z ∈ M, ∃ q, z.2 = tkey q ∧ H' z.1 = some (.tup [.str q.1, .int q.2])) → (M.map (·.2)).Nodup →
    (∀ k, k ∈ M.map (·.2) ↔ ∃ q ∈ foundIn (bareOf pl) ss, k = tkey q) → (M.Pairwise fun x y => dataLt y.2.data x.2.data = false) → Q (.ref p) H'
theorem bareOf_take {pl : Plan} {i : Nat} {r : Str × List (Str × PyData)} (e : pl[i]? = some r) : bareOf (pl.take (i + 1)) = bareOf (pl.take i) ++ (if r.2.isEmpty = true then [r.1] else []) := by
  rw [take_get e]
  unfold bareOf
  rw [List.filter_append, List.map_append, List.filter_cons, List.filter_nil]
  by_cases c : r.2.isEmpty = true
  · rw [if_pos c, if_pos c]; rfl
  · rw [if_neg c, if_neg c]; rfl
theorem bareOf_len (pl : Plan) : (bareOf pl).length ≤ pl.length := by
  unfold bareOf
  rw [List.length_map]
  exact List.length_filter_le _ _
theorem inV_strs (g : Str) : ∀ ls : List Str, inV (.str g) (ls.map V.str) = decide (g ∈ ls)
  | [] => by simp [inV]
  | x :: ls => by
    have z := inV_strs g ls
    unfold inV at z ⊢
    rw [List.map_cons, List.any_cons, z]
    show (x == g || decide (g ∈ ls)) = decide (g ∈ x :: ls)
    by_cases c : x = g
    · subst c
      rw [beq_self_eq_true, Bool.true_or]
      exact (decide_eq_true (List.mem_cons_self ..)).symm
    · rw [beq_eq_false_iff_ne.mpr c, Bool.false_or]
      exact decide_eq_decide.mpr ⟨List.mem_cons_of_mem _, fun h => (List.mem_cons.mp h).resolve_left fun e => c e.symm⟩
theorem flat_strs : ∀ ls : List Str, (ls.map V.str).all flatV = true
  | [] => rfl
  | x :: ls => by rw [List.map_cons, List.all_cons, flat_strs ls]; rfl
theorem Tups.trans {H H1 H2 : Hp} (a : Tups H H1) (b : Tups H1 H2) : Tups H H2 := fun c xs h => b c xs (a c xs h)
end Gen

set_option maxHeartbeats 8000000
namespace Wood
open PySem PySem.Spec PyProof.Rows L2 Gen LamX NdefX
local macro_rules | `(tactic| walk_at "sz") => `(tactic| first | assumption | omega | (simp only [List.length_map, List.length_append, List.length_cons, List.length_nil, List.length_reverse] at *; omega))
local macro_rules | `(tactic| walk_at "hq") => `(tactic| first | assumption | exact upd_same | (refine same_new (by assumption) _ _ ?_; walk_at "hq") | (refine (show Same _ _ by assumption) _ _ ?_; walk_at "hq") | (refine (upd_ne (by assumption)).trans ?_; walk_at "hq"))
local macro_rules | `(tactic| walk_at "ty") => `(tactic| first | exact .base (.int _) | exact .base (.str _) | exact .base (.bl _) | exact .base .non | (apply TyX.base; apply TyOf.tup; walk_at "hq") | (apply TyX.base; apply TyOf.lst; walk_at "hq"))
local macro_rules | `(tactic| walk_at "dt") => `(tactic| first | assumption | exact DT.str _ | exact DT.int _ | exact DT.bl _ | exact DT.non | (refine Same.dt (same_new (by assumption)) ?_; walk_at "dt") | (refine Same.dt (by assumption) ?_; walk_at "dt"))
local macro_rules | `(tactic| walk_at "at") => `(tactic| first | with_reducible rfl | rfl | assumption | (show _ = some _; walk_at "hq") | (apply SqT.of; walk_at "hq") | (apply SqL.of; walk_at "hq") | (apply Or.inl; apply SqL.of; walk_at "hq") | (apply Or.inr; apply SqT.of; walk_at "hq") | (apply Or.inl; apply SqT.of; walk_at "hq") | (apply Or.inr; apply SqL.of; walk_at "hq") | exact atI_nat (j := 0) rfl | exact atI_nat (j := 1) rfl | exact atI_nat (j := 2) rfl | exact atI_nat (j := 3) rfl | exact .ty _ | exact .int _ | exact .str _ | exact .bl _ | exact ClsV.ty _ | walk_at "ty" | exact kit_ty (by decide +kernel) | exact True.intro | (show tyV _ _ _ _; exact .inl ⟨rfl, _, SqL.of (by walk_at "hq")⟩) | (show TruV _ _ _ _; first | exact .inl ⟨_, SqL.of (by walk_at "hq"), rfl⟩ | exact .inr (.inl ⟨_, SqT.of (by walk_at "hq"), rfl⟩)) | (show DT _ _ _; walk_at "dt") | (apply DT.dp; walk_at "dt") | (apply Exists.intro; apply SqT.of; walk_at "hq") | (apply Exists.intro; apply SqL.of; walk_at "hq") | (show _ ≤ sizeLine; decide) | omega | (refine small1000 ?_; walk_at "sz") | (refine le1000 ?_; walk_at "sz"))
local macro_rules | `(tactic| walk_at "ite") => `(tactic| refine iteB (fun c => ?_) (fun c => ?_))
local macro_rules | `(tactic| walk_at "rd") => `(tactic| repeat (walk_at "st"))
local macro_rules | `(tactic| walk_at "sr") => `(tactic| first | assumption | (apply Src.new; (focus (walk_at "sr")); (focus assumption)) | (apply Src.same; (focus (walk_at "sr")); (focus assumption)))
local macro_rules | `(tactic| walk_at "ar") => `(tactic| first | (show Src _ _ _; walk_at "sr") | (show ((_ : Nat) < _); first | omega | decide | (simp only [List.length_cons, List.length_nil]; omega)) | (show ((_ : Int) < _); first | omega | decide) | (apply Or.inl; assumption) | (apply Or.inr; assumption) | (show ¬ _; simp only [List.length_cons, List.length_nil]; decide) | (show CMul _ _; first | exact .inl ⟨by omega, by omega⟩ | exact .inr ⟨by omega, by omega⟩ | exact .inl ⟨by decide, by decide⟩ | exact .inr ⟨by decide, by decide⟩) | (show CDiv _ _; exact ⟨by omega, by omega⟩) | (show CDiv _ _; exact ⟨by decide, by decide⟩) | (show CDivW _ _; exact wide_div (b := 40) (by omega) (by omega) (by decide) (by decide)) | (show CPow _ _; exact ⟨by decide, by decide, by decide⟩) | (show (0 : Int) < _; omega) | (show (0 : Int) < _; decide))
local macro_rules | `(tactic| walk_at "st") => `(tactic| first | (apply Exists.intro) | (apply And.intro; focus (first | walk_at "ar" | walk_at "at"; done)) | (refine iteT ?_) | (refine iteF ?_) | (refine iteY (by assumption) ?_) | (refine iteN (by assumption) ?_) | (refine iteY (decide_eq_true ?_) ?_; focus (first | assumption | omega)) | (refine iteN (decide_eq_false ?_) ?_; focus (first | assumption | omega)) | (refine (show (∃ _ : Int, _) ∨ (∃ _ : Bool, _) from Or.inl ⟨_, rfl, ?_⟩)) | (refine (show (∃ _ : Int, _) ∨ (∃ _ : Bool, _) from Or.inr ⟨_, rfl, ?_⟩)))
local macro_rules | `(tactic| walk_at "sm") => `(tactic| first | exact (fun _ _ h => h) | assumption | (refine Same.trans ?_ (same_new (by assumption)); walk_at "sm") | (refine Same.trans ?_ (show Same _ _ by assumption); walk_at "sm"))
local macro_rules | `(tactic| walk_at "ri") => `(tactic| repeat (first | walk_at "st" | refine fun (_ : Addr) (_ : _ = none) => ?_))
abbrev S__law_wood : Stmt := top 31
theorem sc__law_wood : FnScope ["well", "deep", "way", "many", "parts", "turn"] ["well", "deep"] (defScope S__law_wood) := ⟨rfl, rfl, rfl, by decide +kernel, rfl, by decide +kernel, by decide +kernel⟩
def cost : Nat → Nat
  | 0 => 30
  | m + 1 => 30 + 3 * cost m
/-- a wood that is drawn -/
def Grown : Nat → T → Prop
  | _, .set ss => (∀ s ∈ ss, s ∈ allSb) ∧ ss.Pairwise fun a b => PySem.W.dataLt a.data b.data = true
  | _, .ring k n r => DrawnK k ∧ DrawnN n ∧ r = "own"
  | m + 1, .but a b => Grown m a ∧ Grown m b
  | m + 1, .opn k n r t => DrawnK k ∧ DrawnN n ∧ (r = "own" ∨ r = "see") ∧ Grown m t
  | m + 1, .any ps => ps.length ≤ 3 ∧ ∀ t ∈ ps, Grown m t
  | m + 1, .both ps => ps ≠ [] ∧ ps.length ≤ 3 ∧ ∀ t ∈ ps, Grown m t
  | _, _ => False
theorem drawnK_ok {k : Str} (h : DrawnK k) : NmOK k := by
  have z : ∀ k ∈ (["user", "bot", "doc", "a"] : List Str), nameB k = true := by decide +kernel
  exact z k h
theorem drawnN_ok {i : Int} (h : DrawnN i) : 0 ≤ i := by
  have z : ∀ k ∈ ([0, 1, 2, 3, 10 ^ 20] : List Int), 0 ≤ k := by decide +kernel
  exact z i h
def SbFine (s : Sb) : Bool := match s with
  | .one k n => nameB k && decide (0 ≤ n) && (s.data.canLay0 && decide (s.data.depth ≤ 4))
  | .all k => nameB k && (s.data.canLay0 && decide (s.data.depth ≤ 4))
theorem sb_fine : ∀ s ∈ allSb, SbFine s = true := by decide +kernel
theorem sb_ok {s : Sb} (h : s ∈ allSb) : SOK s ∧ SbLay s := by
  have z := sb_fine s h
  cases s with
  | one k n =>
    simp only [SbFine, Bool.and_eq_true, decide_eq_true_eq] at z
    exact ⟨⟨z.1.1, z.1.2⟩, z.2⟩
  | all k =>
    simp only [SbFine, Bool.and_eq_true, decide_eq_true_eq] at z
    exact ⟨z.1, z.2⟩
theorem grown_set {m : Nat} {ss : List Sb} : Grown m (.set ss) ↔ (∀ s ∈ ss, s ∈ allSb) ∧ ss.Pairwise fun a b => PySem.W.dataLt a.data b.data = true := by cases m <;> simp [Grown]
theorem grown_ring {m : Nat} {k : Str} {n : Int} {r : Str} : Grown m (.ring k n r) ↔ DrawnK k ∧ DrawnN n ∧ r = "own" := by cases m <;> simp [Grown]
theorem cost_ge : ∀ m, 30 ≤ cost m
  | 0 => Nat.le_refl _
  | m + 1 => by rw [cost]; omega
theorem lay_datas {B : Nat} : ∀ ts : List T, (∀ t ∈ ts, t.data.canLay0 = true ∧ t.data.depth ≤ B) → PyData.canLayAll0 (datas ts) = true ∧ PyData.depthAll (datas ts) ≤ B
  | [], _ => by simp [datas, PyData.canLayAll0, PyData.depthAll]
  | t :: ts, h => by
    obtain ⟨a, b⟩ := lay_datas ts fun x m => h x (List.mem_cons_of_mem _ m)
    obtain ⟨c, d⟩ := h t (List.mem_cons_self ..)
    simp only [datas, PyData.canLayAll0, PyData.depthAll, a, c, Bool.and_self, true_and]
    omega
theorem lay_sbs : ∀ ss : List Sb, (∀ s ∈ ss, s ∈ allSb) → PyData.canLayAll0 (ss.map Sb.data) = true ∧ PyData.depthAll (ss.map Sb.data) ≤ 4
  | [], _ => by simp [PyData.canLayAll0, PyData.depthAll]
  | t :: ts, h => by
    obtain ⟨a, b⟩ := lay_sbs ts fun x m => h x (List.mem_cons_of_mem _ m)
    obtain ⟨c, d⟩ := (sb_ok (h t (List.mem_cons_self ..))).2
    simp only [List.map_cons, PyData.canLayAll0, PyData.depthAll, a, c, Bool.and_self, true_and]
    omega
theorem drawnK_str {k : Str} (h : DrawnK k) : PyData.strOk k = true := by
  have z : ∀ k ∈ (["user", "bot", "doc", "a"] : List Str), PyData.strOk k = true := by decide +kernel
  exact z k h
theorem grown_lay : ∀ (m : Nat) (t : T), Grown m t → t.data.canLay0 = true ∧ t.data.depth ≤ 6 + 2 * m := by
  have ok1 : PyData.strOk "set" = true := by decide +kernel
  have ok2 : PyData.strOk "ring" = true := by decide +kernel
  have ok3 : PyData.strOk "own" = true := by decide +kernel
  have ok4 : PyData.strOk "see" = true := by decide +kernel
  have ok5 : PyData.strOk "any" = true := by decide +kernel
  have ok6 : PyData.strOk "both" = true := by decide +kernel
  have ok7 : PyData.strOk "but" = true := by decide +kernel
  have ok8 : PyData.strOk "open" = true := by decide +kernel
  intro m
  induction m with
  | zero =>
    intro t h
    cases t with
    | set ss =>
      obtain ⟨a, b⟩ := lay_sbs ss (grown_set.mp h).1
      simp [T.data, PyData.canLay0, PyData.canLayAll0, PyData.depth, PyData.depthAll, a, ok1]
      omega
    | ring k n r =>
      obtain ⟨a, b, rfl⟩ := grown_ring.mp h
      simp [T.data, obj, PyData.canLay0, PyData.canLayAll0, PyData.depth, PyData.depthAll, drawnK_str a, ok2, ok3]
    | any ps => simp [Grown] at h
    | both ps => simp [Grown] at h
    | but a b => simp [Grown] at h
    | opn k n r t => simp [Grown] at h
  | succ m ih =>
    intro t h
    cases t with
    | set ss =>
      obtain ⟨a, b⟩ := lay_sbs ss (grown_set.mp h).1
      simp [T.data, PyData.canLay0, PyData.canLayAll0, PyData.depth, PyData.depthAll, a, ok1]
      omega
    | ring k n r =>
      obtain ⟨a, b, rfl⟩ := grown_ring.mp h
      simp [T.data, obj, PyData.canLay0, PyData.canLayAll0, PyData.depth, PyData.depthAll, drawnK_str a, ok2, ok3]
      omega
    | any ps =>
      simp only [Grown] at h
      obtain ⟨a, b⟩ := lay_datas ps fun t m => ih t (h.2 t m)
      simp [T.data, PyData.canLay0, PyData.canLayAll0, PyData.depth, PyData.depthAll, a, ok5]
      omega
    | both ps =>
      simp only [Grown] at h
      obtain ⟨a, b⟩ := lay_datas ps fun t m => ih t (h.2.2 t m)
      simp [T.data, PyData.canLay0, PyData.canLayAll0, PyData.depth, PyData.depthAll, a, ok6]
      omega
    | but a b =>
      simp only [Grown] at h
      obtain ⟨a1, b1⟩ := ih a h.1
      obtain ⟨a2, b2⟩ := ih b h.2
      simp [T.data, PyData.canLay0, PyData.canLayAll0, PyData.depth, PyData.depthAll, a1, a2, ok7]
      omega
    | opn k n r t =>
      simp only [Grown] at h
      obtain ⟨h1, h2, h3, h4⟩ := h
      obtain ⟨a1, b1⟩ := ih t h4
      have ro : PyData.strOk r = true := by rcases h3 with rfl | rfl <;> assumption
      simp [T.data, obj, PyData.canLay0, PyData.canLayAll0, PyData.depth, PyData.depthAll, a1, drawnK_str h1, ro, ok8]
      omega
/-- the parts drawn so far -/
structure WoodsAt (m : Nat) (H : Hp) (p D : Addr) (n i : Nat) (H2 : Hp) : Prop where
  but : But p H H2
  src : Src H2 p (n + i * cost m)
  acc : ∃ (ts : List T) (ys : List V), H2 D = some (.lst ys) ∧ DTs H2 ys (datas ts) ∧ ts.length = i ∧ ∀ t ∈ ts, Grown m t
def spWood (m : Nat) : Sp := fun vs H Q _ => ∃ (p : Addr) (n : Nat) (d : Int), vs = [.ref p, .int d] ∧ d = (m : Int) ∧ Src H p n ∧ n + cost m < 900000 ∧ ∀ (v : V) (t : T) (H' : Hp), But p H H' → Src H' p (n + cost m) → DT H' v t.data → Grown m t → Q v H'
def spPrevW : Nat → Sp
  | 0 => fun _ _ _ _ => False
  | m + 1 => spWood m
section
variable {P : Program} {w : World} {K : PySem.W.Frag} {mg : Str → Option Value} {base : Heap}
theorem ok_wood_step (m : Nat) (m20 : m ≤ 20) {f : Addr} {fd : FuncData} (F : Fun K "_law_wood" "_law_wood" S__law_wood f fd) {f__law_draw : Addr} {fd__law_draw : FuncData} (G__law_draw : FnOk P w K mg base CX0 1 f__law_draw fd__law_draw ["well", "many"] spT) (g__law_draw : mg "_law_draw" = some (.ref f__law_draw)) (k__law_draw : PySem.W.keepIn K (.ref f__law_draw) = true) (b__law_draw : Binds K fd__law_draw ["well", "many"] []) {f__law_set : Addr} {fd__law_set : FuncData} (G__law_set : FnOk P w K mg base CX0 4 f__law_set fd__law_set ["well"] spSet) (g__law_set : mg "_law_set" = some (.ref f__law_set)) (k__law_set : PySem.W.keepIn K (.ref f__law_set) = true) (b__law_set : Binds K fd__law_set ["well"] []) {f__law_object : Addr} {fd__law_object : FuncData} (G__law_object : FnOk P w K mg base CX0 3 f__law_object fd__law_object ["well"] spObj) (g__law_object : mg "_law_object" = some (.ref f__law_object)) (k__law_object : PySem.W.keepIn K (.ref f__law_object) = true) (b__law_object : Binds K fd__law_object ["well"] []) {f__law_pick : Addr} {fd__law_pick : FuncData} (G__law_pick : FnOk P w K mg base CX0 2 f__law_pick fd__law_pick ["well", "some"] (spP K)) (g__law_pick : mg "_law_pick" = some (.ref f__law_pick)) (k__law_pick : PySem.W.keepIn K (.ref f__law_pick) = true) (b__law_pick : Binds K fd__law_pick ["well", "some"] []) (m_tuple : mg "tuple" = none) (m_range : mg "range" = none) (m_max : mg "max" = none) (m_int : mg "int" = none) (G__law_wood : FnOk P w K mg base CX0 (5 + m) f fd ["well", "deep"] (spPrevW m)) (g__law_wood : mg "_law_wood" = some (.ref f)) (k__law_wood : PySem.W.keepIn K (.ref f) = true) (b__law_wood : L2.Binds K fd ["well", "deep"] []) :
    FnOk P w K mg base CX0 (5 + m + 1) f fd ["well", "deep"] (spWood m) := by
  refine F.ok sc__law_wood (fun vs H Q E h => ?_) (fun cdv A outer s H vs Q E hr h => ?_)
  · obtain ⟨x, _, _, rfl, _⟩ := h
    rfl
  · obtain ⟨p, n, d, rfl, rfl, hp, hn, q⟩ := h
    have hu64 : (A.deeper (envOfC "_law_wood" (defScope S__law_wood) s.heap.objs.size f cdv)).units + 64 < cLine := by have := hr.un; omega
    refine ⟨_, pss_cons (ps_set (i := 2) sc__law_wood.nd rfl (.inl rfl) (pe_call G__law_draw (hr.mono (by omega)) (by rfl) g__law_draw k__law_draw b__law_draw .nil pass0 (pa_cons (pv 0) (pa_cons (pe_int) pa_nil))))
      (pss_cons (ps_if (PW.pt (pw_or (pt_cmpR op_lt (pv 1) (pe_int) (nomark _)) (pw_or1 (pt_cmpR op_lt (pv 2) (pe_int) (nomark _)))))
        (pss_one (ps_ret (pe_ifExp (pt_cmpR op_gt (pe_call G__law_draw (hr.mono (by omega)) (by rfl) g__law_draw k__law_draw b__law_draw .nil pass0 (pa_cons (pv 0) (pa_cons (pe_int) pa_nil))) (pe_int) (nomark _)) (pe_call G__law_set (hr.mono (by omega)) (by rfl) g__law_set k__law_set b__law_set .nil pass0 (pa_cons (pv 0) pa_nil)) (pe_tup (pa_cons (pe_str) (pa_cons (pe_call G__law_object (hr.mono (by omega)) (by rfl) g__law_object k__law_object b__law_object .nil pass0 (pa_cons (pv 0) pa_nil)) (pa_cons (pe_str) pa_nil)))))))
        (pss_nil))
      (pss_cons (ps_if (pt_cmpR op_eq (pv 2) (pe_int) (nomark _))
        (pss_one (ps_ret (pe_tup (pa_cons (pe_str) (pa_cons (pe_call G__law_wood (hr.mono (by omega)) (by rfl) g__law_wood k__law_wood b__law_wood .nil pass0 (pa_cons (pv 0) (pa_cons (pe_op op_sub (pv 1) (pe_int)) pa_nil))) (pa_cons (pe_call G__law_wood (hr.mono (by omega)) (by rfl) g__law_wood k__law_wood b__law_wood .nil pass0 (pa_cons (pv 0) (pa_cons (pe_op op_sub (pv 1) (pe_int)) pa_nil))) pa_nil))))))
        (pss_nil))
      (pss_cons (ps_if (pt_cmpR op_lt (pv 2) (pe_int) (nomark _))
        (pss_one (ps_ret (pe_tup (pa_cons (pe_str) (pa_cons (pe_call G__law_object (hr.mono (by omega)) (by rfl) g__law_object k__law_object b__law_object .nil pass0 (pa_cons (pv 0) pa_nil)) (pa_cons (pe_call G__law_pick (hr.mono (by omega)) (by rfl) g__law_pick k__law_pick b__law_pick .nil pass0 (pa_cons (pv 0) (pa_cons (pe_lst (pa_cons (pe_str) (pa_cons (pe_str) pa_nil))) pa_nil))) (pa_cons (pe_call G__law_wood (hr.mono (by omega)) (by rfl) g__law_wood k__law_wood b__law_wood .nil pass0 (pa_cons (pv 0) (pa_cons (pe_op op_sub (pv 1) (pe_int)) pa_nil))) pa_nil)))))))
        (pss_nil))
      (pss_cons (ps_set (i := 3) sc__law_wood.nd rfl (.inl rfl) (pe_ix (r := rIxL K) ix_list (pe_lst (pa_cons (pe_int) (pa_cons (pe_int) (pa_cons (pe_int) (pa_cons (pe_int) (pa_cons (pe_int) (pa_cons (pe_int) pa_nil))))))) (pe_call G__law_draw (hr.mono (by omega)) (by rfl) g__law_draw k__law_draw b__law_draw .nil pass0 (pa_cons (pv 0) (pa_cons (pe_int) pa_nil))) (fun _ _ => rfl)))
      (pss_cons (ps_set (i := 4) sc__law_wood.nd rfl (.inl rfl) (pe_callTy (r := rTupOf K) (call_tuple_of) (by rfl) m_tuple (by decide +kernel) (pa_cons (pe_lc (own := [("turn", 5)]) (g := (gName 5)) (tt := tYes) (by rfl) sc__law_wood.nd (pi_range1 (by rfl) m_range (pa_cons (pe_callB (call_max2 (by rfl)) (by rfl) m_max (by decide +kernel) (pa_cons (pv 3) (pa_cons (pe_callTy (call_int1) (by rfl) m_int (by decide +kernel) (pa_cons (pe_cmpR op_gt (pv 2) (pe_int) (nomark _)) pa_nil)) pa_nil))) pa_nil)) (blkOk_by (own := [("turn", 5)]) (N := ["well", "deep", "way", "many", "parts", "turn"]) (sc := defScope S__law_wood) (by decide +kernel)) (fun _ _ _ _ _ => pg_name (i := 5) sc__law_wood.nd rfl (.inl rfl)) (fun _ _ _ _ _ => pts_nil) (fun _ _ _ _ _ => pe_call G__law_wood (hr.mono (by omega)) (by rfl) g__law_wood k__law_wood b__law_wood .nil pass0 (pa_cons (pv 0) (pa_cons (pe_op op_sub (pv 1) (pe_int)) pa_nil)))) pa_nil)))
      (pss_one (ps_ret (pe_tup (pa_cons (pe_ifExp (PW.pt (pw_and (pt_cmpR op_gt (pv 2) (pe_int) (nomark _)) (pw_and1 (pt_cmpR (r := rNeD K) (op_neD hu64) (pv 4) (pe_tup pa_nil) (nomark _))))) (pe_str) (pe_str)) (pa_cons (pv 4) pa_nil)))))))))), ?_⟩
    have c0 := cost_ge m
    walk_at "rd"
    intro r H1 r0 r1 b1 hp1
    cases m with
    | zero =>
      walk_at "rd"
      intro r2 H2 ra rb b2 hp2
      walk_at "rd"
      refine iteB (fun c => ?_) (fun c => ?_)
      · walk_at "rd"
        intro v ss H3 b3 hp3 g3 as pw
        exact q v (.set ss) H3 (b1.trans (b2.trans b3)) (hp3.le (by omega)) g3 (grown_set.mpr ⟨as, pw⟩)
      · walk_at "rd"
        intro v k i H3 b3 hp3 g3 hk hi
        walk_at "rd"
        intro t1 ht1
        exact q _ (.ring k i "own") _ (b1.trans (b2.trans (b3.trans (But.new ht1)))) ((Src.new hp3 ht1).le (by omega)) (by rw [T.data]; exact DT.laid ht1 (.cons (.str _) (.cons g3 (.cons (.str _) .nil)))) (grown_ring.mpr ⟨hk, hi, rfl⟩)
    | succ m =>
      have hc : cost (m + 1) = 30 + 3 * cost m := rfl
      have hd : decide (((m + 1 : Nat) : Int) < 1) = false := decide_eq_false (by omega)
      walk_at "rd"
      refine iteB (fun c => ?_) (fun c => ?_)
      · walk_at "rd"
        intro r2 H2 ra rb b2 hp2
        walk_at "rd"
        refine iteB (fun c => ?_) (fun c => ?_)
        · walk_at "rd"
          intro v ss H3 b3 hp3 g3 as pw
          exact q v (.set ss) H3 (b1.trans (b2.trans b3)) (hp3.le (by omega)) g3 (grown_set.mpr ⟨as, pw⟩)
        · walk_at "rd"
          intro v k i H3 b3 hp3 g3 hk hi
          walk_at "rd"
          intro t1 ht1
          exact q _ (.ring k i "own") _ (b1.trans (b2.trans (b3.trans (But.new ht1)))) ((Src.new hp3 ht1).le (by omega)) (by rw [T.data]; exact DT.laid ht1 (.cons (.str _) (.cons g3 (.cons (.str _) .nil)))) (grown_ring.mpr ⟨hk, hi, rfl⟩)
      walk_at "rd"
      refine iteB (fun c => ?_) (fun c => ?_)
      · walk_at "rd"
        intro va ta H2 b2 hp2 ga gra
        walk_at "rd"
        intro vb tb H3 b3 hp3 gb grb
        walk_at "rd"
        intro t1 ht1
        exact q _ (.but ta tb) _ (b1.trans (b2.trans (b3.trans (But.new ht1)))) ((Src.new hp3 ht1).le (by omega)) (by rw [T.data]; exact DT.laid ht1 (.cons (.str _) (.cons (ga.keep (b3.tups hp2)) (.cons gb .nil)))) ⟨gra, grb⟩
      walk_at "rd"
      refine iteB (fun c => ?_) (fun c => ?_)
      · walk_at "rd"
        intro v k i H2 b2 hp2 g2 hk hi
        walk_at "rd"
        intro l hl
        have n1 := (Src.ne hp2 hl).symm
        walk_at "rd"
        intro vr hvr H3 b3 hp3
        have b3' := (But.new (p := p) hl).trans b3
        obtain ⟨rr, hrr, rfl⟩ : ∃ rr : Str, (rr = "own" ∨ rr = "see") ∧ vr = .str rr := by
          simp only [List.mem_cons, List.not_mem_nil, or_false] at hvr
          rcases hvr with rfl | rfl
          · exact ⟨_, .inl rfl, rfl⟩
          · exact ⟨_, .inr rfl, rfl⟩
        walk_at "rd"
        intro vt t H4 b4 hp4 g4 gr
        walk_at "rd"
        intro t1 ht1
        exact q _ (.opn k i rr t) _ (b1.trans (b2.trans (b3'.trans (b4.trans (But.new ht1))))) ((Src.new hp4 ht1).le (by omega))
          (by rw [T.data]; exact DT.laid ht1 (.cons (.str _) (.cons ((g2.keep (b3'.tups hp2)).keep (b4.tups hp3)) (.cons (.str _) (.cons g4 .nil))))) ⟨hk, hi, hrr, gr⟩
      walk_at "rd"
      intro l hl
      have n1 := (Src.ne hp1 hl).symm
      walk_at "rd"
      intro r6 H2 ra rb b2 hp2
      have b2' := (But.new (p := p) hl).trans b2
      have hl2 := b2 _ _ n1 upd_same
      obtain ⟨mm, hmm, e6⟩ : ∃ mm : Nat, mm ≤ 3 ∧ atI [V.int 0, .int 1, .int 2, .int 3, .int 2, .int 1] r6 = some (.int (mm : Int)) := by
        have : r6 = 0 ∨ r6 = 1 ∨ r6 = 2 ∨ r6 = 3 ∨ r6 = 4 ∨ r6 = 5 := by omega
        rcases this with rfl | rfl | rfl | rfl | rfl | rfl
        · exact ⟨0, by decide, rfl⟩
        · exact ⟨1, by decide, rfl⟩
        · exact ⟨2, by decide, rfl⟩
        · exact ⟨3, by decide, rfl⟩
        · exact ⟨2, by decide, rfl⟩
        · exact ⟨1, by decide, rfl⟩
      walk_at "rd"
      generalize hcnt : (if (if decide (7 < r) = true then (1 : Int) else 0) > (mm : Int) then (if decide (7 < r) = true then (1 : Int) else 0) else (mm : Int)).toNat = cnt
      have hc3 : cnt ≤ 3 := by
        rw [← hcnt]
        by_cases h7 : 7 < r
        · simp only [decide_eq_true h7, if_true]
          split <;> omega
        · simp only [decide_eq_false h7, Bool.false_eq_true, if_false]
          split <;> omega
      intro D hD
      have nD := (Src.ne hp2 hD).symm
      refine lc_it (walk_range (lo := 0) (n := cnt)) (WoodsAt m H2 p D (n + 1 + 1)) ⟨But.new hD, by rw [Nat.zero_mul]; exact Src.new hp2 hD, [], [], upd_same, .nil, rfl, fun t z => by cases z⟩ (fun _ _ _ _ => True.intro) ?_ ?_
      · rintro i x H3 H4 hi ⟨b3, hp3, ts, ys, hy, dy, tl, gs⟩ ⟨rfl, rfl⟩
        have ic : i * cost m ≤ 2 * cost m := Nat.mul_le_mul_right _ (by omega)
        walk_at "rd"
        intro v t H5 b5 hp5 g5 gr
        have hy5 := b5 _ _ nD hy
        have ly : ys.length < 1000 := by rw [dy.length, datas_map, List.length_map]; omega
        refine ⟨ys, hy5, small1000 (by omega), ⟨fun b o nb z => ?_, Src.upd (hp5.le (by rw [Nat.add_mul]; omega)) nD, ts ++ [t], ys ++ [v], upd_same, ?_, by simp [tl], fun y my => ?_⟩⟩
        · rw [upd_ne (ne_of_none z hD)]
          exact b5 _ _ nb (b3 _ _ nb z)
        · rw [datas_map, List.map_append, ← datas_map]
          exact ((dy.keep (b5.tups hp3)).keep (tups_lst hy5)).append (.cons (g5.keep (tups_lst hy5)) .nil)
        · rcases List.mem_append.mp my with my | my
          · exact gs y my
          · simp only [List.mem_singleton] at my
            subst my
            exact gr
      · rintro H3 ⟨b3, hp3, ts, ys, hy, dy, tl, gs⟩
        have ic : cnt * cost m ≤ 3 * cost m := Nat.mul_le_mul_right _ hc3
        walk_at "rd"
        refine .inl ⟨SqL.of hy, fun t1 ht1 => ?_⟩
        have dt1 : DT (upd H3 t1 (.tup ys)) (.ref t1) (.tuple (datas ts)) := DT.laid ht1 dy
        have hp4 := Src.new (o := .tup ys) hp3 ht1
        have shp : SeqAt.shaped (.tuple (datas ts)) = true := by
          obtain ⟨a, b⟩ := lay_datas ts fun t m => grown_lay _ t (gs t m)
          unfold SeqAt.shaped
          simp only [PyData.canLay0, PyData.depth, a, Bool.true_and]
          exact decide_eq_true (by omega)
        have anyG : Grown (m + 1) (.any ts) := ⟨by omega, gs⟩
        walk_at "rd"
        refine iteB (fun c => ?_) (fun c => ?_)
        · walk_at "rd"
          intro te hte
          have dt2 := Same.dt (same_new (o := .tup []) hte) dt1
          have hp5 := Src.new (o := .tup []) hp4 hte
          refine ⟨_, _, dt2.dp, (DT.laid hte .nil).dp, shp, nilT_shaped, _, rfl, ?_⟩
          rw [eqv_nilT]
          refine iteB (fun c2 => ?_) (fun c2 => ?_)
          · have nts : ts ≠ [] := fun z => by
              rw [z] at c2
              simp [datas] at c2
            walk_at "rd"
            intro t2 ht2
            refine q _ (.both ts) _ (b1.trans (b2'.trans (b3.trans ((But.new ht1).trans ((But.new hte).trans (But.new ht2)))))) ((Src.new hp5 ht2).le (by omega)) (by rw [T.data]; exact DT.laid ht2 (.cons (.str _) (.cons (dt2) .nil))) ⟨nts, by omega, gs⟩
          · walk_at "rd"
            intro t2 ht2
            refine q _ (.any ts) _ (b1.trans (b2'.trans (b3.trans ((But.new ht1).trans ((But.new hte).trans (But.new ht2)))))) ((Src.new hp5 ht2).le (by omega)) (by rw [T.data]; exact DT.laid ht2 (.cons (.str _) (.cons (dt2) .nil))) anyG
        · walk_at "rd"
          intro t2 ht2
          refine q _ (.any ts) _ (b1.trans (b2'.trans (b3.trans ((But.new ht1).trans (But.new ht2))))) ((Src.new hp4 ht2).le (by omega)) (by rw [T.data]; exact DT.laid ht2 (.cons (.str _) (.cons (dt1) .nil))) anyG
end
end Wood

set_option maxHeartbeats 8000000
namespace Wood
open PySem PySem.Spec PyProof.Rows L2 Gen LamX NdefX
local macro_rules | `(tactic| walk_at "sz") => `(tactic| first | assumption | omega | (simp only [List.length_map, List.length_append, List.length_cons, List.length_nil, List.length_reverse] at *; omega))
local macro_rules | `(tactic| walk_at "hq") => `(tactic| first | assumption | exact upd_same | (refine same_new (by assumption) _ _ ?_; walk_at "hq") | (refine (show Same _ _ by assumption) _ _ ?_; walk_at "hq") | (refine (upd_ne (by assumption)).trans ?_; walk_at "hq"))
local macro_rules | `(tactic| walk_at "ty") => `(tactic| first | exact .base (.int _) | exact .base (.str _) | exact .base (.bl _) | exact .base .non | (apply TyX.base; apply TyOf.tup; walk_at "hq") | (apply TyX.base; apply TyOf.lst; walk_at "hq"))
local macro_rules | `(tactic| walk_at "dt") => `(tactic| first | assumption | exact DT.str _ | exact DT.int _ | exact DT.bl _ | exact DT.non | (refine Same.dt (same_new (by assumption)) ?_; walk_at "dt") | (refine Same.dt (by assumption) ?_; walk_at "dt"))
local macro_rules | `(tactic| walk_at "at") => `(tactic| first | with_reducible rfl | rfl | assumption | (show _ = some _; walk_at "hq") | (apply SqT.of; walk_at "hq") | (apply SqL.of; walk_at "hq") | (apply Or.inl; apply SqL.of; walk_at "hq") | (apply Or.inr; apply SqT.of; walk_at "hq") | (apply Or.inl; apply SqT.of; walk_at "hq") | (apply Or.inr; apply SqL.of; walk_at "hq") | exact atI_nat (j := 0) rfl | exact atI_nat (j := 1) rfl | exact atI_nat (j := 2) rfl | exact atI_nat (j := 3) rfl | exact .ty _ | exact .int _ | exact .str _ | exact .bl _ | exact ClsV.ty _ | walk_at "ty" | exact kit_ty (by decide +kernel) | exact True.intro | (show tyV _ _ _ _; exact .inl ⟨rfl, _, SqL.of (by walk_at "hq")⟩) | (show TruV _ _ _ _; first | exact .inl ⟨_, SqL.of (by walk_at "hq"), rfl⟩ | exact .inr (.inl ⟨_, SqT.of (by walk_at "hq"), rfl⟩)) | (show DT _ _ _; walk_at "dt") | (apply DT.dp; walk_at "dt") | (apply Exists.intro; apply SqT.of; walk_at "hq") | (apply Exists.intro; apply SqL.of; walk_at "hq") | (show _ ≤ sizeLine; decide) | omega | (refine small1000 ?_; walk_at "sz") | (refine le1000 ?_; walk_at "sz"))
local macro_rules | `(tactic| walk_at "ite") => `(tactic| refine iteB (fun c => ?_) (fun c => ?_))
local macro_rules | `(tactic| walk_at "rd") => `(tactic| repeat (walk_at "st"))
local macro_rules | `(tactic| walk_at "sr") => `(tactic| first | assumption | (apply Src.new; (focus (walk_at "sr")); (focus assumption)) | (apply Src.same; (focus (walk_at "sr")); (focus assumption)))
local macro_rules | `(tactic| walk_at "ar") => `(tactic| first | (show Src _ _ _; walk_at "sr") | (show ((_ : Nat) < _); first | omega | decide | (simp only [List.length_cons, List.length_nil]; omega)) | (show ((_ : Int) < _); first | omega | decide) | (apply Or.inl; assumption) | (apply Or.inr; assumption) | (show ¬ _; simp only [List.length_cons, List.length_nil]; decide) | (show CMul _ _; first | exact .inl ⟨by omega, by omega⟩ | exact .inr ⟨by omega, by omega⟩ | exact .inl ⟨by decide, by decide⟩ | exact .inr ⟨by decide, by decide⟩) | (show CDiv _ _; exact ⟨by omega, by omega⟩) | (show CDiv _ _; exact ⟨by decide, by decide⟩) | (show CDivW _ _; exact wide_div (b := 40) (by omega) (by omega) (by decide) (by decide)) | (show CPow _ _; exact ⟨by decide, by decide, by decide⟩) | (show (0 : Int) < _; omega) | (show (0 : Int) < _; decide))
local macro_rules | `(tactic| walk_at "st") => `(tactic| first | (apply Exists.intro) | (apply And.intro; focus (first | walk_at "ar" | walk_at "at"; done)) | (refine iteT ?_) | (refine iteF ?_) | (refine iteY (by assumption) ?_) | (refine iteN (by assumption) ?_) | (refine iteY (decide_eq_true ?_) ?_; focus (first | assumption | omega)) | (refine iteN (decide_eq_false ?_) ?_; focus (first | assumption | omega)) | (refine (show (∃ _ : Int, _) ∨ (∃ _ : Bool, _) from Or.inl ⟨_, rfl, ?_⟩)) | (refine (show (∃ _ : Int, _) ∨ (∃ _ : Bool, _) from Or.inr ⟨_, rfl, ?_⟩)))
local macro_rules | `(tactic| walk_at "sm") => `(tactic| first | exact (fun _ _ h => h) | assumption | (refine Same.trans ?_ (same_new (by assumption)); walk_at "sm") | (refine Same.trans ?_ (show Same _ _ by assumption); walk_at "sm"))
local macro_rules | `(tactic| walk_at "ri") => `(tactic| repeat (first | walk_at "st" | refine fun (_ : Addr) (_ : _ = none) => ?_))
section
variable {P : Program} {w : World} {K : PySem.W.Frag} {mg : Str → Option Value} {base : Heap}
theorem ok_wood {f : Addr} {fd : FuncData} (F : Fun K "_law_wood" "_law_wood" S__law_wood f fd) {f__law_draw : Addr} {fd__law_draw : FuncData} (G__law_draw : FnOk P w K mg base CX0 1 f__law_draw fd__law_draw ["well", "many"] spT) (g__law_draw : mg "_law_draw" = some (.ref f__law_draw)) (k__law_draw : PySem.W.keepIn K (.ref f__law_draw) = true) (b__law_draw : Binds K fd__law_draw ["well", "many"] []) {f__law_set : Addr} {fd__law_set : FuncData} (G__law_set : FnOk P w K mg base CX0 4 f__law_set fd__law_set ["well"] spSet) (g__law_set : mg "_law_set" = some (.ref f__law_set)) (k__law_set : PySem.W.keepIn K (.ref f__law_set) = true) (b__law_set : Binds K fd__law_set ["well"] []) {f__law_object : Addr} {fd__law_object : FuncData} (G__law_object : FnOk P w K mg base CX0 3 f__law_object fd__law_object ["well"] spObj) (g__law_object : mg "_law_object" = some (.ref f__law_object)) (k__law_object : PySem.W.keepIn K (.ref f__law_object) = true) (b__law_object : Binds K fd__law_object ["well"] []) {f__law_pick : Addr} {fd__law_pick : FuncData} (G__law_pick : FnOk P w K mg base CX0 2 f__law_pick fd__law_pick ["well", "some"] (spP K)) (g__law_pick : mg "_law_pick" = some (.ref f__law_pick)) (k__law_pick : PySem.W.keepIn K (.ref f__law_pick) = true) (b__law_pick : Binds K fd__law_pick ["well", "some"] []) (m_tuple : mg "tuple" = none) (m_range : mg "range" = none) (m_max : mg "max" = none) (m_int : mg "int" = none) (g__law_wood : mg "_law_wood" = some (.ref f)) (k__law_wood : PySem.W.keepIn K (.ref f) = true) (b__law_wood : L2.Binds K fd ["well", "deep"] []) :
    ∀ m, m ≤ 20 → FnOk P w K mg base CX0 (5 + m + 1) f fd ["well", "deep"] (spWood m)
  | 0, h => ok_wood_step 0 h F G__law_draw g__law_draw k__law_draw b__law_draw G__law_set g__law_set k__law_set b__law_set G__law_object g__law_object k__law_object b__law_object G__law_pick g__law_pick k__law_pick b__law_pick m_tuple m_range m_max m_int (F.ok sc__law_wood (fun _ _ _ _ z => False.elim z) (fun _ _ _ _ _ _ _ _ _ z => False.elim z)) g__law_wood k__law_wood b__law_wood
  | m + 1, h => ok_wood_step (m + 1) h F G__law_draw g__law_draw k__law_draw b__law_draw G__law_set g__law_set k__law_set b__law_set G__law_object g__law_object k__law_object b__law_object G__law_pick g__law_pick k__law_pick b__law_pick m_tuple m_range m_max m_int (ok_wood F G__law_draw g__law_draw k__law_draw b__law_draw G__law_set g__law_set k__law_set b__law_set G__law_object g__law_object k__law_object b__law_object G__law_pick g__law_pick k__law_pick b__law_pick m_tuple m_range m_max m_int g__law_wood k__law_wood b__law_wood m (by omega)) g__law_wood k__law_wood b__law_wood
end
abbrev S__law_inner : Stmt := top 32
theorem sc__law_inner : FnScope ["bough"] ["bough"] (defScope S__law_inner) := ⟨rfl, rfl, rfl, by decide +kernel, rfl, by decide +kernel, by decide +kernel⟩
def kA : Key := .inr "any"
def kB : Key := .inr "both"
def kC : Key := .inr "but"
def kD : Key := .inr "open"
theorem merge4 (a b c d : V) : mergeK [] [(kA, a), (kB, b), (kC, c), (kD, d)] = [(kA, a), (kB, b), (kC, c), (kD, d)] := rfl
theorem val4 (a b c d : V) : valV [(kA, a), (kB, b), (kC, c), (kD, d)] kA = some a ∧ valV [(kA, a), (kB, b), (kC, c), (kD, d)] kB = some b
    ∧ valV [(kA, a), (kB, b), (kC, c), (kD, d)] kC = some c ∧ valV [(kA, a), (kB, b), (kC, c), (kD, d)] kD = some d
    ∧ valV [(kA, a), (kB, b), (kC, c), (kD, d)] (Sum.inr "set") = none ∧ valV [(kA, a), (kB, b), (kC, c), (kD, d)] (Sum.inr "ring") = none := ⟨rfl, rfl, rfl, rfl, rfl, rfl⟩
def spInner : Sp := fun vs H Q _ => ∃ (v : V) (t : T), vs = [v] ∧ DT H v t.data ∧ ∀ u H', Same H H' → DT H' u (.tuple (datas (inner t))) → Q u H'
section
variable {P : Program} {w : World} {K : PySem.W.Frag} {mg : Str → Option Value} {base : Heap}
theorem ok__law_inner  {f : Addr} {fd : FuncData} (F : Fun K "_law_inner" "_law_inner" S__law_inner f fd)   : FnOk P w K mg base CX0 1 f fd ["bough"] spInner := by
  refine F.ok sc__law_inner (fun vs H Q E h => ?_) (fun cdv A outer s H vs Q E hr h => ?_)
  · obtain ⟨x, _, rfl, _⟩ := h; rfl
  · obtain ⟨v, t, rfl, hv, q⟩ := h
    have hu1 : (A.deeper (envOfC "_law_inner" (defScope S__law_inner) s.heap.objs.size f cdv)).units + 1 < cLine := by have := hr.un; omega
    refine ⟨_, pss_one (ps_ret (pe_ix (r := rIxT K) ix_tup (pe_dget2 hu1 (pe_disp (pps_cons (pe_str) (pe_slice (r := rSlT K) sl_tup (pv 0) (po_some (pe_int)) (po_some (pe_int))) (pps_cons (pe_str) (pe_slice (r := rSlT K) sl_tup (pv 0) (po_some (pe_int)) (po_some (pe_int))) (pps_cons (pe_str) (pe_tup (pa_cons (pe_slice (r := rSlT K) sl_tup (pv 0) (po_some (pe_int)) po_none) pa_nil)) (pps_cons (pe_str) (pe_tup (pa_cons (pe_slice (r := rSlT K) sl_tup (pv 0) (po_some (pe_int)) po_none) pa_nil)) pps_nil)))) (by rfl) (by rfl) (fun z => by cases z) (by decide)) (pe_ix (r := rIxT K) ix_tup (pv 0) (pe_int) (fun _ _ => rfl)) (pe_tup (pa_cons (pe_tup pa_nil) pa_nil)) ⟨by rfl, by rfl, by rfl, by rfl⟩) (pe_int) (fun _ _ => rfl))), ?_⟩
    cases t with
    | any ps =>
      rw [T.data] at hv
      obtain ⟨p, x1, x2, rfl, hp, w1, w2⟩ := DT.two_inv hv
      obtain rfl := w1.str_inv
      walk_at "ri"
      rename_i dA hA s1 hs1 s2 hs2 s3 hs3 t3 ht3 s4 hs4 t4 ht4
      refine ⟨show _ = List.map (fun kv : Key × V => (kV kv.1, kv.2)) [(kA, _), (kB, _), (kC, _), (kD, _)] from rfl, by show 4 ≤ 15; decide, ?_⟩
      rw [merge4]
      refine ⟨_, rfl, .inl ⟨_, .inl upd_same⟩, ?_⟩
      have n0 : p ≠ dA := ne_of_none hp hA
      have n1 : s1 ≠ dA := (ne_of_none upd_same hs1).symm
      have n2 : s2 ≠ dA := (ne_of_none (same_new hs1 _ _ upd_same) hs2).symm
      have n3 : s3 ≠ dA := (ne_of_none (same_new hs2 _ _ (same_new hs1 _ _ upd_same)) hs3).symm
      have m3 : t3 ≠ dA := (ne_of_none (same_new hs3 _ _ (same_new hs2 _ _ (same_new hs1 _ _ upd_same))) ht3).symm
      have n4 : s4 ≠ dA := (ne_of_none (same_new ht3 _ _ (same_new hs3 _ _ (same_new hs2 _ _ (same_new hs1 _ _ upd_same)))) hs4).symm
      have m4 : t4 ≠ dA := (ne_of_none (same_new hs4 _ _ (same_new ht3 _ _ (same_new hs3 _ _ (same_new hs2 _ _ (same_new hs1 _ _ upd_same))))) ht4).symm
      walk_at "ri"
      rename_i e1 he1 e2 he2
      refine ⟨DGet.k (k := kA) (same_new he2 _ _ (same_new he1 _ _ upd_same)), ?_⟩
      rw [(val4 _ _ _ _).1]
      walk_at "ri"
      refine q _ _ (fun b o z => ?_) ?_
      · have nb : b ≠ dA := ne_of_none z hA
        walk_at "hq"
      · exact w2.keep (fun b xs z => by have nb : b ≠ dA := ne_of_none z hA; walk_at "hq")
    | both ps =>
      rw [T.data] at hv
      obtain ⟨p, x1, x2, rfl, hp, w1, w2⟩ := DT.two_inv hv
      obtain rfl := w1.str_inv
      walk_at "ri"
      rename_i dA hA s1 hs1 s2 hs2 s3 hs3 t3 ht3 s4 hs4 t4 ht4
      refine ⟨show _ = List.map (fun kv : Key × V => (kV kv.1, kv.2)) [(kA, _), (kB, _), (kC, _), (kD, _)] from rfl, by show 4 ≤ 15; decide, ?_⟩
      rw [merge4]
      refine ⟨_, rfl, .inl ⟨_, .inl upd_same⟩, ?_⟩
      have n0 : p ≠ dA := ne_of_none hp hA
      have n1 : s1 ≠ dA := (ne_of_none upd_same hs1).symm
      have n2 : s2 ≠ dA := (ne_of_none (same_new hs1 _ _ upd_same) hs2).symm
      have n3 : s3 ≠ dA := (ne_of_none (same_new hs2 _ _ (same_new hs1 _ _ upd_same)) hs3).symm
      have m3 : t3 ≠ dA := (ne_of_none (same_new hs3 _ _ (same_new hs2 _ _ (same_new hs1 _ _ upd_same))) ht3).symm
      have n4 : s4 ≠ dA := (ne_of_none (same_new ht3 _ _ (same_new hs3 _ _ (same_new hs2 _ _ (same_new hs1 _ _ upd_same)))) hs4).symm
      have m4 : t4 ≠ dA := (ne_of_none (same_new hs4 _ _ (same_new ht3 _ _ (same_new hs3 _ _ (same_new hs2 _ _ (same_new hs1 _ _ upd_same))))) ht4).symm
      walk_at "ri"
      rename_i e1 he1 e2 he2
      refine ⟨DGet.k (k := kB) (same_new he2 _ _ (same_new he1 _ _ upd_same)), ?_⟩
      rw [(val4 _ _ _ _).2.1]
      walk_at "ri"
      refine q _ _ (fun b o z => ?_) ?_
      · have nb : b ≠ dA := ne_of_none z hA
        walk_at "hq"
      · exact w2.keep (fun b xs z => by have nb : b ≠ dA := ne_of_none z hA; walk_at "hq")
    | but ta tb =>
      rw [T.data] at hv
      obtain ⟨p, x1, x2, x3, rfl, hp, w1, w2, w3⟩ := DT.three_inv hv
      obtain rfl := w1.str_inv
      walk_at "ri"
      rename_i dA hA s1 hs1 s2 hs2 s3 hs3 t3 ht3 s4 hs4 t4 ht4
      refine ⟨show _ = List.map (fun kv : Key × V => (kV kv.1, kv.2)) [(kA, _), (kB, _), (kC, _), (kD, _)] from rfl, by show 4 ≤ 15; decide, ?_⟩
      rw [merge4]
      refine ⟨_, rfl, .inl ⟨_, .inl upd_same⟩, ?_⟩
      have n0 : p ≠ dA := ne_of_none hp hA
      have n1 : s1 ≠ dA := (ne_of_none upd_same hs1).symm
      have n2 : s2 ≠ dA := (ne_of_none (same_new hs1 _ _ upd_same) hs2).symm
      have n3 : s3 ≠ dA := (ne_of_none (same_new hs2 _ _ (same_new hs1 _ _ upd_same)) hs3).symm
      have m3 : t3 ≠ dA := (ne_of_none (same_new hs3 _ _ (same_new hs2 _ _ (same_new hs1 _ _ upd_same))) ht3).symm
      have n4 : s4 ≠ dA := (ne_of_none (same_new ht3 _ _ (same_new hs3 _ _ (same_new hs2 _ _ (same_new hs1 _ _ upd_same)))) hs4).symm
      have m4 : t4 ≠ dA := (ne_of_none (same_new hs4 _ _ (same_new ht3 _ _ (same_new hs3 _ _ (same_new hs2 _ _ (same_new hs1 _ _ upd_same))))) ht4).symm
      walk_at "ri"
      rename_i e1 he1 e2 he2
      refine ⟨DGet.k (k := kC) (same_new he2 _ _ (same_new he1 _ _ upd_same)), ?_⟩
      rw [(val4 _ _ _ _).2.2.1]
      walk_at "ri"
      refine q _ _ (fun b o z => ?_) ?_
      · have nb : b ≠ dA := ne_of_none z hA
        walk_at "hq"
      · rw [show datas (inner (T.but ta tb)) = [ta.data, tb.data] by simp [inner, datas]]; exact .tup (by walk_at "hq") (.cons (w2.keep (fun b xs z => by have nb : b ≠ dA := ne_of_none z hA; walk_at "hq")) (.cons (w3.keep (fun b xs z => by have nb : b ≠ dA := ne_of_none z hA; walk_at "hq")) .nil))
    | opn k n r t =>
      rw [T.data] at hv
      obtain ⟨p, x1, x2, x3, x4, rfl, hp, w1, w2, w3, w4⟩ := DT.four_inv hv
      obtain rfl := w1.str_inv
      walk_at "ri"
      rename_i dA hA s1 hs1 s2 hs2 s3 hs3 t3 ht3 s4 hs4 t4 ht4
      refine ⟨show _ = List.map (fun kv : Key × V => (kV kv.1, kv.2)) [(kA, _), (kB, _), (kC, _), (kD, _)] from rfl, by show 4 ≤ 15; decide, ?_⟩
      rw [merge4]
      refine ⟨_, rfl, .inl ⟨_, .inl upd_same⟩, ?_⟩
      have n0 : p ≠ dA := ne_of_none hp hA
      have n1 : s1 ≠ dA := (ne_of_none upd_same hs1).symm
      have n2 : s2 ≠ dA := (ne_of_none (same_new hs1 _ _ upd_same) hs2).symm
      have n3 : s3 ≠ dA := (ne_of_none (same_new hs2 _ _ (same_new hs1 _ _ upd_same)) hs3).symm
      have m3 : t3 ≠ dA := (ne_of_none (same_new hs3 _ _ (same_new hs2 _ _ (same_new hs1 _ _ upd_same))) ht3).symm
      have n4 : s4 ≠ dA := (ne_of_none (same_new ht3 _ _ (same_new hs3 _ _ (same_new hs2 _ _ (same_new hs1 _ _ upd_same)))) hs4).symm
      have m4 : t4 ≠ dA := (ne_of_none (same_new hs4 _ _ (same_new ht3 _ _ (same_new hs3 _ _ (same_new hs2 _ _ (same_new hs1 _ _ upd_same))))) ht4).symm
      walk_at "ri"
      rename_i e1 he1 e2 he2
      refine ⟨DGet.k (k := kD) (same_new he2 _ _ (same_new he1 _ _ upd_same)), ?_⟩
      rw [(val4 _ _ _ _).2.2.2.1]
      walk_at "ri"
      refine q _ _ (fun b o z => ?_) ?_
      · have nb : b ≠ dA := ne_of_none z hA
        walk_at "hq"
      · rw [show datas (inner (T.opn k n r t)) = [t.data] by simp [inner, datas]]; exact .tup (by walk_at "hq") (.cons (w4.keep (fun b xs z => by have nb : b ≠ dA := ne_of_none z hA; walk_at "hq")) .nil)
    | set ss =>
      rw [T.data] at hv
      obtain ⟨p, x1, x2, rfl, hp, w1, w2⟩ := DT.two_inv hv
      obtain rfl := w1.str_inv
      walk_at "ri"
      rename_i dA hA s1 hs1 s2 hs2 s3 hs3 t3 ht3 s4 hs4 t4 ht4
      refine ⟨show _ = List.map (fun kv : Key × V => (kV kv.1, kv.2)) [(kA, _), (kB, _), (kC, _), (kD, _)] from rfl, by show 4 ≤ 15; decide, ?_⟩
      rw [merge4]
      refine ⟨_, rfl, .inl ⟨_, .inl upd_same⟩, ?_⟩
      have n0 : p ≠ dA := ne_of_none hp hA
      have n1 : s1 ≠ dA := (ne_of_none upd_same hs1).symm
      have n2 : s2 ≠ dA := (ne_of_none (same_new hs1 _ _ upd_same) hs2).symm
      have n3 : s3 ≠ dA := (ne_of_none (same_new hs2 _ _ (same_new hs1 _ _ upd_same)) hs3).symm
      have m3 : t3 ≠ dA := (ne_of_none (same_new hs3 _ _ (same_new hs2 _ _ (same_new hs1 _ _ upd_same))) ht3).symm
      have n4 : s4 ≠ dA := (ne_of_none (same_new ht3 _ _ (same_new hs3 _ _ (same_new hs2 _ _ (same_new hs1 _ _ upd_same)))) hs4).symm
      have m4 : t4 ≠ dA := (ne_of_none (same_new hs4 _ _ (same_new ht3 _ _ (same_new hs3 _ _ (same_new hs2 _ _ (same_new hs1 _ _ upd_same))))) ht4).symm
      walk_at "ri"
      rename_i e1 he1 e2 he2
      refine ⟨DGet.k (k := Sum.inr "set") (same_new he2 _ _ (same_new he1 _ _ upd_same)), ?_⟩
      rw [(val4 _ _ _ _).2.2.2.2.1]
      walk_at "ri"
      refine q _ _ (fun b o z => ?_) ?_
      · have nb : b ≠ dA := ne_of_none z hA
        walk_at "hq"
      · rw [show datas (inner (T.set ss)) = [] by simp [inner, datas]]; exact .tup (by walk_at "hq") .nil
    | ring k n r =>
      rw [T.data] at hv
      obtain ⟨p, x1, x2, x3, rfl, hp, w1, w2, w3⟩ := DT.three_inv hv
      obtain rfl := w1.str_inv
      walk_at "ri"
      rename_i dA hA s1 hs1 s2 hs2 s3 hs3 t3 ht3 s4 hs4 t4 ht4
      refine ⟨show _ = List.map (fun kv : Key × V => (kV kv.1, kv.2)) [(kA, _), (kB, _), (kC, _), (kD, _)] from rfl, by show 4 ≤ 15; decide, ?_⟩
      rw [merge4]
      refine ⟨_, rfl, .inl ⟨_, .inl upd_same⟩, ?_⟩
      have n0 : p ≠ dA := ne_of_none hp hA
      have n1 : s1 ≠ dA := (ne_of_none upd_same hs1).symm
      have n2 : s2 ≠ dA := (ne_of_none (same_new hs1 _ _ upd_same) hs2).symm
      have n3 : s3 ≠ dA := (ne_of_none (same_new hs2 _ _ (same_new hs1 _ _ upd_same)) hs3).symm
      have m3 : t3 ≠ dA := (ne_of_none (same_new hs3 _ _ (same_new hs2 _ _ (same_new hs1 _ _ upd_same))) ht3).symm
      have n4 : s4 ≠ dA := (ne_of_none (same_new ht3 _ _ (same_new hs3 _ _ (same_new hs2 _ _ (same_new hs1 _ _ upd_same)))) hs4).symm
      have m4 : t4 ≠ dA := (ne_of_none (same_new hs4 _ _ (same_new ht3 _ _ (same_new hs3 _ _ (same_new hs2 _ _ (same_new hs1 _ _ upd_same))))) ht4).symm
      walk_at "ri"
      rename_i e1 he1 e2 he2
      refine ⟨DGet.k (k := Sum.inr "ring") (same_new he2 _ _ (same_new he1 _ _ upd_same)), ?_⟩
      rw [(val4 _ _ _ _).2.2.2.2.2]
      walk_at "ri"
      refine q _ _ (fun b o z => ?_) ?_
      · have nb : b ≠ dA := ne_of_none z hA
        walk_at "hq"
      · rw [show datas (inner (T.ring k n r)) = [] by simp [inner, datas]]; exact .tup (by walk_at "hq") .nil

end

end Wood

set_option maxHeartbeats 8000000
namespace Wood
open PySem PySem.Spec PyProof.Rows L2 Gen LamX NdefX
local macro_rules | `(tactic| walk_at "sz") => `(tactic| first | assumption | omega | (simp only [List.length_map, List.length_append, List.length_cons, List.length_nil, List.length_reverse] at *; omega))
local macro_rules | `(tactic| walk_at "hq") => `(tactic| first | assumption | exact upd_same | (refine same_new (by assumption) _ _ ?_; walk_at "hq") | (refine (show Same _ _ by assumption) _ _ ?_; walk_at "hq") | (refine (upd_ne (by assumption)).trans ?_; walk_at "hq"))
local macro_rules | `(tactic| walk_at "ty") => `(tactic| first | exact .base (.int _) | exact .base (.str _) | exact .base (.bl _) | exact .base .non | (apply TyX.base; apply TyOf.tup; walk_at "hq") | (apply TyX.base; apply TyOf.lst; walk_at "hq"))
local macro_rules | `(tactic| walk_at "dt") => `(tactic| first | assumption | exact DT.str _ | exact DT.int _ | exact DT.bl _ | exact DT.non | (refine Same.dt (same_new (by assumption)) ?_; walk_at "dt") | (refine Same.dt (by assumption) ?_; walk_at "dt"))
local macro_rules | `(tactic| walk_at "at") => `(tactic| first | with_reducible rfl | rfl | assumption | (show _ = some _; walk_at "hq") | (apply SqT.of; walk_at "hq") | (apply SqL.of; walk_at "hq") | (apply Or.inl; apply SqL.of; walk_at "hq") | (apply Or.inr; apply SqT.of; walk_at "hq") | (apply Or.inl; apply SqT.of; walk_at "hq") | (apply Or.inr; apply SqL.of; walk_at "hq") | exact atI_nat (j := 0) rfl | exact atI_nat (j := 1) rfl | exact atI_nat (j := 2) rfl | exact atI_nat (j := 3) rfl | exact .ty _ | exact .int _ | exact .str _ | exact .bl _ | exact ClsV.ty _ | walk_at "ty" | exact kit_ty (by decide +kernel) | exact True.intro | (show tyV _ _ _ _; exact .inl ⟨rfl, _, SqL.of (by walk_at "hq")⟩) | (show TruV _ _ _ _; first | exact .inl ⟨_, SqL.of (by walk_at "hq"), rfl⟩ | exact .inr (.inl ⟨_, SqT.of (by walk_at "hq"), rfl⟩)) | (show DT _ _ _; walk_at "dt") | (apply DT.dp; walk_at "dt") | (apply Exists.intro; apply SqT.of; walk_at "hq") | (apply Exists.intro; apply SqL.of; walk_at "hq") | (show _ ≤ sizeLine; decide) | omega | (refine small1000 ?_; walk_at "sz") | (refine le1000 ?_; walk_at "sz"))
local macro_rules | `(tactic| walk_at "ite") => `(tactic| refine iteB (fun c => ?_) (fun c => ?_))
local macro_rules | `(tactic| walk_at "rd") => `(tactic| repeat (walk_at "st"))
local macro_rules | `(tactic| walk_at "sr") => `(tactic| first | assumption | (apply Src.new; (focus (walk_at "sr")); (focus assumption)) | (apply Src.same; (focus (walk_at "sr")); (focus assumption)))
local macro_rules | `(tactic| walk_at "ar") => `(tactic| first | (show Src _ _ _; walk_at "sr") | (show ((_ : Nat) < _); first | omega | decide | (simp only [List.length_cons, List.length_nil]; omega)) | (show ((_ : Int) < _); first | omega | decide) | (apply Or.inl; assumption) | (apply Or.inr; assumption) | (show ¬ _; simp only [List.length_cons, List.length_nil]; decide) | (show CMul _ _; first | exact .inl ⟨by omega, by omega⟩ | exact .inr ⟨by omega, by omega⟩ | exact .inl ⟨by decide, by decide⟩ | exact .inr ⟨by decide, by decide⟩) | (show CDiv _ _; exact ⟨by omega, by omega⟩) | (show CDiv _ _; exact ⟨by decide, by decide⟩) | (show CDivW _ _; exact wide_div (b := 40) (by omega) (by omega) (by decide) (by decide)) | (show CPow _ _; exact ⟨by decide, by decide, by decide⟩) | (show (0 : Int) < _; omega) | (show (0 : Int) < _; decide))
local macro_rules | `(tactic| walk_at "st") => `(tactic| first | (apply Exists.intro) | (apply And.intro; focus (first | walk_at "ar" | walk_at "at"; done)) | (refine iteT ?_) | (refine iteF ?_) | (refine iteY (by assumption) ?_) | (refine iteN (by assumption) ?_) | (refine iteY (decide_eq_true ?_) ?_; focus (first | assumption | omega)) | (refine iteN (decide_eq_false ?_) ?_; focus (first | assumption | omega)) | (refine (show (∃ _ : Int, _) ∨ (∃ _ : Bool, _) from Or.inl ⟨_, rfl, ?_⟩)) | (refine (show (∃ _ : Int, _) ∨ (∃ _ : Bool, _) from Or.inr ⟨_, rfl, ?_⟩)))
local macro_rules | `(tactic| walk_at "sm") => `(tactic| first | exact (fun _ _ h => h) | assumption | (refine Same.trans ?_ (same_new (by assumption)); walk_at "sm") | (refine Same.trans ?_ (show Same _ _ by assumption); walk_at "sm"))
local macro_rules | `(tactic| walk_at "ri") => `(tactic| repeat (first | walk_at "st" | refine fun (_ : Addr) (_ : _ = none) => ?_))
abbrev S__law_paths : Stmt := top 33
theorem sc__law_paths : FnScope ["bough", "found", "k", "part", "path", "other"] ["bough"] (defScope S__law_paths) := ⟨rfl, rfl, rfl, by decide +kernel, rfl, by decide +kernel, by decide +kernel⟩
/-- a row as the law has it -/
def rowP (r : List Nat × T) : PyData := .tuple [pathD r.1, r.2.data]
mutual
theorem pre_shift (q : List Nat) : ∀ (t : T) (p : List Nat), pre (q ++ p) t = (pre p t).map fun r => (q ++ r.1, r.2)
  | .set ss, p => by simp [pre]
  | .ring k n r, p => by simp [pre]
  | .any ps, p => by simp [pre, preL_shift q ps p 0]
  | .both ps, p => by simp [pre, preL_shift q ps p 0]
  | .but a b, p => by simp [pre, ← pre_shift q a, ← pre_shift q b]
  | .opn k n r t, p => by simp [pre, ← pre_shift q t]
theorem preL_shift (q : List Nat) : ∀ (ts : List T) (p : List Nat) (k : Nat), preL (q ++ p) k ts = (preL p k ts).map fun r => (q ++ r.1, r.2)
  | [], p, k => by simp [preL]
  | t :: ts, p, k => by simp [preL, ← pre_shift q t, preL_shift q ts p (k + 1)]
end
theorem preL_snoc (p : List Nat) : ∀ (ts : List T) (k : Nat) (t : T), preL p k (ts ++ [t]) = preL p k ts ++ pre (p ++ [k + ts.length]) t
  | [], k, t => by simp [preL]
  | x :: ts, k, t => by
    rw [List.cons_append, preL, preL_snoc p ts (k + 1) t, preL, List.append_assoc, List.length_cons]
    rw [show k + 1 + ts.length = k + (ts.length + 1) by omega]
theorem preL_take {ts : List T} {i : Nat} {t : T} (e : ts[i]? = some t) : preL [] 0 (ts.take (i + 1)) = preL [] 0 (ts.take i) ++ (pre [] t).map fun r => (i :: r.1, r.2) := by
  rw [take_get e, preL_snoc]
  congr 1
  have h : i < ts.length := (List.getElem?_eq_some_iff.mp e).1
  have e2 := pre_shift [i] t []
  rw [List.append_nil] at e2
  rw [List.length_take, Nat.min_eq_left (by omega), Nat.zero_add, List.nil_append, e2]
  rfl
/-- the rows found so far -/
structure PathsAt (H : Hp) (rs : List (List Nat × T)) (l : Addr) (H2 : Hp) : Prop where
  same : Same H H2
  found : ∃ xs, H2 l = some (.lst xs) ∧ DTs H2 xs (rs.map rowP)
mutual
theorem deep_le_size : ∀ t : T, deep t ≤ size t
  | .set _ => by simp [deep, size]
  | .ring _ _ _ => by simp [deep, size]
  | .any ps => by have := deeps_le_sizes ps; simp [deep, size]; omega
  | .both ps => by have := deeps_le_sizes ps; simp [deep, size]; omega
  | .but a b => by have := deep_le_size a; have := deep_le_size b; simp [deep, size]; omega
  | .opn _ _ _ t => by have := deep_le_size t; simp [deep, size]; omega
theorem deeps_le_sizes : ∀ ts : List T, deeps ts ≤ sizes ts
  | [] => by simp [deeps, sizes]
  | t :: ts => by have := deep_le_size t; have := deeps_le_sizes ts; simp [deeps, sizes]; omega
end
mutual
theorem pre_plen : ∀ (t : T) (p : List Nat), ∀ r ∈ pre p t, r.1.length < p.length + deep t
  | .set ss, p => fun r m => by rw [pre_eq] at m; simp [inner, preL] at m; subst m; simp [deep]
  | .ring k n r0, p => fun r m => by rw [pre_eq] at m; simp [inner, preL] at m; subst m; simp [deep]
  | .any ps, p => fun r m => by
    rw [pre] at m
    rcases List.mem_cons.mp m with rfl | m
    · simp [deep]; omega
    · have := preL_plen ps p 0 r m; simp [deep]; omega
  | .both ps, p => fun r m => by
    rw [pre] at m
    rcases List.mem_cons.mp m with rfl | m
    · simp [deep]; omega
    · have := preL_plen ps p 0 r m; simp [deep]; omega
  | .but a b, p => fun r m => by
    rw [pre] at m
    rcases List.mem_cons.mp m with rfl | m
    · simp [deep]; omega
    · rcases List.mem_append.mp m with m | m
      · have := pre_plen a _ r m; simp [deep] at this ⊢; omega
      · rw [List.append_nil] at m
        have := pre_plen b _ r m; simp [deep] at this ⊢; omega
  | .opn k n r0 t, p => fun r m => by
    rw [pre] at m
    rcases List.mem_cons.mp m with rfl | m
    · simp [deep]; omega
    · rw [List.append_nil] at m
      have := pre_plen t _ r m; simp [deep] at this ⊢; omega
theorem preL_plen : ∀ (ts : List T) (p : List Nat) (k : Nat), ∀ r ∈ preL p k ts, r.1.length < p.length + 1 + deeps ts
  | [], p, k => fun r m => by rw [preL] at m; cases m
  | t :: ts, p, k => fun r m => by
    rw [preL] at m
    rcases List.mem_append.mp m with m | m
    · have := pre_plen t _ r m; simp [deeps] at this ⊢; omega
    · have := preL_plen ts p _ r m; simp [deeps] at this ⊢; omega
end
theorem sizes_take : ∀ (ts : List T) (i : Nat), sizes (ts.take i) ≤ sizes ts
  | [], i => by simp
  | t :: ts, 0 => by simp [sizes]
  | t :: ts, i + 1 => by have := sizes_take ts i; simp [sizes]; omega
def spPaths (m : Nat) : Sp := fun vs H Q _ => ∃ (v : V) (t : T), vs = [v] ∧ DT H v t.data ∧ deep t ≤ m ∧ size t ≤ 900 ∧ ∀ l xs H', Same H H' → H' l = some (.lst xs) → DTs H' xs ((pre [] t).map rowP) → Q (.ref l) H'
def spPrevP : Nat → Sp
  | 0 => fun _ _ _ _ => False
  | m + 1 => spPaths m
section
variable {P : Program} {w : World} {K : PySem.W.Frag} {mg : Str → Option Value} {base : Heap}
theorem ok_paths_step (m : Nat) {f : Addr} {fd : FuncData} (F : Fun K "_law_paths" "_law_paths" S__law_paths f fd) (m_enumerate : mg "enumerate" = none) {f__law_inner : Addr} {fd__law_inner : FuncData} (G__law_inner : FnOk P w K mg base CX0 1 f__law_inner fd__law_inner ["bough"] spInner) (g__law_inner : mg "_law_inner" = some (.ref f__law_inner)) (k__law_inner : PySem.W.keepIn K (.ref f__law_inner) = true) (b__law_inner : Binds K fd__law_inner ["bough"] []) (G__law_paths : FnOk P w K mg base CX0 (1 + m) f fd ["bough"] (spPrevP m)) (g__law_paths : mg "_law_paths" = some (.ref f)) (k__law_paths : PySem.W.keepIn K (.ref f) = true) (b__law_paths : L2.Binds K fd ["bough"] []) :
    FnOk P w K mg base CX0 (1 + m + 1) f fd ["bough"] (spPaths m) := by
  refine F.ok sc__law_paths (fun vs H Q E h => ?_) (fun cdv A outer s H vs Q E hr h => ?_)
  · obtain ⟨x, _, rfl, _⟩ := h
    rfl
  · obtain ⟨v, t, rfl, hv, dp, sz, q⟩ := h
    have dq := deep_eq t
    obtain ⟨m, rfl⟩ : ∃ k, m = k + 1 := ⟨m - 1, by omega⟩
    refine ⟨_, pss_cons (ps_set (i := 1) sc__law_paths.nd rfl (.inl rfl) (pe_lst (pa_cons (pe_tup (pa_cons (pe_tup pa_nil) (pa_cons (pv 0) pa_nil))) pa_nil)))
      (pss_cons (ps_for PassesOwn.never rfl (pi_enumT (by rfl) m_enumerate (pa_cons (pe_call G__law_inner (hr.mono (by omega)) (by rfl) g__law_inner k__law_inner b__law_inner .nil pass0 (pa_cons (pv 0) pa_nil)) pa_nil)) (pg_tup (by rfl) (pgs_cons (pg_name (i := 2) sc__law_paths.nd rfl (.inr rfl)) (pgs_cons (pg_name (i := 3) sc__law_paths.nd rfl (.inl rfl)) pgs_nil)))
        (pss_one (ps_set (i := 1) sc__law_paths.nd rfl (.inl rfl) (pe_op op_cat (pv 1) (pe_lc (own := [("path", 4), ("other", 5)]) (g := (gTup K 2 (gCons (gName 4) (gCons (gName 5) gNil)))) (tt := tYes) (by rfl) sc__law_paths.nd (pi_list (pe_call G__law_paths (hr.mono (by omega)) (by rfl) g__law_paths k__law_paths b__law_paths .nil pass0 (pa_cons (pv 3) pa_nil))) (blkOk_by (own := [("path", 4), ("other", 5)]) (N := ["bough", "found", "k", "part", "path", "other"]) (sc := defScope S__law_paths) (by decide +kernel)) (fun _ _ _ _ _ => pg_tup (by rfl) (pgs_cons (pg_name (i := 4) sc__law_paths.nd rfl (.inl rfl)) (pgs_cons (pg_name (i := 5) sc__law_paths.nd rfl (.inl rfl)) pgs_nil))) (fun _ _ _ _ _ => pts_nil) (fun _ _ _ _ _ => pe_tup (pa_cons (pe_op (r := rCatT K) op_catT (pe_tup (pa_cons (pv 2) pa_nil)) (pv 4)) (pa_cons (pv 5) pa_nil))))))))
      (pss_one (ps_ret (pv 1)))), ?_⟩
    walk_at "rd"
    intro t1 ht1
    walk_at "rd"
    intro t2 ht2
    walk_at "rd"
    intro l0 hl0
    walk_at "rd"
    intro u H1 s1 du
    have S3 : Same H (upd (upd (upd H t1 (.tup [])) t2 (.tup [.ref t1, v])) l0 (.lst [.ref t2])) := (same_new ht1).trans ((same_new ht2).trans (same_new hl0))
    have hl1 : H1 l0 = some (.lst [.ref t2]) := s1 _ _ upd_same
    have d0 : DT H1 (.ref t2) (rowP ([], t)) := Same.dt ((same_new hl0).trans s1) (DT.laid ht2 (.cons (DT.laid ht1 .nil) (.cons (Same.dt (same_new ht1) hv) .nil)))
    obtain ⟨pu, us, rfl, hpu, dus⟩ := du.tup_inv
    have lu : us.length = (inner t).length := by rw [dus.length, datas_map, List.length_map]
    walk_at "rd"
    refine (for_it (walk_enumT (K := K) (a := pu) (xs := us)) (fun i σ H2 => ∃ l o2 o3 o4 o5, σ = [some v, some (.ref l), o2, o3, o4, o5] ∧ PathsAt H1 (([], t) :: preL [] 0 ((inner t).take i)) l H2)
      ⟨_, _, _, _, _, rfl, fun _ _ h => h, _, hl1, by rw [List.take_zero, preL]; exact .cons d0 .nil⟩ (fun i σ H2 _ ⟨_, _, _, _, _, _, h⟩ => SqT.of (h.same _ _ hpu)) ?_ ?_).choose_spec
    · rintro i x σ H2 H3 hi ⟨l, o2, o3, o4, o5, rfl, s2, ys, hy, dy⟩ ⟨T, x', y', rfl, hT, rfl, e1, e2⟩
      obtain rfl : V.int i = x' := Option.some.inj e1
      have s3 : Same H1 (upd H2 T (.tup [.int i, y'])) := s2.trans (same_new hT)
      obtain ⟨d, ed, gd⟩ := (Same.dts s3 dus).get e2
      rw [datas_map] at ed
      obtain ⟨c, ec, rfl⟩ := map_get ed
      have dc := deep_mem (List.mem_of_getElem? ec)
      have sc := size_inner (List.mem_of_getElem? ec)
      have dcm : deep c ≤ m := by omega
      have scm : size c ≤ 900 := by omega
      walk_at "rd"
      intro l2 xs2 H4 s4 hl2 dx2
      walk_at "rd"
      intro D hD
      refine lc_list (K := K) (a := l2) (xs := xs2) (fun j => AccAt H4 D ((((pre [] c).map fun r => (i :: r.1, r.2)).map rowP).take j)) (acc0 hD) (fun j H5 _ h => SqL.of (h.same _ _ hl2)) ?_ ?_
      · rintro j x H5 hj h
        obtain ⟨d, ed, gx⟩ := dx2.get hj
        obtain ⟨⟨rp, rt⟩, er, rfl⟩ := map_get ed
        obtain ⟨p, x1, x2, rfl, hp, g1, g2⟩ := DT.two_inv (Same.dt h.same gx)
        obtain ⟨p1, ys1, rfl, hp1, gs1⟩ := g1.tup_inv
        have rl : rp.length < 0 + deep c := pre_plen c [] _ (List.mem_of_getElem? er)
        have gs1 : DTs H5 ys1 (rp.map fun k => PyData.int (k : Nat)) := gs1
        have g2 : DT H5 x2 rt.data := g2
        have dl := deep_le_size c
        have yl : ys1.length ≤ 900 := by
          rw [gs1.length, List.length_map]
          omega
        obtain ⟨zs, hz, dz⟩ := h.acc
        have zl : zs.length < 1000 := by
          rw [dz.length, List.length_take, List.length_map, List.length_map, pre_len]
          omega
        have tk : ((((pre [] c).map fun r => (i :: r.1, r.2)).map rowP).take (j + 1)) = (((pre [] c).map fun r => (i :: r.1, r.2)).map rowP).take j ++ [rowP (i :: rp, rt)] := take_get (by simp [er])
        walk_at "rd"
        intro p3 hp3
        walk_at "rd"
        refine ⟨by simp, Nat.le_trans (show 1 + ys1.length ≤ 1000 by omega) (by decide), fun e => ?_, fun e p4 hp4 => ?_⟩
        · subst e
          have er2 : rp = [] := by
            have z := gs1.length
            rw [List.length_map] at z
            exact List.eq_nil_of_length_eq_zero z.symm
          subst er2
          walk_at "rd"
          intro p5 hp5
          walk_at "rd"
          rw [tk]
          exact acc_push h hD ((same_new hp3).trans (same_new hp5)) (same_new hp5 _ _ (same_new hp3 _ _ hz)) (DT.laid hp5 (.cons (DT.laid hp3 (.cons (.int _) .nil)) (.cons (Same.dt (same_new hp3) g2) .nil)))
        · walk_at "rd"
          intro p5 hp5
          walk_at "rd"
          rw [tk]
          exact acc_push h hD ((same_new hp3).trans ((same_new hp4).trans (same_new hp5))) (same_new hp5 _ _ (same_new hp4 _ _ (same_new hp3 _ _ hz)))
            (DT.laid hp5 (.cons (DT.laid hp4 (.cons (.int _) (Same.dts (same_new hp3) gs1))) (.cons (Same.dt (same_new hp4) (Same.dt (same_new hp3) g2)) .nil)))
      · rintro H5 ⟨s5, zs, hz, dz⟩
        have lx : xs2.length = (((pre [] c).map fun r => (i :: r.1, r.2)).map rowP).length := by rw [dx2.length]; simp
        rw [lx, List.take_length] at dz
        have n1 : ys.length ≤ 900 := by
          rw [dy.length, List.length_map, List.length_cons, preL_len]
          have := sizes_take (inner t) i
          have := size_eq t
          omega
        have n2 : zs.length ≤ 900 := by
          rw [dz.length, List.length_map, List.length_map, pre_len]
          exact scm
        have s6 : Same H2 H5 := (same_new hT).trans (s4.trans s5)
        walk_at "rd"
        refine ⟨Nat.le_trans (show ys.length + zs.length ≤ 2000 by omega) (by decide), fun p6 hp6 => ?_⟩
        refine ⟨_, _, _, _, _, rfl, s2.trans (s6.trans (same_new hp6)), _, upd_same, ?_⟩
        rw [preL_take ec, ← List.cons_append, List.map_append]
        exact Same.dts (same_new hp6) ((Same.dts s6 dy).append dz)
    · rintro σ H2 ⟨l, o2, o3, o4, o5, rfl, s2, ys, hy, dy⟩
      rw [lu, List.take_length] at dy
      walk_at "rd"
      exact q _ _ _ (S3.trans (s1.trans s2)) hy (by rw [pre_eq]; exact dy)
end
end Wood

set_option maxHeartbeats 8000000
namespace Wood
open PySem PySem.Spec PyProof.Rows L2 Gen LamX NdefX
local macro_rules | `(tactic| walk_at "sz") => `(tactic| first | assumption | omega | (simp only [List.length_map, List.length_append, List.length_cons, List.length_nil, List.length_reverse] at *; omega))
local macro_rules | `(tactic| walk_at "hq") => `(tactic| first | assumption | exact upd_same | (refine same_new (by assumption) _ _ ?_; walk_at "hq") | (refine (show Same _ _ by assumption) _ _ ?_; walk_at "hq") | (refine (upd_ne (by assumption)).trans ?_; walk_at "hq"))
local macro_rules | `(tactic| walk_at "ty") => `(tactic| first | exact .base (.int _) | exact .base (.str _) | exact .base (.bl _) | exact .base .non | (apply TyX.base; apply TyOf.tup; walk_at "hq") | (apply TyX.base; apply TyOf.lst; walk_at "hq"))
local macro_rules | `(tactic| walk_at "dt") => `(tactic| first | assumption | exact DT.str _ | exact DT.int _ | exact DT.bl _ | exact DT.non | (refine Same.dt (same_new (by assumption)) ?_; walk_at "dt") | (refine Same.dt (by assumption) ?_; walk_at "dt"))
local macro_rules | `(tactic| walk_at "at") => `(tactic| first | with_reducible rfl | rfl | assumption | (show _ = some _; walk_at "hq") | (apply SqT.of; walk_at "hq") | (apply SqL.of; walk_at "hq") | (apply Or.inl; apply SqL.of; walk_at "hq") | (apply Or.inr; apply SqT.of; walk_at "hq") | (apply Or.inl; apply SqT.of; walk_at "hq") | (apply Or.inr; apply SqL.of; walk_at "hq") | exact atI_nat (j := 0) rfl | exact atI_nat (j := 1) rfl | exact atI_nat (j := 2) rfl | exact atI_nat (j := 3) rfl | exact .ty _ | exact .int _ | exact .str _ | exact .bl _ | exact ClsV.ty _ | walk_at "ty" | exact kit_ty (by decide +kernel) | exact True.intro | (show tyV _ _ _ _; exact .inl ⟨rfl, _, SqL.of (by walk_at "hq")⟩) | (show TruV _ _ _ _; first | exact .inl ⟨_, SqL.of (by walk_at "hq"), rfl⟩ | exact .inr (.inl ⟨_, SqT.of (by walk_at "hq"), rfl⟩)) | (show DT _ _ _; walk_at "dt") | (apply DT.dp; walk_at "dt") | (apply Exists.intro; apply SqT.of; walk_at "hq") | (apply Exists.intro; apply SqL.of; walk_at "hq") | (show _ ≤ sizeLine; decide) | omega | (refine small1000 ?_; walk_at "sz") | (refine le1000 ?_; walk_at "sz"))
local macro_rules | `(tactic| walk_at "ite") => `(tactic| refine iteB (fun c => ?_) (fun c => ?_))
local macro_rules | `(tactic| walk_at "rd") => `(tactic| repeat (walk_at "st"))
local macro_rules | `(tactic| walk_at "sr") => `(tactic| first | assumption | (apply Src.new; (focus (walk_at "sr")); (focus assumption)) | (apply Src.same; (focus (walk_at "sr")); (focus assumption)))
local macro_rules | `(tactic| walk_at "ar") => `(tactic| first | (show Src _ _ _; walk_at "sr") | (show ((_ : Nat) < _); first | omega | decide | (simp only [List.length_cons, List.length_nil]; omega)) | (show ((_ : Int) < _); first | omega | decide) | (apply Or.inl; assumption) | (apply Or.inr; assumption) | (show ¬ _; simp only [List.length_cons, List.length_nil]; decide) | (show CMul _ _; first | exact .inl ⟨by omega, by omega⟩ | exact .inr ⟨by omega, by omega⟩ | exact .inl ⟨by decide, by decide⟩ | exact .inr ⟨by decide, by decide⟩) | (show CDiv _ _; exact ⟨by omega, by omega⟩) | (show CDiv _ _; exact ⟨by decide, by decide⟩) | (show CDivW _ _; exact wide_div (b := 40) (by omega) (by omega) (by decide) (by decide)) | (show CPow _ _; exact ⟨by decide, by decide, by decide⟩) | (show (0 : Int) < _; omega) | (show (0 : Int) < _; decide))
local macro_rules | `(tactic| walk_at "st") => `(tactic| first | (apply Exists.intro) | (apply And.intro; focus (first | walk_at "ar" | walk_at "at"; done)) | (refine iteT ?_) | (refine iteF ?_) | (refine iteY (by assumption) ?_) | (refine iteN (by assumption) ?_) | (refine iteY (decide_eq_true ?_) ?_; focus (first | assumption | omega)) | (refine iteN (decide_eq_false ?_) ?_; focus (first | assumption | omega)) | (refine (show (∃ _ : Int, _) ∨ (∃ _ : Bool, _) from Or.inl ⟨_, rfl, ?_⟩)) | (refine (show (∃ _ : Int, _) ∨ (∃ _ : Bool, _) from Or.inr ⟨_, rfl, ?_⟩)))
local macro_rules | `(tactic| walk_at "sm") => `(tactic| first | exact (fun _ _ h => h) | assumption | (refine Same.trans ?_ (same_new (by assumption)); walk_at "sm") | (refine Same.trans ?_ (show Same _ _ by assumption); walk_at "sm"))
local macro_rules | `(tactic| walk_at "ri") => `(tactic| repeat (first | walk_at "st" | refine fun (_ : Addr) (_ : _ = none) => ?_))
abbrev S__law_in : Stmt := top 34
theorem sc__law_in : FnScope ["bough", "whom", "told", "part"] ["bough", "whom"] (defScope S__law_in) := ⟨rfl, rfl, rfl, by decide +kernel, rfl, by decide +kernel, by decide +kernel⟩
def spLIn (m : Nat) : Sp := fun vs H Q _ => ∃ (v u : V) (t : T) (k : Str) (n : Int), vs = [v, u] ∧ DT H v t.data ∧ DT H u (obj k n) ∧ deep t ≤ m ∧ size t ≤ 900 ∧ Wf t ∧ UsOK k n ∧ ∀ H', Same H H' → Q (.bl (isIn k n t)) H'
def spPrevI : Nat → Sp
  | 0 => fun _ _ _ _ => False
  | m + 1 => spLIn m
theorem sizes_len : ∀ ts : List T, ts.length ≤ sizes ts
  | [] => by simp
  | t :: ts => by have := sizes_len ts; have := size_eq t; simp [sizes]; omega
theorem inV_true (bs : List Bool) : inV (.bl true) (bs.map V.bl) = bs.any id := by
  induction bs with
  | nil => rfl
  | cons b bs ih =>
    show (eqV (.bl b) (.bl true) || inV (.bl true) (bs.map V.bl)) = (id b || bs.any id)
    rw [ih]
    cases b <;> rfl
theorem inV_false (bs : List Bool) : (!inV (.bl false) (bs.map V.bl)) = bs.all id := by
  induction bs with
  | nil => rfl
  | cons b bs ih =>
    show (!(eqV (.bl b) (.bl false) || inV (.bl false) (bs.map V.bl))) = (id b && bs.all id)
    rw [Bool.not_or, ih]
    cases b <;> rfl
theorem flat_bls (bs : List Bool) : (bs.map V.bl).all flatV = true := by
  induction bs with
  | nil => rfl
  | cons b bs ih => exact ih
section
variable {P : Program} {w : World} {K : PySem.W.Frag} {mg : Str → Option Value} {base : Heap}
theorem ok_lin_step (m : Nat) {f : Addr} {fd : FuncData} (F : Fun K "_law_in" "_law_in" S__law_in f fd) {f__law_inner : Addr} {fd__law_inner : FuncData} (G__law_inner : FnOk P w K mg base CX0 1 f__law_inner fd__law_inner ["bough"] spInner) (g__law_inner : mg "_law_inner" = some (.ref f__law_inner)) (k__law_inner : PySem.W.keepIn K (.ref f__law_inner) = true) (b__law_inner : Binds K fd__law_inner ["bough"] []) (G__law_in : FnOk P w K mg base CX0 (1 + m) f fd ["bough", "whom"] (spPrevI m)) (g__law_in : mg "_law_in" = some (.ref f)) (k__law_in : PySem.W.keepIn K (.ref f) = true) (b__law_in : L2.Binds K fd ["bough", "whom"] []) :
    FnOk P w K mg base CX0 (1 + m + 1) f fd ["bough", "whom"] (spLIn m) := by
  refine F.ok sc__law_in (fun vs H Q E h => ?_) (fun cdv A outer s H vs Q E hr h => ?_)
  · obtain ⟨x, _, _, _, _, rfl, _⟩ := h
    rfl
  · obtain ⟨v, u, t, k, n, rfl, hv, hu, dp, sz, wf, us, q⟩ := h
    have dq := deep_eq t
    obtain ⟨m, rfl⟩ : ∃ k, m = k + 1 := ⟨m - 1, by omega⟩
    have hu65 : (A.deeper (envOfC "_law_in" (defScope S__law_in) s.heap.objs.size f cdv)).units + 65 < cLine := by have := hr.un; omega
    have hv0 := hv
    refine ⟨_, pss_cons (ps_if (pt_cmpR op_eq (pe_ix (r := rIxT K) ix_tup (pv 0) (pe_int) (fun _ _ => rfl)) (pe_str) (nomark _))
        (pss_one (ps_ret (pe_or (pe_cmpR (r := rInDT K) (op_inDT hu65) (pe_tup (pa_cons (pe_str) (pa_cons (pv 1) pa_nil))) (pe_ix (r := rIxT K) ix_tup (pv 0) (pe_int) (fun _ _ => rfl)) (by rfl)) (pe_one (pe_cmpR (r := rInDT K) (op_inDT hu65) (pe_tup (pa_cons (pe_str) (pa_cons (pe_ix (r := rIxT K) ix_tup (pv 1) (pe_int) (fun _ _ => rfl)) pa_nil))) (pe_ix (r := rIxT K) ix_tup (pv 0) (pe_int) (fun _ _ => rfl)) (by rfl))))))
        (pss_nil))
      (pss_cons (ps_setLc (i := 2) (own := [("part", 3)]) (g := (gName 3)) (tt := tYes) (by rfl) sc__law_in.nd rfl rfl (sw_true rfl rfl rfl (by decide +kernel)) (pi_tup (pe_call G__law_inner (hr.mono (by omega)) (by rfl) g__law_inner k__law_inner b__law_inner .nil pass0 (pa_cons (pv 0) pa_nil))) (blkOk_by (own := [("part", 3)]) (N := ["bough", "whom", "told", "part"]) (sc := defScope S__law_in) (by decide +kernel)) (fun _ _ _ _ _ => pg_name (i := 3) sc__law_in.nd rfl (.inl rfl)) (fun _ _ _ _ _ => pts_nil) (fun _ _ _ _ _ => pe_call G__law_in (hr.mono (by omega)) (by rfl) g__law_in k__law_in b__law_in .nil pass0 (pa_cons (pv 3) (pa_cons (pv 1) pa_nil))))
      (pss_cons (ps_if (pt_cmpR op_eq (pe_ix (r := rIxT K) ix_tup (pv 0) (pe_int) (fun _ _ => rfl)) (pe_str) (nomark _))
        (pss_one (ps_ret (pe_and (pe_ix (r := rIxL K) ix_list (pv 2) (pe_int) (fun _ _ => rfl)) (pe_one (pe_not (pe_ix (r := rIxL K) ix_list (pv 2) (pe_int) (fun _ _ => rfl)))))))
        (pss_nil))
      (pss_one (ps_ret (pe_ifExp (pt_cmpR op_eq (pe_ix (r := rIxT K) ix_tup (pv 0) (pe_int) (fun _ _ => rfl)) (pe_str) (nomark _)) (pe_cmpR (r := rIn K true) op_notIn_seq (pe_bl) (pv 2) (by rfl)) (pe_cmpR (r := rIn K false) op_in_seq (pe_bl) (pv 2) (by rfl))))))), ?_⟩
    cases t with
    | set ss =>
      rw [T.data] at hv
      obtain ⟨p2, x1, x2, rfl, hp2, w1, w2⟩ := hv.two_inv
      obtain rfl := w1.str_inv
      rw [Wf] at wf
      have lay : ∀ s ∈ ss, SbLay s := fun s m => (wf.1 s m).2
      obtain ⟨pu, y1, y2, rfl, hpu, g1, g2⟩ := hu.two_inv
      obtain rfl := g1.str_inv
      have sh1 := sb_shaped us.1
      have sh2 := sb_shaped us.2
      have shs := sbs_lay lay
      have q : ∀ H', Same H H' → Q (.bl (decide (Sb.one k n ∈ ss) || decide (Sb.all k ∈ ss))) H' := q
      walk_at "rd"
      intro t1 ht1
      have d1 : DT (upd H t1 (.tup [.str "one", .ref pu])) (.ref t1) (Sb.one k n).data := DT.laid ht1 (.cons (.str _) (.cons hu .nil))
      have d2 := Same.dt (same_new (o := .tup [.str "one", .ref pu]) ht1) w2
      walk_at "rd"
      rw [sb_any]
      refine iteB (fun c => ?_) (fun c => ?_)
      · rw [c, Bool.true_or] at q
        walk_at "rd"
        exact q _ (same_new ht1)
      · rw [c, Bool.false_or] at q
        walk_at "rd"
        intro t2 ht2
        have s2 := (same_new (o := .tup [.str "one", .ref pu]) ht1).trans (same_new (o := .tup [.str "all", .str k]) ht2)
        have d3 := Same.dt s2 w2
        have d4 : DT (upd (upd H t1 (.tup [.str "one", .ref pu])) t2 (.tup [.str "all", .str k])) (.ref t2) (Sb.all k).data := DT.laid ht2 (.cons (.str _) (.cons (.str _) .nil))
        walk_at "rd"
        rw [sb_any]
        exact q _ s2
    | ring k0 n0 r0 =>
      have ein : isIn k n (T.ring k0 n0 r0) = JB k n (T.ring k0 n0 r0) ((inner (T.ring k0 n0 r0)).map (isIn k n)) := isIn_eq k n _
      rw [ein] at q
      have wfi := wf_inner wf
      have inn : ∀ c ∈ inner (T.ring k0 n0 r0), deep c ≤ m ∧ size c ≤ 900 := fun c mc => by
        have := deep_mem mc
        have := size_inner mc
        exact ⟨by omega, by omega⟩
      generalize hT : inner (T.ring k0 n0 r0) = cs at wfi inn q
      rw [T.data] at hv
      obtain ⟨p2, x1, x2, x3, rfl, hp2, w1, w2, w3⟩ := DT.three_inv hv
      obtain rfl := w1.str_inv
      walk_at "rd"
      intro v1 H1 s1 dv
      rw [hT] at dv
      have hu1 := Same.dt s1 hu
      obtain ⟨pv, us1, rfl, hpv, dus⟩ := dv.tup_inv
      walk_at "rd"
      intro D hD
      refine lc_tup (K := K) (a := pv) (xs := us1) (fun i => AccAt H1 D (((cs.map (isIn k n)).map PyData.bool).take i)) (acc0 hD) (fun i H2 _ h => SqT.of (h.same _ _ hpv)) ?_ ?_
      · rintro i x H2 hi h
        obtain ⟨d, ed, gd⟩ := (Same.dts h.same dus).get hi
        rw [datas_map] at ed
        obtain ⟨c, ec, rfl⟩ := map_get ed
        have hu2 := Same.dt h.same hu1
        obtain ⟨i1, i2⟩ := inn c (List.mem_of_getElem? ec)
        have wc := wfs_get wfi ec
        obtain ⟨zs, hz, dz⟩ := h.acc
        have zl : zs.length < 1000 := by
          have l1 := sizes_len cs
          have l2 := size_eq (T.ring k0 n0 r0)
          rw [hT] at l2
          rw [dz.length, List.length_take, List.length_map, List.length_map]
          omega
        walk_at "rd"
        intro H3 s3
        walk_at "rd"
        rw [take_get (show ((cs.map (isIn k n)).map PyData.bool)[i]? = some (PyData.bool (isIn k n c)) by simp [ec])]
        exact acc_push h hD s3 (s3 _ _ hz) (.bl _)
      · rintro H2 ⟨s2, zs, hz, dz⟩
        have lx : us1.length = ((cs.map (isIn k n)).map PyData.bool).length := by rw [dus.length, datas_map]; simp
        rw [lx, List.take_length] at dz
        obtain rfl := dts_bls dz
        have s12 := s1.trans s2
        have fl := flat_bls (cs.map (isIn k n))
        walk_at "rd"
        show Q (V.bl (inV (V.bl true) ((cs.map (isIn k n)).map V.bl))) H2
        rw [inV_true]
        exact q _ s12
    | any ps =>
      have ein : isIn k n (T.any ps) = JB k n (T.any ps) ((inner (T.any ps)).map (isIn k n)) := isIn_eq k n _
      rw [ein] at q
      have wfi := wf_inner wf
      have inn : ∀ c ∈ inner (T.any ps), deep c ≤ m ∧ size c ≤ 900 := fun c mc => by
        have := deep_mem mc
        have := size_inner mc
        exact ⟨by omega, by omega⟩
      generalize hT : inner (T.any ps) = cs at wfi inn q
      rw [T.data] at hv
      obtain ⟨p2, x1, x2, rfl, hp2, w1, w2⟩ := DT.two_inv hv
      obtain rfl := w1.str_inv
      walk_at "rd"
      intro v1 H1 s1 dv
      rw [hT] at dv
      have hu1 := Same.dt s1 hu
      obtain ⟨pv, us1, rfl, hpv, dus⟩ := dv.tup_inv
      walk_at "rd"
      intro D hD
      refine lc_tup (K := K) (a := pv) (xs := us1) (fun i => AccAt H1 D (((cs.map (isIn k n)).map PyData.bool).take i)) (acc0 hD) (fun i H2 _ h => SqT.of (h.same _ _ hpv)) ?_ ?_
      · rintro i x H2 hi h
        obtain ⟨d, ed, gd⟩ := (Same.dts h.same dus).get hi
        rw [datas_map] at ed
        obtain ⟨c, ec, rfl⟩ := map_get ed
        have hu2 := Same.dt h.same hu1
        obtain ⟨i1, i2⟩ := inn c (List.mem_of_getElem? ec)
        have wc := wfs_get wfi ec
        obtain ⟨zs, hz, dz⟩ := h.acc
        have zl : zs.length < 1000 := by
          have l1 := sizes_len cs
          have l2 := size_eq (T.any ps)
          rw [hT] at l2
          rw [dz.length, List.length_take, List.length_map, List.length_map]
          omega
        walk_at "rd"
        intro H3 s3
        walk_at "rd"
        rw [take_get (show ((cs.map (isIn k n)).map PyData.bool)[i]? = some (PyData.bool (isIn k n c)) by simp [ec])]
        exact acc_push h hD s3 (s3 _ _ hz) (.bl _)
      · rintro H2 ⟨s2, zs, hz, dz⟩
        have lx : us1.length = ((cs.map (isIn k n)).map PyData.bool).length := by rw [dus.length, datas_map]; simp
        rw [lx, List.take_length] at dz
        obtain rfl := dts_bls dz
        have s12 := s1.trans s2
        have fl := flat_bls (cs.map (isIn k n))
        walk_at "rd"
        show Q (V.bl (inV (V.bl true) ((cs.map (isIn k n)).map V.bl))) H2
        rw [inV_true]
        exact q _ s12
    | both ps =>
      have ein : isIn k n (T.both ps) = JB k n (T.both ps) ((inner (T.both ps)).map (isIn k n)) := isIn_eq k n _
      rw [ein] at q
      have wfi := wf_inner wf
      have inn : ∀ c ∈ inner (T.both ps), deep c ≤ m ∧ size c ≤ 900 := fun c mc => by
        have := deep_mem mc
        have := size_inner mc
        exact ⟨by omega, by omega⟩
      generalize hT : inner (T.both ps) = cs at wfi inn q
      rw [T.data] at hv
      obtain ⟨p2, x1, x2, rfl, hp2, w1, w2⟩ := DT.two_inv hv
      obtain rfl := w1.str_inv
      walk_at "rd"
      intro v1 H1 s1 dv
      rw [hT] at dv
      have hu1 := Same.dt s1 hu
      obtain ⟨pv, us1, rfl, hpv, dus⟩ := dv.tup_inv
      walk_at "rd"
      intro D hD
      refine lc_tup (K := K) (a := pv) (xs := us1) (fun i => AccAt H1 D (((cs.map (isIn k n)).map PyData.bool).take i)) (acc0 hD) (fun i H2 _ h => SqT.of (h.same _ _ hpv)) ?_ ?_
      · rintro i x H2 hi h
        obtain ⟨d, ed, gd⟩ := (Same.dts h.same dus).get hi
        rw [datas_map] at ed
        obtain ⟨c, ec, rfl⟩ := map_get ed
        have hu2 := Same.dt h.same hu1
        obtain ⟨i1, i2⟩ := inn c (List.mem_of_getElem? ec)
        have wc := wfs_get wfi ec
        obtain ⟨zs, hz, dz⟩ := h.acc
        have zl : zs.length < 1000 := by
          have l1 := sizes_len cs
          have l2 := size_eq (T.both ps)
          rw [hT] at l2
          rw [dz.length, List.length_take, List.length_map, List.length_map]
          omega
        walk_at "rd"
        intro H3 s3
        walk_at "rd"
        rw [take_get (show ((cs.map (isIn k n)).map PyData.bool)[i]? = some (PyData.bool (isIn k n c)) by simp [ec])]
        exact acc_push h hD s3 (s3 _ _ hz) (.bl _)
      · rintro H2 ⟨s2, zs, hz, dz⟩
        have lx : us1.length = ((cs.map (isIn k n)).map PyData.bool).length := by rw [dus.length, datas_map]; simp
        rw [lx, List.take_length] at dz
        obtain rfl := dts_bls dz
        have s12 := s1.trans s2
        have fl := flat_bls (cs.map (isIn k n))
        walk_at "rd"
        show Q (V.bl (!inV (V.bl false) ((cs.map (isIn k n)).map V.bl))) H2
        rw [inV_false]
        exact q _ s12
    | but ta tb =>
      have ein : isIn k n (T.but ta tb) = JB k n (T.but ta tb) ((inner (T.but ta tb)).map (isIn k n)) := isIn_eq k n _
      rw [ein] at q
      have wfi := wf_inner wf
      have inn : ∀ c ∈ inner (T.but ta tb), deep c ≤ m ∧ size c ≤ 900 := fun c mc => by
        have := deep_mem mc
        have := size_inner mc
        exact ⟨by omega, by omega⟩
      generalize hT : inner (T.but ta tb) = cs at wfi inn q
      rw [T.data] at hv
      obtain ⟨p2, x1, x2, x3, rfl, hp2, w1, w2, w3⟩ := DT.three_inv hv
      obtain rfl := w1.str_inv
      walk_at "rd"
      intro v1 H1 s1 dv
      rw [hT] at dv
      have hu1 := Same.dt s1 hu
      obtain ⟨pv, us1, rfl, hpv, dus⟩ := dv.tup_inv
      walk_at "rd"
      intro D hD
      refine lc_tup (K := K) (a := pv) (xs := us1) (fun i => AccAt H1 D (((cs.map (isIn k n)).map PyData.bool).take i)) (acc0 hD) (fun i H2 _ h => SqT.of (h.same _ _ hpv)) ?_ ?_
      · rintro i x H2 hi h
        obtain ⟨d, ed, gd⟩ := (Same.dts h.same dus).get hi
        rw [datas_map] at ed
        obtain ⟨c, ec, rfl⟩ := map_get ed
        have hu2 := Same.dt h.same hu1
        obtain ⟨i1, i2⟩ := inn c (List.mem_of_getElem? ec)
        have wc := wfs_get wfi ec
        obtain ⟨zs, hz, dz⟩ := h.acc
        have zl : zs.length < 1000 := by
          have l1 := sizes_len cs
          have l2 := size_eq (T.but ta tb)
          rw [hT] at l2
          rw [dz.length, List.length_take, List.length_map, List.length_map]
          omega
        walk_at "rd"
        intro H3 s3
        walk_at "rd"
        rw [take_get (show ((cs.map (isIn k n)).map PyData.bool)[i]? = some (PyData.bool (isIn k n c)) by simp [ec])]
        exact acc_push h hD s3 (s3 _ _ hz) (.bl _)
      · rintro H2 ⟨s2, zs, hz, dz⟩
        have lx : us1.length = ((cs.map (isIn k n)).map PyData.bool).length := by rw [dus.length, datas_map]; simp
        rw [lx, List.take_length] at dz
        obtain rfl := dts_bls dz
        have s12 := s1.trans s2
        have fl := flat_bls (cs.map (isIn k n))
        obtain rfl : cs = [ta, tb] := hT.symm
        have q : Q (.bl (isIn k n ta && !isIn k n tb)) H2 := q _ s12
        have hz : H2 D = some (.lst [.bl (isIn k n ta), .bl (isIn k n tb)]) := hz
        generalize isIn k n ta = b1 at q hz
        generalize isIn k n tb = b2 at q hz
        walk_at "rd"
        cases b1
        · walk_at "rd"
          exact q
        · walk_at "rd"
          exact q
    | opn k0 n0 r0 t0 =>
      have ein : isIn k n (T.opn k0 n0 r0 t0) = JB k n (T.opn k0 n0 r0 t0) ((inner (T.opn k0 n0 r0 t0)).map (isIn k n)) := isIn_eq k n _
      rw [ein] at q
      have wfi := wf_inner wf
      have inn : ∀ c ∈ inner (T.opn k0 n0 r0 t0), deep c ≤ m ∧ size c ≤ 900 := fun c mc => by
        have := deep_mem mc
        have := size_inner mc
        exact ⟨by omega, by omega⟩
      generalize hT : inner (T.opn k0 n0 r0 t0) = cs at wfi inn q
      rw [T.data] at hv
      obtain ⟨p2, x1, x2, x3, x4, rfl, hp2, w1, w2, w3, w4⟩ := DT.four_inv hv
      obtain rfl := w1.str_inv
      walk_at "rd"
      intro v1 H1 s1 dv
      rw [hT] at dv
      have hu1 := Same.dt s1 hu
      obtain ⟨pv, us1, rfl, hpv, dus⟩ := dv.tup_inv
      walk_at "rd"
      intro D hD
      refine lc_tup (K := K) (a := pv) (xs := us1) (fun i => AccAt H1 D (((cs.map (isIn k n)).map PyData.bool).take i)) (acc0 hD) (fun i H2 _ h => SqT.of (h.same _ _ hpv)) ?_ ?_
      · rintro i x H2 hi h
        obtain ⟨d, ed, gd⟩ := (Same.dts h.same dus).get hi
        rw [datas_map] at ed
        obtain ⟨c, ec, rfl⟩ := map_get ed
        have hu2 := Same.dt h.same hu1
        obtain ⟨i1, i2⟩ := inn c (List.mem_of_getElem? ec)
        have wc := wfs_get wfi ec
        obtain ⟨zs, hz, dz⟩ := h.acc
        have zl : zs.length < 1000 := by
          have l1 := sizes_len cs
          have l2 := size_eq (T.opn k0 n0 r0 t0)
          rw [hT] at l2
          rw [dz.length, List.length_take, List.length_map, List.length_map]
          omega
        walk_at "rd"
        intro H3 s3
        walk_at "rd"
        rw [take_get (show ((cs.map (isIn k n)).map PyData.bool)[i]? = some (PyData.bool (isIn k n c)) by simp [ec])]
        exact acc_push h hD s3 (s3 _ _ hz) (.bl _)
      · rintro H2 ⟨s2, zs, hz, dz⟩
        have lx : us1.length = ((cs.map (isIn k n)).map PyData.bool).length := by rw [dus.length, datas_map]; simp
        rw [lx, List.take_length] at dz
        obtain rfl := dts_bls dz
        have s12 := s1.trans s2
        have fl := flat_bls (cs.map (isIn k n))
        walk_at "rd"
        show Q (V.bl (inV (V.bl true) ((cs.map (isIn k n)).map V.bl))) H2
        rw [inV_true]
        exact q _ s12
end
end Wood

set_option maxHeartbeats 8000000
/-! What is left of a tree: the mathematics; `in` on a list of data; calls by keywords alone. -/
namespace L2
open PySem PySem.Spec PyProof.Rows
def rInDL (K : PySem.W.Frag) : R2 := fun x y H Q => ∃ d ds, Dp K H x d ∧ Dp K H y (.list ds) ∧ SeqAt.shaped d = true ∧ SeqAt.shaped (.list ds) = true ∧ Q (.bl (ds.any fun z => PyData.eqv z d)) H
theorem op_inDL {X : Cx} (hu : X.A.units + 65 < cLine) : OpR X (compareOp .In) (rInDL X.K) := by
  intro pins s σ H x y v u Q I rx ry ⟨d, ds, hd, he, sd, se, q⟩
  obtain ⟨as, r1⟩ := Dp.reads I d x v hd rx
  obtain ⟨bs, r2⟩ := Dp.reads I (.list ds) y u he ry
  exact SeqAt.in_list_reads r2 r1 (SeqAt.canLay_of_shaped se) (SeqAt.canLay_of_shaped sd) (room_in_shaped sd hu) ⟨.bl _, H, I, rfl, q⟩
section
variable {X : Cx} {CX : CXT} {k : Nat} {f : Addr} {fd : FuncData} {ps ks : List Str} {sp : Sp} {E : XK} {x : Str} {p pos : Pos} {kws : List Keyword} {tk : TA} {g : List Value → List Value → List Value} {gV : List V → List V → List V}
def tCallK0 (sp : Sp) (gV : List V → List V → List V) (E : XK) (tk : TA) : TE := fun σ H Q => tk σ H fun zs H2 => sp (gV [] zs) H2 Q E
/-- f(k = v, ..) -/
theorem pe_callK0 (F : FnOk X.prog X.w X.K X.mg X.base CX k f fd ps sp) (hr : Room k X.A) (hg : Gl X x) (hm : X.mg x = some (.ref f)) (hk : PySem.W.keepIn X.K (.ref f) = true) (hb : KBinds X.K fd ps ks g gV) (hx : Passes CX X E)
    (hkw : PK X kws tk) (hall : (backToKw pos (keywordEach kws X.env)).all (·.1.isSome) = true := by rfl) (hks : (backToKw pos (keywordEach kws X.env)).filterMap (·.1) = ks := by rfl)
    (hdb : (x == ("__debug__" : Str)) = false := by decide)
    (hpl : ((backTo pos (starEach [] X.env)).any (·.1) || (backToKw pos (keywordEach kws X.env)).any (·.1.isNone)) = false := by rfl) :
    PE X (.Call (.Name x p) [] kws pos) (tCallK0 sp gV E tk) := by
  refine ⟨fun pins s σ H Q I h => ?_⟩
  refine wpAny_Call_Name_kw (ld_glob I hg hm ?_ hdb)
  refine PySem.W.callWith_KW0 (h₀ := X.base) I.ok.mod.kin hk hall (thn (hkw.run pos pins s σ H _ I h) fun ws s2 ⟨zs, H2, I2, rz, q2⟩ => ⟨I2.kIn, ?_⟩) hpl
  rw [hks]
  exact run_fnk (us := []) (vs := []) F hr hb hx I2 .nil rz q2
end
end L2
namespace Wood
open PySem PySem.Spec PyProof.Rows L2 Gen
mutual
/-- nothing in it brings nobody -/
def Full : T → Prop
  | .set ss => ss ≠ []
  | .ring _ _ _ => False
  | .any ps => 2 ≤ ps.length ∧ Fulls ps
  | .both ps => 2 ≤ ps.length ∧ Fulls ps
  | .but a b => Full a ∧ Full b
  | .opn _ _ _ t => Full t
def Fulls : List T → Prop
  | [] => True
  | t :: ts => Full t ∧ Fulls ts
end
structure Lessen (t u : T) : Prop where
  lay : t.data.canLay0 = true → u.data.canLay0 = true
  dep : u.data.depth ≤ t.data.depth
  size : size u ≤ size t
  deep : deep u ≤ deep t
  wf : Wf t → Wf u
  full : Full u
structure Lessens (ts us : List T) : Prop where
  lay : PyData.canLayAll0 (datas ts) = true → PyData.canLayAll0 (datas us) = true
  dep : PyData.depthAll (datas us) ≤ PyData.depthAll (datas ts)
  size : sizes us ≤ sizes ts
  deep : deeps us ≤ deeps ts
  wf : Wfs ts → Wfs us
  full : Fulls us
  len : us.length ≤ ts.length
theorem pack_any {ts us : List T} {u : T} (L : Lessens ts us) (h : pack .any us = some u) : Lessen (.any ts) u := by
  match us, L, h with
  | [], L, h => cases h
  | [x], L, h =>
    obtain rfl : x = u := Option.some.inj h
    obtain ⟨l1, l2, l3, l4, l5, l6, l7⟩ := L
    simp only [datas, PyData.canLayAll0, PyData.depthAll, sizes, deeps, Wfs, Fulls, Bool.and_true, and_true] at l1 l2 l3 l4 l5 l6
    refine ⟨fun z => l1 (by simp only [T.data, PyData.canLay0, PyData.canLayAll0, Bool.and_true, Bool.and_eq_true] at z; exact z.2), ?_, ?_, ?_, fun z => l5 (by rwa [Wf] at z), l6⟩
    · simp only [T.data, PyData.depth, PyData.depthAll]; omega
    · simp only [Wood.size]; omega
    · simp only [Wood.deep]; omega
  | x :: y :: r, L, h =>
    obtain rfl : T.any (x :: y :: r) = u := Option.some.inj h
    obtain ⟨l1, l2, l3, l4, l5, l6, l7⟩ := L
    refine ⟨fun z => ?_, ?_, ?_, ?_, fun z => ?_, ?_⟩
    · simp only [T.data, PyData.canLay0, PyData.canLayAll0, Bool.and_true, Bool.and_eq_true] at z ⊢
      exact ⟨z.1, l1 z.2⟩
    · simp only [T.data, PyData.depth, PyData.depthAll] at l2 ⊢; omega
    · simp only [Wood.size] at l3 ⊢; omega
    · simp only [Wood.deep] at l4 ⊢; omega
    · rw [Wf] at z ⊢; exact l5 z
    · rw [Full]; exact ⟨by simp, l6⟩
theorem pack_both {ts us : List T} {u : T} (L : Lessens ts us) (h : pack .both us = some u) : Lessen (.both ts) u := by
  match us, L, h with
  | [], L, h => cases h
  | [x], L, h =>
    obtain rfl : x = u := Option.some.inj h
    obtain ⟨l1, l2, l3, l4, l5, l6, l7⟩ := L
    simp only [datas, PyData.canLayAll0, PyData.depthAll, sizes, deeps, Wfs, Fulls, Bool.and_true, and_true] at l1 l2 l3 l4 l5 l6
    refine ⟨fun z => l1 (by simp only [T.data, PyData.canLay0, PyData.canLayAll0, Bool.and_true, Bool.and_eq_true] at z; exact z.2), ?_, ?_, ?_, fun z => l5 (by rw [Wf] at z; exact z.2), l6⟩
    · simp only [T.data, PyData.depth, PyData.depthAll]; omega
    · simp only [Wood.size]; omega
    · simp only [Wood.deep]; omega
  | x :: y :: r, L, h =>
    obtain rfl : T.both (x :: y :: r) = u := Option.some.inj h
    obtain ⟨l1, l2, l3, l4, l5, l6, l7⟩ := L
    refine ⟨fun z => ?_, ?_, ?_, ?_, fun z => ?_, ?_⟩
    · simp only [T.data, PyData.canLay0, PyData.canLayAll0, Bool.and_true, Bool.and_eq_true] at z ⊢
      exact ⟨z.1, l1 z.2⟩
    · simp only [T.data, PyData.depth, PyData.depthAll] at l2 ⊢; omega
    · simp only [Wood.size] at l3 ⊢; omega
    · simp only [Wood.deep] at l4 ⊢; omega
    · rw [Wf] at z ⊢; exact ⟨by simp, l5 z.2⟩
    · rw [Full]; exact ⟨by simp, l6⟩
mutual
theorem lessen : ∀ (t u : T), less t = some u → Lessen t u
  | .set ss, u, h => by
    rw [less] at h
    split at h
    · cases h
    · rename_i ne
      obtain rfl := Option.some.inj h
      exact ⟨id, Nat.le_refl _, Nat.le_refl _, Nat.le_refl _, id, by rw [Full]; exact ne⟩
  | .ring _ _ _, u, h => by rw [less] at h; cases h
  | .any ps, u, h => by
    rw [less] at h
    exact pack_any (lessens ps) h
  | .both ps, u, h => by
    rw [less] at h
    split at h
    · cases h
    · exact pack_both (lessens ps) h
  | .but a b, u, h => by
    have A := lessen a
    have B := lessen b
    rw [less] at h
    cases ea : less a with
    | none => rw [ea] at h; cases h
    | some x =>
      rw [ea] at h
      obtain ⟨a1, a2, a3, a4, a5, a6⟩ := A x ea
      cases eb : less b with
      | none =>
        rw [eb] at h
        obtain rfl := Option.some.inj h
        refine ⟨fun z => a1 ?_, ?_, ?_, ?_, fun z => a5 (by rw [Wf] at z; exact z.1), a6⟩
        · simp only [T.data, PyData.canLay0, PyData.canLayAll0, Bool.and_true, Bool.and_eq_true] at z
          exact z.2.1
        · simp only [T.data, PyData.depth, PyData.depthAll]; omega
        · simp only [Wood.size]; omega
        · simp only [Wood.deep]; omega
      | some y =>
        rw [eb] at h
        obtain rfl := Option.some.inj h
        obtain ⟨b1, b2, b3, b4, b5, b6⟩ := B y eb
        refine ⟨fun z => ?_, ?_, ?_, ?_, fun z => ?_, ?_⟩
        · simp only [T.data, PyData.canLay0, PyData.canLayAll0, Bool.and_true, Bool.and_eq_true] at z ⊢
          exact ⟨z.1, a1 z.2.1, b1 z.2.2⟩
        · simp only [T.data, PyData.depth, PyData.depthAll]; omega
        · simp only [Wood.size]; omega
        · simp only [Wood.deep]; omega
        · rw [Wf] at z ⊢; exact ⟨a5 z.1, b5 z.2⟩
        · rw [Full]; exact ⟨a6, b6⟩
  | .opn k n r t, u, h => by
    have A := lessen t
    rw [less] at h
    cases ea : less t with
    | none => rw [ea] at h; cases h
    | some x =>
      rw [ea] at h
      obtain ⟨a1, a2, a3, a4, a5, a6⟩ := A x ea
      obtain rfl := Option.some.inj h
      refine ⟨fun z => ?_, ?_, ?_, ?_, fun z => ?_, ?_⟩
      · simp only [T.data, PyData.canLay0, PyData.canLayAll0, Bool.and_true, Bool.and_eq_true] at z ⊢
        exact ⟨z.1, z.2.1, z.2.2.1, a1 z.2.2.2⟩
      · simp only [T.data, PyData.depth, PyData.depthAll]; omega
      · simp only [Wood.size]; omega
      · simp only [Wood.deep]; omega
      · rw [Wf] at z ⊢; exact ⟨z.1, z.2.1, z.2.2.1, a5 z.2.2.2⟩
      · rw [Full]; exact a6
theorem lessens : ∀ ts : List T, Lessens ts (lessL ts)
  | [] => by
    rw [lessL]
    exact ⟨id, Nat.le_refl _, Nat.le_refl _, Nat.le_refl _, id, by rw [Fulls]; trivial, Nat.le_refl _⟩
  | t :: ts => by
    have A := lessen t
    obtain ⟨b1, b2, b3, b4, b5, b6, b7⟩ := lessens ts
    rw [lessL]
    cases ea : less t with
    | none =>
      refine ⟨fun z => b1 ?_, ?_, ?_, ?_, fun z => b5 (by rw [Wfs] at z; exact z.2), b6, ?_⟩
      · simp only [datas, PyData.canLayAll0, Bool.and_eq_true] at z; exact z.2
      · simp only [datas, PyData.depthAll]; omega
      · simp only [sizes]; omega
      · simp only [deeps]; omega
      · simp only [List.length_cons]; omega
    | some x =>
      obtain ⟨a1, a2, a3, a4, a5, a6⟩ := A x ea
      refine ⟨fun z => ?_, ?_, ?_, ?_, fun z => ?_, ?_, ?_⟩
      · simp only [datas, PyData.canLayAll0, Bool.and_eq_true] at z ⊢; exact ⟨a1 z.1, b1 z.2⟩
      · simp only [datas, PyData.depthAll]; omega
      · simp only [sizes]; omega
      · simp only [deeps]; omega
      · rw [Wfs] at z ⊢; exact ⟨a5 z.1, b5 z.2⟩
      · rw [Fulls]; exact ⟨a6, b6⟩
      · simp only [List.length_cons]; omega
end
mutual
theorem full_less : ∀ t : T, Full t → less t = some t
  | .set ss, h => by rw [Full] at h; rw [less, if_neg h]
  | .ring _ _ _, h => by rw [Full] at h; exact h.elim
  | .any ps, h => by
    rw [Full] at h
    rw [less, fulls_less ps h.2, pack_many (by omega)]
  | .both ps, h => by
    rw [Full] at h
    rw [less, fulls_less ps h.2, if_neg (by omega), pack_many (by omega)]
  | .but a b, h => by
    rw [Full] at h
    rw [less, full_less a h.1, full_less b h.2]
  | .opn k n r t, h => by
    rw [Full] at h
    rw [less, full_less t h]
theorem fulls_less : ∀ ts : List T, Fulls ts → lessL ts = ts
  | [], _ => by rw [lessL]
  | t :: ts, h => by
    rw [Fulls] at h
    rw [lessL, full_less t h.1, fulls_less ts h.2]
end
mutual
theorem full_pre : ∀ (t : T) (p : List Nat), Full t → ∀ r ∈ pre p t, Full r.2
  | .set ss, p, h => fun r m => by rw [pre_eq] at m; simp [inner, preL] at m; subst m; exact h
  | .ring k n r0, p, h => fun r m => by rw [Full] at h; exact h.elim
  | .any ps, p, h => fun r m => by
    rw [pre] at m
    rcases List.mem_cons.mp m with rfl | m
    · exact h
    · rw [Full] at h
      exact fulls_pre ps p 0 h.2 r m
  | .both ps, p, h => fun r m => by
    rw [pre] at m
    rcases List.mem_cons.mp m with rfl | m
    · exact h
    · rw [Full] at h
      exact fulls_pre ps p 0 h.2 r m
  | .but a b, p, h => fun r m => by
    rw [pre] at m
    rcases List.mem_cons.mp m with rfl | m
    · exact h
    · rw [Full] at h
      rcases List.mem_append.mp m with m | m
      · exact full_pre a _ h.1 r m
      · rw [List.append_nil] at m
        exact full_pre b _ h.2 r m
  | .opn k n r0 t, p, h => fun r m => by
    rw [pre] at m
    rcases List.mem_cons.mp m with rfl | m
    · exact h
    · rw [Full] at h
      rw [List.append_nil] at m
      exact full_pre t _ h r m
theorem fulls_pre : ∀ (ts : List T) (p : List Nat) (k : Nat), Fulls ts → ∀ r ∈ preL p k ts, Full r.2
  | [], p, k, h => fun r m => by rw [preL] at m; cases m
  | t :: ts, p, k, h => fun r m => by
    rw [preL] at m
    rw [Fulls] at h
    rcases List.mem_append.mp m with m | m
    · exact full_pre t _ h.1 r m
    · exact fulls_pre ts _ _ h.2 r m
end
def isInO (k : Str) (n : Int) : Option T → Bool
  | none => false
  | some t => isIn k n t
theorem pack_in_any (k : Str) (n : Int) (us : List T) : isInO k n (pack .any us) = anyIn k n us := by
  match us with
  | [] => rfl
  | [x] => simp [pack, isInO, anyIn]
  | x :: y :: r => simp [pack, isInO, isIn]
theorem pack_in_both (k : Str) (n : Int) (us : List T) (ne : us ≠ []) : isInO k n (pack .both us) = allIn k n us := by
  match us, ne with
  | [x], _ => simp [pack, isInO, allIn]
  | x :: y :: r, _ => simp [pack, isInO, isIn]
mutual
theorem less_in (k : Str) (n : Int) : ∀ t : T, Wf t → isInO k n (less t) = isIn k n t
  | .set ss, _ => by
    rw [less]
    by_cases h : ss = []
    · subst h; simp [isInO, isIn]
    · rw [if_neg h]; rfl
  | .ring _ _ _, _ => by rw [less]; simp [isInO, isIn]
  | .any ps, h => by
    rw [Wf] at h
    rw [less, pack_in_any, isIn, lessL_any k n ps h]
  | .both ps, h => by
    rw [Wf] at h
    have A := lessL_all k n ps h.2
    have Ln := (lessens ps).len
    rw [less, isIn]
    by_cases c : (lessL ps).length < ps.length
    · rw [if_pos c]; exact (A.2 c).symm
    · rw [if_neg c, pack_in_both, A.1 (by omega)]
      intro z
      rw [z] at c
      exact h.1 (List.eq_nil_of_length_eq_zero (by simp at c; simp [c]))
  | .but a b, h => by
    rw [Wf] at h
    have A := less_in k n a h.1
    have B := less_in k n b h.2
    rw [less, isIn]
    cases ea : less a with
    | none => rw [ea] at A; rw [← A]; rfl
    | some x =>
      rw [ea] at A
      cases eb : less b with
      | none => rw [eb] at B; rw [← A, ← B]; simp [isInO]
      | some y => rw [eb] at B; rw [← A, ← B]; simp [isInO, isIn]
  | .opn k0 n0 r t, h => by
    rw [Wf] at h
    have A := less_in k n t h.2.2.2
    rw [less, isIn]
    cases ea : less t with
    | none => rw [ea] at A; exact A
    | some x => rw [ea] at A; rw [← A]; simp [isInO, isIn]
theorem lessL_any (k : Str) (n : Int) : ∀ ts : List T, Wfs ts → anyIn k n (lessL ts) = anyIn k n ts
  | [], _ => by rw [lessL]
  | t :: ts, h => by
    rw [Wfs] at h
    have A := less_in k n t h.1
    have B := lessL_any k n ts h.2
    rw [lessL, anyIn]
    cases ea : less t with
    | none => rw [ea] at A; rw [← A, B]; simp [isInO]
    | some x => rw [ea] at A; rw [← A, ← B]; simp [isInO, anyIn]
theorem lessL_all (k : Str) (n : Int) : ∀ ts : List T, Wfs ts → ((lessL ts).length = ts.length → allIn k n (lessL ts) = allIn k n ts) ∧ ((lessL ts).length < ts.length → allIn k n ts = false)
  | [], _ => by rw [lessL]; exact ⟨fun _ => rfl, fun z => absurd z (by simp)⟩
  | t :: ts, h => by
    rw [Wfs] at h
    have A := less_in k n t h.1
    have B := lessL_all k n ts h.2
    have L := (lessens ts).len
    rw [lessL]
    cases ea : less t with
    | none =>
      rw [ea] at A
      have A : isIn k n t = false := A.symm
      exact ⟨fun z => by simp only [List.length_cons] at z; omega, fun _ => by rw [allIn, A, Bool.false_and]⟩
    | some x =>
      rw [ea] at A
      have A : isIn k n x = isIn k n t := A
      refine ⟨fun z => ?_, fun z => ?_⟩
      · simp only [List.length_cons] at z
        show allIn k n (x :: lessL ts) = _
        rw [allIn, allIn, A, B.1 (by omega)]
      · simp only [List.length_cons] at z
        rw [allIn, B.2 (by omega), Bool.and_false]
end
/-- data that can be compared -/
def Lay (t : T) : Prop := t.data.canLay0 = true ∧ t.data.depth ≤ 40
theorem lay_parts : ∀ {ts : List T} {c : T}, c ∈ ts → PyData.canLayAll0 (datas ts) = true → c.data.canLay0 = true ∧ c.data.depth ≤ PyData.depthAll (datas ts)
  | t :: ts, c, m, h => by
    simp only [datas, PyData.canLayAll0, Bool.and_eq_true] at h
    rcases List.mem_cons.mp m with rfl | m
    · exact ⟨h.1, by simp only [datas, PyData.depthAll]; omega⟩
    · obtain ⟨a, b⟩ := lay_parts m h.2
      exact ⟨a, by simp only [datas, PyData.depthAll]; omega⟩
theorem lay_inner {t c : T} (h : Lay t) (m : c ∈ inner t) : Lay c := by
  obtain ⟨h1, h2⟩ := h
  cases t with
  | set ss => cases m
  | ring k n r => cases m
  | any ps =>
    simp only [T.data, PyData.canLay0, PyData.canLayAll0, Bool.and_true, Bool.and_eq_true, PyData.depth, PyData.depthAll] at h1 h2
    obtain ⟨a, b⟩ := lay_parts (ts := ps) m h1.2
    exact ⟨a, by omega⟩
  | both ps =>
    simp only [T.data, PyData.canLay0, PyData.canLayAll0, Bool.and_true, Bool.and_eq_true, PyData.depth, PyData.depthAll] at h1 h2
    obtain ⟨a, b⟩ := lay_parts (ts := ps) m h1.2
    exact ⟨a, by omega⟩
  | but a b =>
    simp only [T.data, PyData.canLay0, PyData.canLayAll0, Bool.and_true, Bool.and_eq_true, PyData.depth, PyData.depthAll] at h1 h2
    simp only [inner, List.mem_cons, List.not_mem_nil, or_false] at m
    rcases m with rfl | rfl
    · exact ⟨h1.2.1, by omega⟩
    · exact ⟨h1.2.2, by omega⟩
  | opn k n r t =>
    simp only [T.data, PyData.canLay0, PyData.canLayAll0, Bool.and_true, Bool.and_eq_true, PyData.depth, PyData.depthAll] at h1 h2
    simp only [inner, List.mem_cons, List.not_mem_nil, or_false] at m
    subst m
    exact ⟨h1.2.2.2, by omega⟩
theorem lay_less {t u : T} (h : Lay t) (e : less t = some u) : Lay u := by
  have L := lessen t u e
  exact ⟨L.lay h.1, Nat.le_trans L.dep h.2⟩
theorem lay_lessL {ts : List T} (h : ∀ c ∈ ts, Lay c) : ∀ c ∈ lessL ts, Lay c := by
  induction ts with
  | nil => intro c m; rw [lessL] at m; cases m
  | cons t ts ih =>
    intro c m
    rw [lessL] at m
    cases ea : less t with
    | none => rw [ea] at m; exact ih (fun c m => h c (List.mem_cons_of_mem _ m)) c m
    | some x =>
      rw [ea] at m
      rcases List.mem_cons.mp m with rfl | m
      · exact lay_less (h t (List.mem_cons_self ..)) ea
      · exact ih (fun c m => h c (List.mem_cons_of_mem _ m)) c m
theorem lay_list {ts : List T} (h : ∀ c ∈ ts, Lay c) : SeqAt.shaped (.list (datas ts)) = true ∧ SeqAt.shaped (.tuple (datas ts)) = true := by
  obtain ⟨a, b⟩ := lay_datas (B := 40) ts h
  unfold SeqAt.shaped
  simp only [PyData.canLay0, PyData.depth, a, Bool.true_and]
  exact ⟨decide_eq_true (by omega), decide_eq_true (by omega)⟩
end Wood

set_option maxHeartbeats 8000000
namespace Wood
open PySem PySem.Spec PyProof.Rows L2 Gen LamX NdefX
local macro_rules | `(tactic| walk_at "sz") => `(tactic| first | assumption | omega | (simp only [List.length_map, List.length_append, List.length_cons, List.length_nil, List.length_reverse] at *; omega))
local macro_rules | `(tactic| walk_at "hq") => `(tactic| first | assumption | exact upd_same | (refine same_new (by assumption) _ _ ?_; walk_at "hq") | (refine (show Same _ _ by assumption) _ _ ?_; walk_at "hq") | (refine (upd_ne (by assumption)).trans ?_; walk_at "hq"))
local macro_rules | `(tactic| walk_at "ty") => `(tactic| first | exact .base (.int _) | exact .base (.str _) | exact .base (.bl _) | exact .base .non | (apply TyX.base; apply TyOf.tup; walk_at "hq") | (apply TyX.base; apply TyOf.lst; walk_at "hq"))
local macro_rules | `(tactic| walk_at "dt") => `(tactic| first | assumption | exact DT.str _ | exact DT.int _ | exact DT.bl _ | exact DT.non | (refine Same.dt (same_new (by assumption)) ?_; walk_at "dt") | (refine Same.dt (by assumption) ?_; walk_at "dt"))
local macro_rules | `(tactic| walk_at "at") => `(tactic| first | with_reducible rfl | rfl | assumption | (show _ = some _; walk_at "hq") | (apply SqT.of; walk_at "hq") | (apply SqL.of; walk_at "hq") | (apply Or.inl; apply SqL.of; walk_at "hq") | (apply Or.inr; apply SqT.of; walk_at "hq") | (apply Or.inl; apply SqT.of; walk_at "hq") | (apply Or.inr; apply SqL.of; walk_at "hq") | exact atI_nat (j := 0) rfl | exact atI_nat (j := 1) rfl | exact atI_nat (j := 2) rfl | exact atI_nat (j := 3) rfl | exact .ty _ | exact .int _ | exact .str _ | exact .bl _ | exact ClsV.ty _ | walk_at "ty" | exact kit_ty (by decide +kernel) | exact True.intro | (show tyV _ _ _ _; exact .inl ⟨rfl, _, SqL.of (by walk_at "hq")⟩) | (show TruV _ _ _ _; first | exact .inl ⟨_, SqL.of (by walk_at "hq"), rfl⟩ | exact .inr (.inl ⟨_, SqT.of (by walk_at "hq"), rfl⟩)) | (show DT _ _ _; walk_at "dt") | (apply DT.dp; walk_at "dt") | (apply Exists.intro; apply SqT.of; walk_at "hq") | (apply Exists.intro; apply SqL.of; walk_at "hq") | (show _ ≤ sizeLine; decide) | omega | (refine small1000 ?_; walk_at "sz") | (refine le1000 ?_; walk_at "sz"))
local macro_rules | `(tactic| walk_at "ite") => `(tactic| refine iteB (fun c => ?_) (fun c => ?_))
local macro_rules | `(tactic| walk_at "rd") => `(tactic| repeat (walk_at "st"))
local macro_rules | `(tactic| walk_at "sr") => `(tactic| first | assumption | (apply Src.new; (focus (walk_at "sr")); (focus assumption)) | (apply Src.same; (focus (walk_at "sr")); (focus assumption)))
local macro_rules | `(tactic| walk_at "ar") => `(tactic| first | (show Src _ _ _; walk_at "sr") | (show ((_ : Nat) < _); first | omega | decide | (simp only [List.length_cons, List.length_nil]; omega)) | (show ((_ : Int) < _); first | omega | decide) | (apply Or.inl; assumption) | (apply Or.inr; assumption) | (show ¬ _; simp only [List.length_cons, List.length_nil]; decide) | (show CMul _ _; first | exact .inl ⟨by omega, by omega⟩ | exact .inr ⟨by omega, by omega⟩ | exact .inl ⟨by decide, by decide⟩ | exact .inr ⟨by decide, by decide⟩) | (show CDiv _ _; exact ⟨by omega, by omega⟩) | (show CDiv _ _; exact ⟨by decide, by decide⟩) | (show CDivW _ _; exact wide_div (b := 40) (by omega) (by omega) (by decide) (by decide)) | (show CPow _ _; exact ⟨by decide, by decide, by decide⟩) | (show (0 : Int) < _; omega) | (show (0 : Int) < _; decide))
local macro_rules | `(tactic| walk_at "st") => `(tactic| first | (apply Exists.intro) | (apply And.intro; focus (first | walk_at "ar" | walk_at "at"; done)) | (refine iteT ?_) | (refine iteF ?_) | (refine iteY (by assumption) ?_) | (refine iteN (by assumption) ?_) | (refine iteY (decide_eq_true ?_) ?_; focus (first | assumption | omega)) | (refine iteN (decide_eq_false ?_) ?_; focus (first | assumption | omega)) | (refine (show (∃ _ : Int, _) ∨ (∃ _ : Bool, _) from Or.inl ⟨_, rfl, ?_⟩)) | (refine (show (∃ _ : Int, _) ∨ (∃ _ : Bool, _) from Or.inr ⟨_, rfl, ?_⟩)))
local macro_rules | `(tactic| walk_at "sm") => `(tactic| first | exact (fun _ _ h => h) | assumption | (refine Same.trans ?_ (same_new (by assumption)); walk_at "sm") | (refine Same.trans ?_ (show Same _ _ by assumption); walk_at "sm"))
local macro_rules | `(tactic| walk_at "ri") => `(tactic| repeat (first | walk_at "st" | refine fun (_ : Addr) (_ : _ = none) => ?_))
abbrev S__law_less : Stmt := top 35
theorem sc__law_less : FnScope ["bough", "part", "parts", "left"] ["bough"] (defScope S__law_less) := ⟨rfl, rfl, rfl, by decide +kernel, rfl, by decide +kernel, by decide +kernel⟩
def odat : Option T → List PyData
  | none => []
  | some t => [t.data]
/-- a list of what is left of a tree -/
def ListOf (F : Addr → Prop) (H : Hp) (v : V) (o : Option T) : Prop := ∃ a zs, v = .ref a ∧ F a ∧ H a = some (.lst zs) ∧ DTs H zs (odat o)
theorem ListOf.keep {F : Addr → Prop} {H H' : Hp} {v : V} {o : Option T} (s : Same H H') (h : ListOf F H v o) : ListOf F H' v o := by
  obtain ⟨a, zs, e, f, h1, h2⟩ := h
  exact ⟨a, zs, e, f, s _ _ h1, Same.dts s h2⟩
inductive ListsOf (F : Addr → Prop) (H : Hp) : List V → List (Option T) → Prop
  | nil : ListsOf F H [] []
  | cons {v vs o os} : ListOf F H v o → ListsOf F H vs os → ListsOf F H (v :: vs) (o :: os)
section
variable {F : Addr → Prop}
theorem ListsOf.keep {H H' : Hp} (s : Same H H') : ∀ {vs : List V} {os : List (Option T)}, ListsOf F H vs os → ListsOf F H' vs os
  | _, _, .nil => .nil
  | _, _, .cons a b => .cons (a.keep s) (b.keep s)
theorem ListsOf.snoc {H : Hp} {v : V} {o : Option T} (g : ListOf F H v o) : ∀ {vs : List V} {os : List (Option T)}, ListsOf F H vs os → ListsOf F H (vs ++ [v]) (os ++ [o])
  | _, _, .nil => .cons g .nil
  | _, _, .cons a b => .cons a (b.snoc g)
theorem ListsOf.length {H : Hp} : ∀ {vs : List V} {os : List (Option T)}, ListsOf F H vs os → vs.length = os.length
  | _, _, .nil => rfl
  | _, _, .cons _ b => by rw [List.length_cons, List.length_cons, b.length]
theorem ListsOf.get {H : Hp} : ∀ {vs : List V} {os : List (Option T)} {i : Nat} {v : V}, ListsOf F H vs os → vs[i]? = some v → ∃ o, os[i]? = some o ∧ ListOf F H v o
  | _, _, 0, v, .cons a _, e => by
    obtain rfl := Option.some.inj e
    exact ⟨_, rfl, a⟩
  | _, _, i + 1, v, .cons _ b, e => by
    obtain ⟨o, e2, g⟩ := b.get (i := i) (by simpa using e)
    exact ⟨o, by simpa using e2, g⟩
theorem ListsOf.dp {K : PySem.W.Frag} {H : Hp} : ∀ {vs : List V} {os : List (Option T)}, ListsOf F H vs os → DpAll K H vs (os.map fun o => .list (odat o))
  | _, _, .nil => .nil
  | _, _, .cons a b => by
    obtain ⟨x, zs, rfl, _, h1, h2⟩ := a
    exact .cons (.lst (SqL.of h1) h2.dp) b.dp
theorem ListsOf.upd {H : Hp} {D : Addr} {xs ys : List V} (e : H D = some (.lst xs)) (n : ∀ a, F a → a ≠ D) : ∀ {vs : List V} {os : List (Option T)}, ListsOf F H vs os → ListsOf F (upd H D (.lst ys)) vs os
  | _, _, .nil => .nil
  | _, _, .cons a b => by
    obtain ⟨x, zs, rfl, f, h1, h2⟩ := a
    exact .cons ⟨x, zs, rfl, f, by rw [upd_ne (n x f)]; exact h1, h2.keep (tups_lst e)⟩ (b.upd e n)
end
def Fr0 (H : Hp) (D : Addr) (a : Addr) : Prop := H a = none ∧ a ≠ D
/-- the parts so far -/
structure PartsLs (H0 H : Hp) (D : Addr) (os : List (Option T)) (H2 : Hp) : Prop where
  same : Same H H2
  acc : ∃ ys, H2 D = some (.lst ys) ∧ ListsOf (Fr0 H0 D) H2 ys os
theorem parts0 {H0 H : Hp} {D : Addr} (h : H D = none) : PartsLs H0 H D ([].take 0) (upd H D (.lst [])) := ⟨same_new h, [], upd_same, .nil⟩
theorem parts_push {H0 H H2 H3 : Hp} {D a : Addr} {os : List (Option T)} {o : Option T} {ys zs : List V} (S1 : Same H0 H) (h : PartsLs H0 H D os H2) (hD : H D = none) (s : Same H2 H3) (e : H3 D = some (.lst ys)) (n : H2 a = none) (ea : H3 a = some (.lst zs)) (d : DTs H3 zs (odat o)) :
    PartsLs H0 H D (os ++ [o]) (upd H3 D (.lst (ys ++ [.ref a]))) := by
  obtain ⟨s2, ws, hw, dw⟩ := h
  have e2 := s _ _ hw
  rw [e] at e2
  obtain rfl : ys = ws := by injection e2 with e2; injection e2
  have nD : a ≠ D := fun z => by rw [z, hw] at n; cases n
  refine ⟨fun b o z => ?_, _, upd_same, ?_⟩
  · rw [upd_ne (ne_of_none z hD)]
    exact s _ _ (s2 _ _ z)
  · exact ((dw.keep s).upd e fun a f => f.2).snoc ⟨a, zs, rfl, ⟨S1.free (s2.free n), nD⟩, by rw [upd_ne nD]; exact ea, d.keep (tups_lst e)⟩
/-- what is left so far -/
structure LeftLs (H0 H : Hp) (l : Addr) (os : List (Option T)) (i : Nat) (H2 : Hp) : Prop where
  same : Same H H2
  new : H0 l = none
  acc : ∃ ws, H2 l = some (.lst ws) ∧ DTs H2 ws (datas ((os.take i).filterMap id))
theorem left_0 {H0 H : Hp} {l : Addr} {os : List (Option T)} (S : Same H0 H) (h : H l = none) : LeftLs H0 H l os 0 (upd H l (.lst [])) := ⟨same_new h, S.free h, [], upd_same, by simp only [List.take_zero, List.filterMap_nil, datas]; exact .nil⟩
theorem left_next {H0 H H2 : Hp} {l p : Addr} {os : List (Option T)} {o : Option T} {i : Nat} {ws zs : List V} (S : Same H0 H) (h : LeftLs H0 H l os i H2) (eo : os[i]? = some o) (hp : H2 p = none) (hw : H2 l = some (.lst ws)) (dz : DTs H2 zs (odat o)) :
    LeftLs H0 H p os (i + 1) (upd H2 p (.lst (ws ++ zs))) := by
  obtain ⟨s2, _, ws', hw', dw⟩ := h
  rw [hw] at hw'
  obtain rfl : ws = ws' := by injection hw' with e2; injection e2
  refine ⟨s2.trans (same_new hp), S.free (s2.free hp), _, upd_same, ?_⟩
  rw [take_get eo, List.filterMap_append, datas_map, List.map_append, ← datas_map]
  refine (Same.dts (same_new hp) dw).append ?_
  cases o with
  | none => simpa [odat] using Same.dts (same_new hp) dz
  | some t => simpa [odat] using Same.dts (same_new hp) dz
theorem List.take_length' {α : Type} (xs : List α) : xs.take xs.length = xs := List.take_length
theorem eqv_nilL (ds : List PyData) : PyData.eqv (.list ds) (.list []) = ds.isEmpty := by
  cases ds <;> simp [PyData.eqv, PyData.eqvAll]
theorem nilL_shaped : SeqAt.shaped (.list []) = true := by decide +kernel
theorem odat_lay {o : Option T} (h : ∀ u, o = some u → Lay u) : (PyData.list (odat o)).canLay0 = true ∧ (PyData.list (odat o)).depth ≤ 41 := by
  cases o with
  | none => exact ⟨rfl, by simp [odat, PyData.depth, PyData.depthAll]⟩
  | some u =>
    obtain ⟨c, d⟩ := h u rfl
    simp only [odat, PyData.canLay0, PyData.canLayAll0, PyData.depth, PyData.depthAll, c, Bool.and_true]
    exact ⟨trivial, by omega⟩
theorem os_lay : ∀ {os : List (Option T)}, (∀ u, some u ∈ os → Lay u) → PyData.canLayAll0 (os.map fun o => .list (odat o)) = true ∧ PyData.depthAll (os.map fun o => .list (odat o)) ≤ 41
  | [], _ => by simp [PyData.canLayAll0, PyData.depthAll]
  | o :: os, h => by
    obtain ⟨a, b⟩ := os_lay fun u m => h u (List.mem_cons_of_mem _ m)
    obtain ⟨c, d⟩ := odat_lay (o := o) fun u e => h u (by rw [e]; exact List.mem_cons_self ..)
    simp only [List.map_cons, PyData.canLayAll0, PyData.depthAll, a, c, Bool.and_self, true_and]
    omega
theorem lists_shaped {ts : List T} (h : ∀ c ∈ ts, Lay c) : SeqAt.shaped (.list ((ts.map less).map fun o => .list (odat o))) = true := by
  obtain ⟨a, b⟩ := os_lay (os := ts.map less) fun u m => by
    obtain ⟨c, mc, e⟩ := List.mem_map.mp m
    exact lay_less (h c mc) e
  unfold SeqAt.shaped
  simp only [PyData.canLay0, PyData.depth, a, Bool.true_and]
  exact decide_eq_true (by omega)
theorem odat_shaped {t : T} (h : Lay t) : SeqAt.shaped (.list (odat (less t))) = true := by
  cases e : less t with
  | none => exact nilL_shaped
  | some u =>
    obtain ⟨c, d⟩ := lay_less h e
    unfold SeqAt.shaped
    simp only [odat, PyData.canLay0, PyData.canLayAll0, PyData.depth, PyData.depthAll, c, Bool.and_true, Bool.true_and]
    exact decide_eq_true (by omega)
theorem os_any : ∀ os : List (Option T), (os.map fun o => PyData.list (odat o)).any (fun z => PyData.eqv z (.list [])) = decide ((os.filterMap id).length < os.length)
  | [] => rfl
  | o :: os => by
    have L := List.length_filterMap_le id os
    rw [List.map_cons, List.any_cons, os_any os, eqv_nilL]
    cases o with
    | none =>
      rw [show (odat none).isEmpty = true from rfl, Bool.true_or]
      exact (decide_eq_true (by simp only [List.filterMap_cons, id, List.length_cons]; omega)).symm
    | some u =>
      rw [show (odat (some u)).isEmpty = false from rfl, Bool.false_or]
      congr 1
      simp only [List.filterMap_cons, id, List.length_cons]
      exact propext ⟨fun h => by omega, fun h => by omega⟩
theorem lists_any (ts : List T) : ((ts.map less).map fun o => PyData.list (odat o)).any (fun z => PyData.eqv z (.list [])) = decide ((lessL ts).length < ts.length) := by
  rw [os_any, lessL_eq, List.length_map]
def spLess (m : Nat) : Sp := fun vs H Q _ => ∃ (v : V) (t : T), vs = [v] ∧ DT H v t.data ∧ deep t ≤ m ∧ size t ≤ 900 ∧ Lay t ∧ ∀ a zs H', Same H H' → H a = none → H' a = some (.lst zs) → DTs H' zs (odat (less t)) → Q (.ref a) H'
def spPrevL : Nat → Sp
  | 0 => fun _ _ _ _ => False
  | m + 1 => spLess m
section
variable {P : Program} {w : World} {K : PySem.W.Frag} {mg : Str → Option Value} {base : Heap}
theorem ok_less_step (m : Nat) {f : Addr} {fd : FuncData} (F : Fun K "_law_less" "_law_less" S__law_less f fd) (m_int : mg "int" = none) {f__law_inner : Addr} {fd__law_inner : FuncData} (G__law_inner : FnOk P w K mg base CX0 1 f__law_inner fd__law_inner ["bough"] spInner) (g__law_inner : mg "_law_inner" = some (.ref f__law_inner)) (k__law_inner : PySem.W.keepIn K (.ref f__law_inner) = true) (b__law_inner : Binds K fd__law_inner ["bough"] []) (m_len : mg "len" = none) (m_tuple : mg "tuple" = none) (G__law_less : FnOk P w K mg base CX0 (1 + m) f fd ["bough"] (spPrevL m)) (g__law_less : mg "_law_less" = some (.ref f)) (k__law_less : PySem.W.keepIn K (.ref f) = true) (b__law_less : L2.Binds K fd ["bough"] []) :
    FnOk P w K mg base CX0 (1 + m + 1) f fd ["bough"] (spLess m) := by
  refine F.ok sc__law_less (fun vs H Q E h => ?_) (fun cdv A outer s H vs Q E hr h => ?_)
  · obtain ⟨x, _, rfl, _⟩ := h
    rfl
  · obtain ⟨v, t, rfl, hv, dp, sz, ly, q⟩ := h
    have dq := deep_eq t
    obtain ⟨m, rfl⟩ : ∃ k, m = k + 1 := ⟨m - 1, by omega⟩
    have hu65 : (A.deeper (envOfC "_law_less" (defScope S__law_less) s.heap.objs.size f cdv)).units + 65 < cLine := by have := hr.un; omega
    have hu64 : (A.deeper (envOfC "_law_less" (defScope S__law_less) s.heap.objs.size f cdv)).units + 64 < cLine := by have := hr.un; omega
    have hv0 := hv
    refine ⟨_, pss_cons (ps_if (pt_cmpR op_in_seq (pe_ix (r := rIxT K) ix_tup (pv 0) (pe_int) (fun _ _ => rfl)) (pe_tup (pa_cons (pe_str) (pa_cons (pe_str) pa_nil))) (by rfl))
        (pss_one (ps_ret (pe_op op_rep (pe_lst (pa_cons (pv 0) pa_nil)) (pe_callTy (call_int1) (by rfl) m_int (by decide +kernel) (pa_cons (pe_and (pe_cmpR op_eq (pe_ix (r := rIxT K) ix_tup (pv 0) (pe_int) (fun _ _ => rfl)) (pe_str) (nomark _)) (pe_one (pe_cmpR (r := rNeD K) (op_neD hu64) (pe_ix (r := rIxT K) ix_tup (pv 0) (pe_int) (fun _ _ => rfl)) (pe_tup pa_nil) (nomark _)))) pa_nil)))))
        (pss_nil))
      (pss_cons (ps_par (i := 2) (j := 3) (by rfl) sc__law_less.nd rfl rfl (by decide) rfl rfl (pa_cons (pe_lc (own := [("part", 1)]) (g := (gName 1)) (tt := tYes) (by rfl) sc__law_less.nd (pi_tup (pe_call G__law_inner (hr.mono (by omega)) (by rfl) g__law_inner k__law_inner b__law_inner .nil pass0 (pa_cons (pv 0) pa_nil))) (blkOk_by (own := [("part", 1)]) (N := ["bough", "part", "parts", "left"]) (sc := defScope S__law_less) (by decide +kernel)) (fun _ _ _ _ _ => pg_name (i := 1) sc__law_less.nd rfl (.inl rfl)) (fun _ _ _ _ _ => pts_nil) (fun _ _ _ _ _ => pe_call G__law_less (hr.mono (by omega)) (by rfl) g__law_less k__law_less b__law_less .nil pass0 (pa_cons (pv 1) pa_nil))) (pa_cons (pe_lst pa_nil) pa_nil)) (by rfl))
      (pss_cons (ps_for PassesOwn.never rfl (pi_list (pv 2)) (pg_name (i := 1) sc__law_less.nd rfl (.inl rfl))
        (pss_one (ps_set (i := 3) sc__law_less.nd rfl (.inl rfl) (pe_op op_cat (pv 3) (pv 1)))))
      (pss_cons (ps_if (pt_cmpR op_eq (pe_ix (r := rIxT K) ix_tup (pv 0) (pe_int) (fun _ _ => rfl)) (pe_str) (nomark _))
        (pss_one (ps_ret (pe_ifExp (pt_cmpR (r := rNeD K) (op_neD hu64) (pv 3) (pe_lst pa_nil) (nomark _)) (pe_lst (pa_cons (pe_op (r := rCatT K) op_catT (pe_slice (r := rSlT K) sl_tup (pv 0) po_none (po_some (pe_int))) (pe_tup (pa_cons (pe_ix (r := rIxL K) ix_list (pv 3) (pe_int) (fun _ _ => rfl)) pa_nil))) pa_nil)) (pe_lst pa_nil))))
        (pss_nil))
      (pss_cons (ps_if (pt_cmpR op_eq (pe_ix (r := rIxT K) ix_tup (pv 0) (pe_int) (fun _ _ => rfl)) (pe_str) (nomark _))
        (pss_one (ps_ret (pe_ifExp (PW.pt (pw_or (pt_cmpR (r := rEqD K) (op_eqD hu64) (pe_ix (r := rIxL K) ix_list (pv 2) (pe_int) (fun _ _ => rfl)) (pe_lst pa_nil) (nomark _)) (pw_or1 (pt_cmpR (r := rEqD K) (op_eqD hu64) (pe_ix (r := rIxL K) ix_list (pv 2) (pe_int) (fun _ _ => rfl)) (pe_lst pa_nil) (nomark _))))) (pe_ix (r := rIxL K) ix_list (pv 2) (pe_int) (fun _ _ => rfl)) (pe_lst (pa_cons (pe_tup (pa_cons (pe_str) (pa_cons (pe_ix (r := rIxL K) ix_list (pv 3) (pe_int) (fun _ _ => rfl)) (pa_cons (pe_ix (r := rIxL K) ix_list (pv 3) (pe_int) (fun _ _ => rfl)) pa_nil)))) pa_nil)))))
        (pss_nil))
      (pss_cons (ps_if (PW.pt (pw_or (pt_cmpR (r := rEqD K) (op_eqD hu64) (pv 3) (pe_lst pa_nil) (nomark _)) (pw_or1 (PW.pt (pw_and (pt_cmpR op_eq (pe_ix (r := rIxT K) ix_tup (pv 0) (pe_int) (fun _ _ => rfl)) (pe_str) (nomark _)) (pw_and1 (pt_cmpR (r := rInDL K) (op_inDL hu65) (pe_lst pa_nil) (pv 2) (by rfl))))))))
        (pss_one (ps_ret (pe_lst pa_nil)))
        (pss_nil))
      (pss_one (ps_ret (pe_ifExp (pt_cmpR op_eq (pe_callB (r := rLenQ K) (call_len_seq) (by rfl) m_len PySem.boot_len (pa_cons (pv 3) pa_nil)) (pe_int) (nomark _)) (pv 3) (pe_lst (pa_cons (pe_tup (pa_cons (pe_ix (r := rIxT K) ix_tup (pv 0) (pe_int) (fun _ _ => rfl)) (pa_cons (pe_callTy (r := rTupOf K) (call_tuple_of) (by rfl) m_tuple (by decide +kernel) (pa_cons (pv 3) pa_nil)) pa_nil))) pa_nil)))))))))), ?_⟩
    cases t with
    | set ss =>
      rw [T.data] at hv
      obtain ⟨p2, x1, x2, rfl, hp2, w1, w2⟩ := hv.two_inv
      obtain rfl := w1.str_inv
      have shs : SeqAt.shaped (.tuple (ss.map Sb.data)) = true := by
        have l1 := ly.1
        have l2 := ly.2
        unfold SeqAt.shaped
        simp only [T.data, PyData.canLay0, PyData.canLayAll0, Bool.and_true, Bool.and_eq_true, PyData.depth, PyData.depthAll] at l1 l2 ⊢
        exact ⟨l1.2, decide_eq_true (by omega)⟩
      walk_at "rd"
      intro T1 hT1
      walk_at "rd"
      intro l hl
      walk_at "rd"
      intro te hte
      have S1 := (same_new (o := .tup [.str "set", .str "ring"]) hT1).trans (same_new (o := .lst [.ref p2]) hl)
      have hl2 := same_new (o := .tup []) hte _ _ (upd_same (H := upd H T1 (.tup [.str "set", .str "ring"])) (a := l) (o := .lst [.ref p2]))
      have S2 := S1.trans (same_new (o := .tup []) hte)
      have w2' := Same.dt S2 w2
      refine ⟨_, _, w2'.dp, (DT.laid hte .nil).dp, shs, nilT_shaped, ?_⟩
      rw [eqv_nilT]
      cases ss with
      | nil =>
        walk_at "rd"
        intro p hp
        exact q _ _ _ (S2.trans (same_new hp)) (S2.free hp) upd_same (by simp [less, odat]; exact .nil)
      | cons s0 sr =>
        walk_at "rd"
        intro p hp
        exact q _ _ _ (S2.trans (same_new hp)) (S2.free hp) upd_same (by simp [less, odat]; exact .cons (Same.dt (S2.trans (same_new hp)) hv0) .nil)
    | ring k0 n0 r0 =>
      rw [T.data] at hv
      obtain ⟨p2, x1, x2, x3, rfl, hp2, w1, w2, w3⟩ := hv.three_inv
      obtain rfl := w1.str_inv
      walk_at "rd"
      intro T1 hT1
      walk_at "rd"
      intro l hl
      walk_at "rd"
      intro p hp
      have S1 := (same_new (o := .tup [.str "set", .str "ring"]) hT1).trans (same_new (o := .lst [.ref p2]) hl)
      exact q _ _ _ (S1.trans (same_new hp)) (S1.free hp) upd_same (by simp [less, odat]; exact .nil)
    | any ps =>
      have inn : ∀ c ∈ inner (T.any ps), deep c ≤ m ∧ size c ≤ 900 ∧ Lay c := fun c mc => by
        have := deep_mem mc
        have := size_inner mc
        exact ⟨by omega, by omega, lay_inner ly mc⟩
      generalize hT : inner (T.any ps) = cs at inn
      rw [T.data] at hv
      obtain ⟨p2, x1, x2, rfl, hp2, w1, w2⟩ := DT.two_inv hv
      obtain rfl := w1.str_inv
      walk_at "rd"
      intro T1 hT1
      walk_at "rd"
      intro v1 H1 s1 dv
      rw [hT] at dv
      have S1 : Same H H1 := (same_new hT1).trans s1
      obtain ⟨pv, us1, rfl, hpv, dus⟩ := dv.tup_inv
      walk_at "rd"
      intro D hD
      have D0 := S1.free hD
      refine lc_tup (K := K) (a := pv) (xs := us1) (fun i => PartsLs H H1 D ((cs.map less).take i)) (parts0 hD) (fun i H2 _ h => SqT.of (h.same _ _ hpv)) ?_ ?_
      · rintro i x H2 hi h
        obtain ⟨d, ed, gd⟩ := (Same.dts h.same dus).get hi
        rw [datas_map] at ed
        obtain ⟨c, ec, rfl⟩ := map_get ed
        obtain ⟨i1, i2, i3⟩ := inn c (List.mem_of_getElem? ec)
        obtain ⟨ys, hy, ly2⟩ := h.acc
        have yl : ys.length < 1000 := by
          have l1 := sizes_len cs
          have l2 := size_eq (T.any ps)
          rw [hT] at l2
          rw [ly2.length, List.length_take, List.length_map]
          omega
        walk_at "rd"
        intro a2 zs2 H3 s3 n2 e3 d3
        walk_at "rd"
        rw [take_get (show (cs.map less)[i]? = some (less c) by simp [ec])]
        exact parts_push S1 h hD s3 (s3 _ _ hy) n2 e3 d3
      · rintro H2 ⟨s2, ys, hy, ly2⟩
        have lx : us1.length = (cs.map less).length := by rw [dus.length, datas_map, List.length_map, List.length_map]
        rw [lx, List.take_length] at ly2
        have csl : cs.length ≤ 900 := by
          have l1 := sizes_len cs
          have l2 := size_eq (T.any ps)
          rw [hT] at l2
          omega
        have yl : ys.length = cs.length := by rw [ly2.length, List.length_map]
        have S2 := S1.trans s2
        walk_at "rd"
        intro lf hlf
        walk_at "rd"
        refine (for_it (walk_list (K := K) (a := D) (xs := ys)) (fun i σ H3 => ∃ o1 lf, σ = [some (.ref p2), o1, some (.ref D), some (.ref lf)] ∧ LeftLs H H2 lf (cs.map less) i H3)
          ⟨_, _, rfl, left_0 S2 hlf⟩ (fun i σ H3 _ ⟨_, _, _, h⟩ => SqL.of (h.same _ _ hy)) ?_ ?_).choose_spec
        · rintro i x σ H3 H4 hi ⟨o1, lf, rfl, h⟩ ⟨rfl, ex⟩
          obtain ⟨o, eo, ox⟩ := ly2.get ex
          obtain ⟨a, zs, rfl, na, ha, dz⟩ := ox.keep h.same
          obtain ⟨s4, nl, ws, hw, dw⟩ := h
          have wl : ws.length ≤ 900 := by
            rw [dw.length, datas_map, List.length_map]
            have := List.length_filterMap_le id ((cs.map less).take i)
            rw [List.length_take, List.length_map] at this
            omega
          have zl : zs.length ≤ 1 := by rw [dz.length]; cases o <;> simp [odat]
          walk_at "rd"
          intro p hp
          exact ⟨_, _, rfl, left_next S2 ⟨s4, nl, ws, hw, dw⟩ eo hp hw dz⟩
        · rintro σ H3 ⟨o1, lf, rfl, h⟩
          obtain ⟨s4, nl, ws, hw, dw⟩ := h
          rw [List.take_of_length_le (by rw [List.length_map]; omega)] at dw
          rw [← lessL_eq] at dw
          have hy3 := s4 _ _ hy
          have ly3 := ly2.keep s4
          have S3 := S2.trans s4
          have hv3 := Same.dt S3 hv0
          have hp3 := S3 _ _ hp2
          have lays := lay_list (lay_lessL fun c m => (inn c m).2.2)
          have wl : ws.length = (lessL cs).length := by rw [dw.length, datas_map, List.length_map]
          have ll := (lessens cs).len
          obtain rfl : ps = cs := hT
          rw [less] at q
          have lays := lays.1
          generalize hL : lessL ps = L at q dw lays wl ll
          walk_at "rd"
          intro e0 he0
          have S4 := S3.trans (same_new (o := .lst []) he0)
          have hw4 := same_new (o := .lst []) he0 _ _ hw
          have dw4 := Same.dts (same_new (o := .lst []) he0) dw
          have hp4 := S4 _ _ hp2
          refine ⟨_, _, .lst (SqL.of hw4) dw4.dp, .lst (SqL.of upd_same) .nil, lays, nilL_shaped, _, rfl, ?_⟩
          rw [eqv_nilL]
          match L, ws, q, dw4, wl, hw4 with
          | [], [], q, dw4, wl, hw4 =>
            walk_at "rd"
            intro p hp
            exact q _ _ _ (S4.trans (same_new hp)) (S4.free hp) upd_same .nil
          | [x0], [w0], q, dw4, wl, hw4 =>
            walk_at "rd"
            exact q _ _ _ S4 nl hw4 (by simpa [datas, pack, odat] using dw4)
          | x0 :: x1 :: xr, w0 :: w1 :: wr, q, dw4, wl, hw4 =>
            have n1 : decide (((w0 :: w1 :: wr).length : Int) = 1) = false := decide_eq_false (by simp only [List.length_cons]; omega)
            have n2 : decide (V.int ((w0 :: w1 :: wr).length : Int) = V.int 1) = false := decide_eq_false (fun z => by have := V.int.inj z; simp only [List.length_cons] at this; omega)
            walk_at "rd"
            refine .inl ⟨SqL.of hw4, fun t3 ht3 => ?_⟩
            walk_at "rd"
            intro t4 ht4
            walk_at "rd"
            intro l5 hl5
            have S5 := S4.trans ((same_new (o := .tup (w0 :: w1 :: wr)) ht3).trans ((same_new (o := .tup [.str "any", .ref t3]) ht4).trans (same_new (o := .lst [.ref t4]) hl5)))
            refine q _ _ _ S5 (((S4.trans (same_new ht3)).trans (same_new ht4)).free hl5) upd_same ?_
            simp only [pack, odat, T.data]
            exact .cons (Same.dt (same_new hl5) (DT.laid ht4 (.cons (.str _) (.cons (DT.laid ht3 dw4) .nil)))) .nil

    | both ps =>
      have inn : ∀ c ∈ inner (T.both ps), deep c ≤ m ∧ size c ≤ 900 ∧ Lay c := fun c mc => by
        have := deep_mem mc
        have := size_inner mc
        exact ⟨by omega, by omega, lay_inner ly mc⟩
      generalize hT : inner (T.both ps) = cs at inn
      rw [T.data] at hv
      obtain ⟨p2, x1, x2, rfl, hp2, w1, w2⟩ := DT.two_inv hv
      obtain rfl := w1.str_inv
      walk_at "rd"
      intro T1 hT1
      walk_at "rd"
      intro v1 H1 s1 dv
      rw [hT] at dv
      have S1 : Same H H1 := (same_new hT1).trans s1
      obtain ⟨pv, us1, rfl, hpv, dus⟩ := dv.tup_inv
      walk_at "rd"
      intro D hD
      have D0 := S1.free hD
      refine lc_tup (K := K) (a := pv) (xs := us1) (fun i => PartsLs H H1 D ((cs.map less).take i)) (parts0 hD) (fun i H2 _ h => SqT.of (h.same _ _ hpv)) ?_ ?_
      · rintro i x H2 hi h
        obtain ⟨d, ed, gd⟩ := (Same.dts h.same dus).get hi
        rw [datas_map] at ed
        obtain ⟨c, ec, rfl⟩ := map_get ed
        obtain ⟨i1, i2, i3⟩ := inn c (List.mem_of_getElem? ec)
        obtain ⟨ys, hy, ly2⟩ := h.acc
        have yl : ys.length < 1000 := by
          have l1 := sizes_len cs
          have l2 := size_eq (T.both ps)
          rw [hT] at l2
          rw [ly2.length, List.length_take, List.length_map]
          omega
        walk_at "rd"
        intro a2 zs2 H3 s3 n2 e3 d3
        walk_at "rd"
        rw [take_get (show (cs.map less)[i]? = some (less c) by simp [ec])]
        exact parts_push S1 h hD s3 (s3 _ _ hy) n2 e3 d3
      · rintro H2 ⟨s2, ys, hy, ly2⟩
        have lx : us1.length = (cs.map less).length := by rw [dus.length, datas_map, List.length_map, List.length_map]
        rw [lx, List.take_length] at ly2
        have csl : cs.length ≤ 900 := by
          have l1 := sizes_len cs
          have l2 := size_eq (T.both ps)
          rw [hT] at l2
          omega
        have yl : ys.length = cs.length := by rw [ly2.length, List.length_map]
        have S2 := S1.trans s2
        walk_at "rd"
        intro lf hlf
        walk_at "rd"
        refine (for_it (walk_list (K := K) (a := D) (xs := ys)) (fun i σ H3 => ∃ o1 lf, σ = [some (.ref p2), o1, some (.ref D), some (.ref lf)] ∧ LeftLs H H2 lf (cs.map less) i H3)
          ⟨_, _, rfl, left_0 S2 hlf⟩ (fun i σ H3 _ ⟨_, _, _, h⟩ => SqL.of (h.same _ _ hy)) ?_ ?_).choose_spec
        · rintro i x σ H3 H4 hi ⟨o1, lf, rfl, h⟩ ⟨rfl, ex⟩
          obtain ⟨o, eo, ox⟩ := ly2.get ex
          obtain ⟨a, zs, rfl, na, ha, dz⟩ := ox.keep h.same
          obtain ⟨s4, nl, ws, hw, dw⟩ := h
          have wl : ws.length ≤ 900 := by
            rw [dw.length, datas_map, List.length_map]
            have := List.length_filterMap_le id ((cs.map less).take i)
            rw [List.length_take, List.length_map] at this
            omega
          have zl : zs.length ≤ 1 := by rw [dz.length]; cases o <;> simp [odat]
          walk_at "rd"
          intro p hp
          exact ⟨_, _, rfl, left_next S2 ⟨s4, nl, ws, hw, dw⟩ eo hp hw dz⟩
        · rintro σ H3 ⟨o1, lf, rfl, h⟩
          obtain ⟨s4, nl, ws, hw, dw⟩ := h
          rw [List.take_of_length_le (by rw [List.length_map]; omega)] at dw
          rw [← lessL_eq] at dw
          have hy3 := s4 _ _ hy
          have ly3 := ly2.keep s4
          have S3 := S2.trans s4
          have hv3 := Same.dt S3 hv0
          have hp3 := S3 _ _ hp2
          have lays := lay_list (lay_lessL fun c m => (inn c m).2.2)
          have wl : ws.length = (lessL cs).length := by rw [dw.length, datas_map, List.length_map]
          have ll := (lessens cs).len
          obtain rfl : ps = cs := hT
          rw [less] at q
          have shl := lists_shaped fun c m => (inn c m).2.2
          have lays := lays.1
          have la := lists_any ps
          generalize hL : lessL ps = L at q dw lays wl ll la
          walk_at "rd"
          intro e0 he0
          have S4 := S3.trans (same_new (o := .lst []) he0)
          have hw4 := same_new (o := .lst []) he0 _ _ hw
          have dw4 := Same.dts (same_new (o := .lst []) he0) dw
          have hp4 := S4 _ _ hp2
          have hy4 := same_new (o := .lst []) he0 _ _ hy3
          have ly4 := ly3.keep (same_new (o := .lst []) he0)
          refine ⟨_, _, .lst (SqL.of hw4) dw4.dp, .lst (SqL.of upd_same) .nil, lays, nilL_shaped, _, rfl, ?_⟩
          rw [eqv_nilL]
          match L, ws, q, dw4, wl, hw4, ll, la with
          | [], [], q, dw4, wl, hw4, ll, la =>
            walk_at "rd"
            intro p hp
            exact q _ _ _ (S4.trans (same_new hp)) (S4.free hp) upd_same (by split <;> exact .nil)
          | x0 :: xr, w0 :: wr, q, dw4, wl, hw4, ll, la =>
            walk_at "rd"
            intro e1 he1
            have S5 := S4.trans (same_new (o := .lst []) he1)
            have hw5 := same_new (o := .lst []) he1 _ _ hw4
            have dw5 := Same.dts (same_new (o := .lst []) he1) dw4
            have hp5 := S5 _ _ hp2
            refine ⟨_, rfl, _, _, .lst (SqL.of upd_same) .nil, .lst (SqL.of (same_new (o := .lst []) he1 _ _ hy4)) (ly4.keep (same_new (o := .lst []) he1)).dp, nilL_shaped, shl, _, rfl, ?_⟩
            rw [la]
            refine iteB (fun c => ?_) (fun c => ?_)
            · walk_at "rd"
              intro p hp
              exact q _ _ _ (S5.trans (same_new hp)) (S5.free hp) upd_same (by rw [if_pos (dT c)]; exact .nil)
            · rw [if_neg (dF c)] at q
              match xr, wr, q, dw5, wl, hw5 with
              | [], [], q, dw5, wl, hw5 =>
                walk_at "rd"
                exact q _ _ _ S5 nl hw5 (by simpa [datas, pack, odat] using dw5)
              | x1 :: xr, w1 :: wr, q, dw5, wl, hw5 =>
                have n1 : decide (((w0 :: w1 :: wr).length : Int) = 1) = false := decide_eq_false (by simp only [List.length_cons]; omega)
                have n2 : decide (V.int ((w0 :: w1 :: wr).length : Int) = V.int 1) = false := decide_eq_false (fun z => by have := V.int.inj z; simp only [List.length_cons] at this; omega)
                walk_at "rd"
                refine .inl ⟨SqL.of hw5, fun t3 ht3 => ?_⟩
                walk_at "rd"
                intro t4 ht4
                walk_at "rd"
                intro l5 hl5
                have S6 := S5.trans ((same_new (o := .tup (w0 :: w1 :: wr)) ht3).trans ((same_new (o := .tup [.str "both", .ref t3]) ht4).trans (same_new (o := .lst [.ref t4]) hl5)))
                refine q _ _ _ S6 (((S5.trans (same_new ht3)).trans (same_new ht4)).free hl5) upd_same ?_
                simp only [pack, odat, T.data]
                exact .cons (Same.dt (same_new hl5) (DT.laid ht4 (.cons (.str _) (.cons (DT.laid ht3 dw5) .nil)))) .nil

    | but ta tb =>
      have inn : ∀ c ∈ inner (T.but ta tb), deep c ≤ m ∧ size c ≤ 900 ∧ Lay c := fun c mc => by
        have := deep_mem mc
        have := size_inner mc
        exact ⟨by omega, by omega, lay_inner ly mc⟩
      generalize hT : inner (T.but ta tb) = cs at inn
      rw [T.data] at hv
      obtain ⟨p2, x1, x2, x3, rfl, hp2, w1, w2, w3⟩ := DT.three_inv hv
      obtain rfl := w1.str_inv
      walk_at "rd"
      intro T1 hT1
      walk_at "rd"
      intro v1 H1 s1 dv
      rw [hT] at dv
      have S1 : Same H H1 := (same_new hT1).trans s1
      obtain ⟨pv, us1, rfl, hpv, dus⟩ := dv.tup_inv
      walk_at "rd"
      intro D hD
      have D0 := S1.free hD
      refine lc_tup (K := K) (a := pv) (xs := us1) (fun i => PartsLs H H1 D ((cs.map less).take i)) (parts0 hD) (fun i H2 _ h => SqT.of (h.same _ _ hpv)) ?_ ?_
      · rintro i x H2 hi h
        obtain ⟨d, ed, gd⟩ := (Same.dts h.same dus).get hi
        rw [datas_map] at ed
        obtain ⟨c, ec, rfl⟩ := map_get ed
        obtain ⟨i1, i2, i3⟩ := inn c (List.mem_of_getElem? ec)
        obtain ⟨ys, hy, ly2⟩ := h.acc
        have yl : ys.length < 1000 := by
          have l1 := sizes_len cs
          have l2 := size_eq (T.but ta tb)
          rw [hT] at l2
          rw [ly2.length, List.length_take, List.length_map]
          omega
        walk_at "rd"
        intro a2 zs2 H3 s3 n2 e3 d3
        walk_at "rd"
        rw [take_get (show (cs.map less)[i]? = some (less c) by simp [ec])]
        exact parts_push S1 h hD s3 (s3 _ _ hy) n2 e3 d3
      · rintro H2 ⟨s2, ys, hy, ly2⟩
        have lx : us1.length = (cs.map less).length := by rw [dus.length, datas_map, List.length_map, List.length_map]
        rw [lx, List.take_length] at ly2
        have csl : cs.length ≤ 900 := by
          have l1 := sizes_len cs
          have l2 := size_eq (T.but ta tb)
          rw [hT] at l2
          omega
        have yl : ys.length = cs.length := by rw [ly2.length, List.length_map]
        have S2 := S1.trans s2
        walk_at "rd"
        intro lf hlf
        walk_at "rd"
        refine (for_it (walk_list (K := K) (a := D) (xs := ys)) (fun i σ H3 => ∃ o1 lf, σ = [some (.ref p2), o1, some (.ref D), some (.ref lf)] ∧ LeftLs H H2 lf (cs.map less) i H3)
          ⟨_, _, rfl, left_0 S2 hlf⟩ (fun i σ H3 _ ⟨_, _, _, h⟩ => SqL.of (h.same _ _ hy)) ?_ ?_).choose_spec
        · rintro i x σ H3 H4 hi ⟨o1, lf, rfl, h⟩ ⟨rfl, ex⟩
          obtain ⟨o, eo, ox⟩ := ly2.get ex
          obtain ⟨a, zs, rfl, na, ha, dz⟩ := ox.keep h.same
          obtain ⟨s4, nl, ws, hw, dw⟩ := h
          have wl : ws.length ≤ 900 := by
            rw [dw.length, datas_map, List.length_map]
            have := List.length_filterMap_le id ((cs.map less).take i)
            rw [List.length_take, List.length_map] at this
            omega
          have zl : zs.length ≤ 1 := by rw [dz.length]; cases o <;> simp [odat]
          walk_at "rd"
          intro p hp
          exact ⟨_, _, rfl, left_next S2 ⟨s4, nl, ws, hw, dw⟩ eo hp hw dz⟩
        · rintro σ H3 ⟨o1, lf, rfl, h⟩
          obtain ⟨s4, nl, ws, hw, dw⟩ := h
          rw [List.take_of_length_le (by rw [List.length_map]; omega)] at dw
          rw [← lessL_eq] at dw
          have hy3 := s4 _ _ hy
          have ly3 := ly2.keep s4
          have S3 := S2.trans s4
          have hv3 := Same.dt S3 hv0
          have hp3 := S3 _ _ hp2
          have lays := lay_list (lay_lessL fun c m => (inn c m).2.2)
          have wl : ws.length = (lessL cs).length := by rw [dw.length, datas_map, List.length_map]
          have ll := (lessens cs).len
          obtain rfl : cs = [ta, tb] := hT.symm
          rw [less] at q
          have la := (inn ta (by simp)).2.2
          have lb := (inn tb (by simp)).2.2
          simp only [List.map_cons, List.map_nil] at ly3
          match ys, ly3, hy3 with
          | [_, _], .cons ⟨a0, z0, rfl, f0, h0, d0⟩ (.cons ⟨a1, z1, rfl, f1, h1, d1⟩ .nil), hy3 =>
            walk_at "rd"
            intro e0 he0
            have S4 := S3.trans (same_new (o := .lst []) he0)
            have h04 := same_new (o := .lst []) he0 _ _ h0
            have h14 := same_new (o := .lst []) he0 _ _ h1
            have hy4 := same_new (o := .lst []) he0 _ _ hy3
            have hw4 := same_new (o := .lst []) he0 _ _ hw
            have d04 := Same.dts (same_new (o := .lst []) he0) d0
            have d14 := Same.dts (same_new (o := .lst []) he0) d1
            have dw4 := Same.dts (same_new (o := .lst []) he0) dw
            refine ⟨_, _, .lst (SqL.of h04) d04.dp, .lst (SqL.of upd_same) .nil, odat_shaped la, nilL_shaped, _, rfl, ?_⟩
            rw [eqv_nilL]
            cases ea : less ta with
            | none =>
              rw [ea] at q d04
              walk_at "rd"
              exact q _ _ _ S4 f0.1 h04 d04
            | some x =>
              rw [ea] at q d04
              walk_at "rd"
              intro e1 he1
              have S5 := S4.trans (same_new (o := .lst []) he1)
              have h05 := same_new (o := .lst []) he1 _ _ h04
              have h15 := same_new (o := .lst []) he1 _ _ h14
              have hy5 := same_new (o := .lst []) he1 _ _ hy4
              have hw5 := same_new (o := .lst []) he1 _ _ hw4
              have d05 := Same.dts (same_new (o := .lst []) he1) d04
              have d15 := Same.dts (same_new (o := .lst []) he1) d14
              have dw5 := Same.dts (same_new (o := .lst []) he1) dw4
              refine ⟨_, _, .lst (SqL.of h15) d15.dp, .lst (SqL.of upd_same) .nil, odat_shaped lb, nilL_shaped, _, rfl, ?_⟩
              rw [eqv_nilL]
              cases eb : less tb with
              | none =>
                rw [eb] at q
                walk_at "rd"
                exact q _ _ _ S5 f0.1 h05 d05
              | some y =>
                rw [eb] at q
                have eL : lessL [ta, tb] = [x, y] := by simp [lessL, ea, eb]
                rw [eL] at dw5
                obtain ⟨v1, u1, rfl, g1, t1⟩ := dw5.cons_inv
                obtain ⟨v2, u2, rfl, g2, t2⟩ := t1.cons_inv
                obtain rfl := t2.nil_inv
                walk_at "rd"
                intro t4 ht4
                walk_at "rd"
                intro l5 hl5
                have S6 := S5.trans ((same_new (o := .tup [.str "but", v1, v2]) ht4).trans (same_new (o := .lst [.ref t4]) hl5))
                refine q _ _ _ S6 ((S5.trans (same_new ht4)).free hl5) upd_same ?_
                simp only [odat, T.data]
                exact .cons (Same.dt (same_new hl5) (DT.laid ht4 (.cons (.str _) (.cons g1 (.cons g2 .nil))))) .nil

    | opn k0 n0 r0 t0 =>
      have inn : ∀ c ∈ inner (T.opn k0 n0 r0 t0), deep c ≤ m ∧ size c ≤ 900 ∧ Lay c := fun c mc => by
        have := deep_mem mc
        have := size_inner mc
        exact ⟨by omega, by omega, lay_inner ly mc⟩
      generalize hT : inner (T.opn k0 n0 r0 t0) = cs at inn
      rw [T.data] at hv
      obtain ⟨p2, x1, x2, x3, x4, rfl, hp2, w1, w2, w3, w4⟩ := DT.four_inv hv
      obtain rfl := w1.str_inv
      walk_at "rd"
      intro T1 hT1
      walk_at "rd"
      intro v1 H1 s1 dv
      rw [hT] at dv
      have S1 : Same H H1 := (same_new hT1).trans s1
      obtain ⟨pv, us1, rfl, hpv, dus⟩ := dv.tup_inv
      walk_at "rd"
      intro D hD
      have D0 := S1.free hD
      refine lc_tup (K := K) (a := pv) (xs := us1) (fun i => PartsLs H H1 D ((cs.map less).take i)) (parts0 hD) (fun i H2 _ h => SqT.of (h.same _ _ hpv)) ?_ ?_
      · rintro i x H2 hi h
        obtain ⟨d, ed, gd⟩ := (Same.dts h.same dus).get hi
        rw [datas_map] at ed
        obtain ⟨c, ec, rfl⟩ := map_get ed
        obtain ⟨i1, i2, i3⟩ := inn c (List.mem_of_getElem? ec)
        obtain ⟨ys, hy, ly2⟩ := h.acc
        have yl : ys.length < 1000 := by
          have l1 := sizes_len cs
          have l2 := size_eq (T.opn k0 n0 r0 t0)
          rw [hT] at l2
          rw [ly2.length, List.length_take, List.length_map]
          omega
        walk_at "rd"
        intro a2 zs2 H3 s3 n2 e3 d3
        walk_at "rd"
        rw [take_get (show (cs.map less)[i]? = some (less c) by simp [ec])]
        exact parts_push S1 h hD s3 (s3 _ _ hy) n2 e3 d3
      · rintro H2 ⟨s2, ys, hy, ly2⟩
        have lx : us1.length = (cs.map less).length := by rw [dus.length, datas_map, List.length_map, List.length_map]
        rw [lx, List.take_length] at ly2
        have csl : cs.length ≤ 900 := by
          have l1 := sizes_len cs
          have l2 := size_eq (T.opn k0 n0 r0 t0)
          rw [hT] at l2
          omega
        have yl : ys.length = cs.length := by rw [ly2.length, List.length_map]
        have S2 := S1.trans s2
        walk_at "rd"
        intro lf hlf
        walk_at "rd"
        refine (for_it (walk_list (K := K) (a := D) (xs := ys)) (fun i σ H3 => ∃ o1 lf, σ = [some (.ref p2), o1, some (.ref D), some (.ref lf)] ∧ LeftLs H H2 lf (cs.map less) i H3)
          ⟨_, _, rfl, left_0 S2 hlf⟩ (fun i σ H3 _ ⟨_, _, _, h⟩ => SqL.of (h.same _ _ hy)) ?_ ?_).choose_spec
        · rintro i x σ H3 H4 hi ⟨o1, lf, rfl, h⟩ ⟨rfl, ex⟩
          obtain ⟨o, eo, ox⟩ := ly2.get ex
          obtain ⟨a, zs, rfl, na, ha, dz⟩ := ox.keep h.same
          obtain ⟨s4, nl, ws, hw, dw⟩ := h
          have wl : ws.length ≤ 900 := by
            rw [dw.length, datas_map, List.length_map]
            have := List.length_filterMap_le id ((cs.map less).take i)
            rw [List.length_take, List.length_map] at this
            omega
          have zl : zs.length ≤ 1 := by rw [dz.length]; cases o <;> simp [odat]
          walk_at "rd"
          intro p hp
          exact ⟨_, _, rfl, left_next S2 ⟨s4, nl, ws, hw, dw⟩ eo hp hw dz⟩
        · rintro σ H3 ⟨o1, lf, rfl, h⟩
          obtain ⟨s4, nl, ws, hw, dw⟩ := h
          rw [List.take_of_length_le (by rw [List.length_map]; omega)] at dw
          rw [← lessL_eq] at dw
          have hy3 := s4 _ _ hy
          have ly3 := ly2.keep s4
          have S3 := S2.trans s4
          have hv3 := Same.dt S3 hv0
          have hp3 := S3 _ _ hp2
          have lays := lay_list (lay_lessL fun c m => (inn c m).2.2)
          have wl : ws.length = (lessL cs).length := by rw [dw.length, datas_map, List.length_map]
          have ll := (lessens cs).len
          obtain rfl : cs = [t0] := hT.symm
          rw [less] at q
          have lays := lays.1
          have hu3 := Same.dt S3 hv0
          have g2 := Same.dt S3 w2
          have g3 := Same.dt S3 w3
          walk_at "rd"
          intro e0 he0
          have S4 := S3.trans (same_new (o := .lst []) he0)
          have hw4 := same_new (o := .lst []) he0 _ _ hw
          have dw4 := Same.dts (same_new (o := .lst []) he0) dw
          have hp4 := S4 _ _ hp2
          refine ⟨_, _, .lst (SqL.of hw4) dw4.dp, .lst (SqL.of upd_same) .nil, lays, nilL_shaped, _, rfl, ?_⟩
          rw [eqv_nilL]
          cases ea : less t0 with
          | none =>
            rw [ea] at q
            have eL : lessL [t0] = [] := by simp [lessL, ea]
            rw [eL]
            walk_at "rd"
            intro p hp
            exact q _ _ _ (S4.trans (same_new hp)) (S4.free hp) upd_same .nil
          | some x =>
            rw [ea] at q
            have eL : lessL [t0] = [x] := by simp [lessL, ea]
            rw [eL] at dw4 ⊢
            obtain ⟨v1, u1, rfl, g1, t1⟩ := dw4.cons_inv
            obtain rfl := t1.nil_inv
            walk_at "rd"
            intro t3 ht3
            walk_at "rd"
            intro t4 ht4
            walk_at "rd"
            refine ⟨by show [V.str "open", x2, x3] ≠ []; simp, Nat.le_trans (show 3 + 1 ≤ 1000 by decide) (by decide), fun e => absurd e (by simp), fun _ t5 ht5 => ?_⟩
            walk_at "rd"
            intro l6 hl6
            have s45 := (same_new (o := .tup (cutV [V.str "open", x2, x3, x4] none (some 3))) ht3).trans (same_new (o := .tup [v1]) ht4)
            refine q _ _ _ (S4.trans (s45.trans ((same_new ht5).trans (same_new hl6)))) (Same.free (S4.trans (s45.trans (same_new ht5))) hl6) upd_same ?_
            have s34 := (same_new (o := .lst []) he0).trans s45
            simp only [odat, T.data]
            exact .cons (Same.dt (same_new hl6) (DT.laid ht5 (.cons (.str _) (.cons (Same.dt s34 g2) (.cons (Same.dt s34 g3) (.cons (Same.dt s45 g1) .nil)))))) .nil

end
end Wood

set_option maxHeartbeats 8000000
namespace Wood
open PySem PySem.Spec PyProof.Rows L2 Gen LamX NdefX
local macro_rules | `(tactic| walk_at "sz") => `(tactic| first | assumption | omega | (simp only [List.length_map, List.length_append, List.length_cons, List.length_nil, List.length_reverse] at *; omega))
local macro_rules | `(tactic| walk_at "hq") => `(tactic| first | assumption | exact upd_same | (refine same_new (by assumption) _ _ ?_; walk_at "hq") | (refine (show Same _ _ by assumption) _ _ ?_; walk_at "hq") | (refine (upd_ne (by assumption)).trans ?_; walk_at "hq"))
local macro_rules | `(tactic| walk_at "ty") => `(tactic| first | exact .base (.int _) | exact .base (.str _) | exact .base (.bl _) | exact .base .non | (apply TyX.base; apply TyOf.tup; walk_at "hq") | (apply TyX.base; apply TyOf.lst; walk_at "hq"))
local macro_rules | `(tactic| walk_at "dt") => `(tactic| first | assumption | exact DT.str _ | exact DT.int _ | exact DT.bl _ | exact DT.non | (refine Same.dt (same_new (by assumption)) ?_; walk_at "dt") | (refine Same.dt (by assumption) ?_; walk_at "dt"))
local macro_rules | `(tactic| walk_at "at") => `(tactic| first | with_reducible rfl | rfl | assumption | (show _ = some _; walk_at "hq") | (apply SqT.of; walk_at "hq") | (apply SqL.of; walk_at "hq") | (apply Or.inl; apply SqL.of; walk_at "hq") | (apply Or.inr; apply SqT.of; walk_at "hq") | (apply Or.inl; apply SqT.of; walk_at "hq") | (apply Or.inr; apply SqL.of; walk_at "hq") | exact atI_nat (j := 0) rfl | exact atI_nat (j := 1) rfl | exact atI_nat (j := 2) rfl | exact atI_nat (j := 3) rfl | exact .ty _ | exact .int _ | exact .str _ | exact .bl _ | exact ClsV.ty _ | walk_at "ty" | exact kit_ty (by decide +kernel) | exact True.intro | (show tyV _ _ _ _; exact .inl ⟨rfl, _, SqL.of (by walk_at "hq")⟩) | (show TruV _ _ _ _; first | exact .inl ⟨_, SqL.of (by walk_at "hq"), rfl⟩ | exact .inr (.inl ⟨_, SqT.of (by walk_at "hq"), rfl⟩)) | (show DT _ _ _; walk_at "dt") | (apply DT.dp; walk_at "dt") | (apply Exists.intro; apply SqT.of; walk_at "hq") | (apply Exists.intro; apply SqL.of; walk_at "hq") | (show _ ≤ sizeLine; decide) | omega | (refine small1000 ?_; walk_at "sz") | (refine le1000 ?_; walk_at "sz"))
local macro_rules | `(tactic| walk_at "ite") => `(tactic| refine iteB (fun c => ?_) (fun c => ?_))
local macro_rules | `(tactic| walk_at "rd") => `(tactic| repeat (walk_at "st"))
local macro_rules | `(tactic| walk_at "sr") => `(tactic| first | assumption | (apply Src.new; (focus (walk_at "sr")); (focus assumption)) | (apply Src.same; (focus (walk_at "sr")); (focus assumption)))
local macro_rules | `(tactic| walk_at "ar") => `(tactic| first | (show Src _ _ _; walk_at "sr") | (show ((_ : Nat) < _); first | omega | decide | (simp only [List.length_cons, List.length_nil]; omega)) | (show ((_ : Int) < _); first | omega | decide) | (apply Or.inl; assumption) | (apply Or.inr; assumption) | (show ¬ _; simp only [List.length_cons, List.length_nil]; decide) | (show CMul _ _; first | exact .inl ⟨by omega, by omega⟩ | exact .inr ⟨by omega, by omega⟩ | exact .inl ⟨by decide, by decide⟩ | exact .inr ⟨by decide, by decide⟩) | (show CDiv _ _; exact ⟨by omega, by omega⟩) | (show CDiv _ _; exact ⟨by decide, by decide⟩) | (show CDivW _ _; exact wide_div (b := 40) (by omega) (by omega) (by decide) (by decide)) | (show CPow _ _; exact ⟨by decide, by decide, by decide⟩) | (show (0 : Int) < _; omega) | (show (0 : Int) < _; decide))
local macro_rules | `(tactic| walk_at "st") => `(tactic| first | (apply Exists.intro) | (apply And.intro; focus (first | walk_at "ar" | walk_at "at"; done)) | (refine iteT ?_) | (refine iteF ?_) | (refine iteY (by assumption) ?_) | (refine iteN (by assumption) ?_) | (refine iteY (decide_eq_true ?_) ?_; focus (first | assumption | omega)) | (refine iteN (decide_eq_false ?_) ?_; focus (first | assumption | omega)) | (refine (show (∃ _ : Int, _) ∨ (∃ _ : Bool, _) from Or.inl ⟨_, rfl, ?_⟩)) | (refine (show (∃ _ : Int, _) ∨ (∃ _ : Bool, _) from Or.inr ⟨_, rfl, ?_⟩)))
local macro_rules | `(tactic| walk_at "sm") => `(tactic| first | exact (fun _ _ h => h) | assumption | (refine Same.trans ?_ (same_new (by assumption)); walk_at "sm") | (refine Same.trans ?_ (show Same _ _ by assumption); walk_at "sm"))
local macro_rules | `(tactic| walk_at "ri") => `(tactic| repeat (first | walk_at "st" | refine fun (_ : Addr) (_ : _ = none) => ?_))
abbrev S__law_right : Stmt := top 36
theorem sc__law_right : FnScope ["well", "bough", "users", "whom", "empty", "spots", "small", "due", "told", "k", "path", "part"] ["well"] (defScope S__law_right) := ⟨rfl, rfl, rfl, by decide +kernel, rfl, by decide +kernel, by decide +kernel⟩
theorem TabsN.lst {T : List NTab} {H : Hp} {l : Addr} {xs ys : List V} (t : TabsN T H) (h : H l = some (.lst xs)) : TabsN T (upd H l (.lst ys)) := fun p hp => by
  obtain ⟨ps, h1, h2, h3⟩ := t p hp
  refine ⟨ps, ?_, h2, fun pos cv hc => ?_⟩
  · rw [upd_ne (fun z => by rw [z, h] at h1; cases h1)]
    exact h1
  · obtain ⟨c, e1, e2⟩ := h3 pos cv hc
    refine ⟨c, e1, ?_⟩
    rw [upd_ne (fun z => by rw [z, h] at e2; unfold CodeO at e2; cases e2)]
    exact e2
theorem TabsN.but {T : List NTab} {H H' : Hp} {p : Addr} {n : Nat} (t : TabsN T H) (b : But p H H') (r : Src H p n) : TabsN T H' := fun q hq => by
  obtain ⟨x, y, z, e, _⟩ := r
  obtain ⟨ps, h1, h2, h3⟩ := t q hq
  refine ⟨ps, b _ _ (fun z => by rw [z, e] at h1; cases h1) h1, h2, fun pos cv hc => ?_⟩
  obtain ⟨c, e1, e2⟩ := h3 pos cv hc
  exact ⟨c, e1, b _ _ (fun z => by rw [z, e] at e2; unfold CodeO at e2; cases e2) e2⟩
theorem Ext.refl {T : List NTab} {H : Hp} (t : TabsN T H) : Ext T H H := ⟨ExtN.refl H, fun _ e => e, t⟩
theorem Ext.told {T : List NTab} {H H1 : Hp} {l : Addr} {xs ys : List V} (a : Ext T H H1) (n : H l = none) (e : H1 l = some (.lst xs)) : Ext T H (upd H1 l (.lst ys)) := by
  refine ⟨fun b o h z => ?_, fun b h => ?_, TabsN.lst a.tabs e⟩
  · rw [upd_ne (ne_of_none h n)]
    exact a.ext b o h z
  · exact a.free b (free_upd h)
/-- all but the well and the tables is kept -/
def Keep (p : Addr) (H H' : Hp) : Prop := ∀ b o, b ≠ p → H b = some o → (∀ ps, o ≠ .tbl ps) → H' b = some o
theorem Keep.of {T : List NTab} {p : Addr} {H H1 H2 : Hp} (b : But p H H1) (x : Ext T H1 H2) : Keep p H H2 := fun c o n h z => x.ext c o (b c o n h) z
theorem Ext.src {T : List NTab} {H H' : Hp} {p : Addr} {n : Nat} (x : Ext T H H') (h : Src H p n) : Src H' p n := by
  obtain ⟨a, b, c, e, r⟩ := h
  exact ⟨a, b, c, x.lst e, r⟩
mutual
theorem grown_wf : ∀ (m : Nat) (t : T), Grown m t → Wf t
  | m, .set ss, h => by
    obtain ⟨a, b⟩ := grown_set.mp h
    rw [Wf]
    exact ⟨fun s hs => sb_ok (a s hs), b⟩
  | m, .ring k n r, h => by
    obtain ⟨a, b, rfl⟩ := grown_ring.mp h
    rw [Wf]
    exact ⟨drawnK_ok a, drawnN_ok b, show nameB "own" = true by decide +kernel⟩
  | m + 1, .but a b, h => by
    rw [Grown] at h
    rw [Wf]
    exact ⟨grown_wf m a h.1, grown_wf m b h.2⟩
  | m + 1, .opn k n r t, h => by
    rw [Grown] at h
    obtain ⟨a, b, c, d⟩ := h
    rw [Wf]
    exact ⟨drawnK_ok a, drawnN_ok b, by rcases c with rfl | rfl; exact (show nameB "own" = true by decide +kernel); exact (show nameB "see" = true by decide +kernel), grown_wf m t d⟩
  | m + 1, .any ps, h => by
    rw [Grown] at h
    rw [Wf]
    exact growns_wf m ps h.2
  | m + 1, .both ps, h => by
    rw [Grown] at h
    rw [Wf]
    exact ⟨h.1, growns_wf m ps h.2.2⟩
  | 0, .but a b, h => by simp [Grown] at h
  | 0, .opn k n r t, h => by simp [Grown] at h
  | 0, .any ps, h => by simp [Grown] at h
  | 0, .both ps, h => by simp [Grown] at h
theorem growns_wf : ∀ (m : Nat) (ts : List T), (∀ t ∈ ts, Grown m t) → Wfs ts
  | m, [], _ => by rw [Wfs]; trivial
  | m, t :: ts, h => by
    rw [Wfs]
    exact ⟨grown_wf m t (h t (List.mem_cons_self ..)), growns_wf m ts fun c mc => h c (List.mem_cons_of_mem _ mc)⟩
end
def most : Nat → Nat
  | 0 => 1
  | m + 1 => 1 + 3 * most m
theorem most_pos : ∀ m, 1 ≤ most m
  | 0 => Nat.le_refl _
  | m + 1 => by rw [most]; omega
theorem sizes_le {b d : Nat} : ∀ ts : List T, (∀ t ∈ ts, size t ≤ b ∧ deep t ≤ d) → sizes ts ≤ ts.length * b ∧ deeps ts ≤ d
  | [], _ => by simp [sizes, deeps]
  | t :: ts, h => by
    obtain ⟨a, c⟩ := sizes_le ts fun x m => h x (List.mem_cons_of_mem _ m)
    obtain ⟨e, f⟩ := h t (List.mem_cons_self ..)
    simp only [sizes, deeps, List.length_cons, Nat.succ_mul]
    omega
theorem grown_size : ∀ (m : Nat) (t : T), Grown m t → size t ≤ most m ∧ deep t ≤ m + 1 := by
  intro m
  induction m with
  | zero =>
    intro t h
    cases t <;> simp [Grown] at h <;> simp [size, deep, most]
  | succ m ih =>
    intro t h
    have mp := most_pos m
    cases t with
    | set ss => simp [size, deep, most]
    | ring k n r => simp [size, deep, most]
    | any ps =>
      rw [Grown] at h
      obtain ⟨a, b⟩ := sizes_le ps fun t mt => ih t (h.2 t mt)
      have := Nat.mul_le_mul_right (most m) h.1
      simp only [size, deep, most]
      omega
    | both ps =>
      rw [Grown] at h
      obtain ⟨a, b⟩ := sizes_le ps fun t mt => ih t (h.2.2 t mt)
      have := Nat.mul_le_mul_right (most m) h.2.1
      simp only [size, deep, most]
      omega
    | but x y =>
      rw [Grown] at h
      have := ih x h.1
      have := ih y h.2
      simp only [size, deep, most]
      omega
    | opn k n r t =>
      rw [Grown] at h
      have := ih t h.2.2.2
      simp only [size, deep, most]
      omega
theorem grown_lay5 {t : T} (h : Grown 5 t) : Lay t := by
  obtain ⟨a, b⟩ := grown_lay 5 t h
  exact ⟨a, by omega⟩
def us9 : List (Str × Int) := [("user", 0), ("user", 1), ("user", 2), ("user", 5), ("bot", 1), ("bot", 7), ("a", 3), ("doc", 10 ^ 20), ("zone", 0)]
def usFine (x : Str × Int) : Bool := nameB x.1 && decide (0 ≤ x.2) && ((Sb.one x.1 x.2).data.canLay0 && decide ((Sb.one x.1 x.2).data.depth ≤ 4)) && ((Sb.all x.1).data.canLay0 && decide ((Sb.all x.1).data.depth ≤ 4))
theorem us9_fine : ∀ x ∈ us9, usFine x = true := by decide +kernel
theorem us9_ok {x : Str × Int} (h : x ∈ us9) : NmOK x.1 ∧ 0 ≤ x.2 ∧ UsOK x.1 x.2 := by
  have z := us9_fine x h
  simp only [usFine, Bool.and_eq_true, decide_eq_true_eq] at z
  exact ⟨z.1.1.1, z.1.1.2, z.1.2, z.2⟩
def objs (l : List (Str × Int)) : List PyData := l.map fun x => obj x.1 x.2
/-- what stays as it is -/
structure Fx (T : List NTab) (v sv x : V) (sl : Addr) (sx : List V) (t : Wood.T) (k : Str) (n : Int) (H : Hp) : Prop where
  hv : DT H v t.data
  hw : DT H x (obj k n)
  hs : H sl = some (.lst sx)
  ds : DTs H sx ((pre [] t).map rowP)
  so : DT H sv (oD (less t))
  tb : TabsN T H
theorem Fx.ext {T : List NTab} {v sv x : V} {sl : Addr} {sx : List V} {t : Wood.T} {k : Str} {n : Int} {H H' : Hp} (f : Fx T v sv x sl sx t k n H) (e : Ext T H H') : Fx T v sv x sl sx t k n H' :=
  ⟨f.hv.keep e.tups, f.hw.keep e.tups, e.lst f.hs, f.ds.keep e.tups, f.so.keep e.tups, e.tabs⟩
theorem Fx.same {T : List NTab} {v sv x : V} {sl : Addr} {sx : List V} {t : Wood.T} {k : Str} {n : Int} {H H' : Hp} (f : Fx T v sv x sl sx t k n H) (e : Same H H') : Fx T v sv x sl sx t k n H' := f.ext (Ext.of f.tb e)
theorem path_lay (p : List Nat) : (pathD p).canLay0 = true ∧ (pathD p).depth ≤ 1 := by
  have z : PyData.canLayAll0 (p.map fun k => PyData.int (k : Nat)) = true ∧ PyData.depthAll (p.map fun k => PyData.int (k : Nat)) = 0 := by
    induction p with
    | nil => simp [PyData.canLayAll0, PyData.depthAll]
    | cons a p ih => simp [PyData.canLayAll0, PyData.depthAll, PyData.canLay0, PyData.depth, ih.1, ih.2]
  unfold pathD
  simp [PyData.canLay0, PyData.depth, z.1, z.2]
theorem paths_lay (ps : List (List Nat)) : PyData.canLay0 (.list (ps.map pathD)) = true ∧ SeqAt.shaped (.list (ps.map pathD)) = true := by
  have z : PyData.canLayAll0 (ps.map pathD) = true ∧ PyData.depthAll (ps.map pathD) ≤ 1 := by
    induction ps with
    | nil => simp [PyData.canLayAll0, PyData.depthAll]
    | cons p ps ih =>
      obtain ⟨a, b⟩ := path_lay p
      simp only [List.map_cons, PyData.canLayAll0, PyData.depthAll, a, ih.1, Bool.and_self, true_and]
      have := ih.2
      omega
  refine ⟨by simp only [PyData.canLay0, z.1], ?_⟩
  unfold SeqAt.shaped
  simp only [PyData.canLay0, PyData.depth, z.1, Bool.true_and]
  exact decide_eq_true (by omega)
theorem oD_lay {t : T} (h : Lay t) : PyData.canLay0 (oD (less t)) = true ∧ SeqAt.shaped (oD (less t)) = true := by
  cases e : less t with
  | none => exact ⟨rfl, by decide +kernel⟩
  | some u =>
    obtain ⟨c, d⟩ := lay_less h e
    refine ⟨c, ?_⟩
    unfold SeqAt.shaped
    rw [oD, c, Bool.true_and]
    exact decide_eq_true (by omega)
theorem bool_shaped (b : Bool) : SeqAt.shaped (.bool b) = true := by cases b <;> decide +kernel
theorem pre_all {R : T → Prop} (hR : ∀ t c, R t → c ∈ inner t → R c) : ∀ (m : Nat) (t : T), size t ≤ m → R t → ∀ p, ∀ r ∈ pre p t, R r.2
  | 0, t, h, _ => by rw [size_eq] at h; omega
  | m + 1, t, h, ht => fun p r mr => by
    rw [pre_eq] at mr
    rcases List.mem_cons.mp mr with rfl | mr
    · exact ht
    · have : ∀ (ts : List T), (∀ c ∈ ts, c ∈ inner t) → ∀ k, r ∈ preL p k ts → R r.2 := by
        intro ts
        induction ts with
        | nil => intro _ k z; rw [preL] at z; cases z
        | cons c cs ih =>
          intro hc k z
          rw [preL] at z
          rcases List.mem_append.mp z with z | z
          · have mc := hc c (List.mem_cons_self ..)
            exact pre_all hR m c (by have := size_inner mc; omega) (hR t c ht mc) _ r z
          · exact ih (fun x mx => hc x (List.mem_cons_of_mem _ mx)) _ z
      exact this (inner t) (fun _ z => z) 0 mr
theorem rest_shaped {t : T} {a : PyData} {rest : List PyData} (h : Lay t) (e : t.data = .tuple (a :: rest)) : SeqAt.shaped (.tuple rest) = true := by
  obtain ⟨h1, h2⟩ := h
  rw [e] at h1 h2
  simp only [PyData.canLay0, PyData.canLayAll0, Bool.and_eq_true, PyData.depth, PyData.depthAll] at h1 h2
  unfold SeqAt.shaped
  simp only [PyData.canLay0, PyData.depth, h1.2, Bool.true_and]
  exact decide_eq_true (by omega)
theorem nil2_shaped : SeqAt.shaped (.tuple [.tuple []]) = true := by decide +kernel
theorem gen_heap {β : Type} {G : Hp → β → Prop} {N : β} {H H' : Hp} {a : Addr} {xs : List V} {ds : List PyData} (s : Same H H') (e : H' a = some (.lst xs)) (d : DTs H' xs ds) (k : ∀ H6, Same H H6 → H6 a = some (.lst xs) → DTs H6 xs ds → G H6 N) : G H' N := k H' s e d
theorem nnot {b : Bool} (h : b = true) : (!b) = false := by rw [h]; rfl
def spRight (T : List NTab) : Sp := fun vs H Q _ => ∃ (p : Addr) (n : Nat), vs = [.ref p] ∧ Src H p n ∧ n + cost 5 < 900000 ∧ TabsN T H ∧ ∀ H', Keep p H H' → Src H' p (n + cost 5) → TabsN T H' → Q (.bl true) H'
section
variable {P : Program} {w : World} {K : PySem.W.Frag} {mg : Str → Option Value} {base : Heap}
theorem ok_right {T : List NTab} {f : Addr} {fd : FuncData} (F : Fun K "_law_right" "_law_right" S__law_right f fd) {f__law_wood : Addr} {fd__law_wood : FuncData} (G__law_wood : FnOk P w K mg base CX0 11 f__law_wood fd__law_wood ["well", "deep"] (spWood 5)) (g__law_wood : mg "_law_wood" = some (.ref f__law_wood)) (k__law_wood : PySem.W.keepIn K (.ref f__law_wood) = true) (b__law_wood : Binds K fd__law_wood ["well", "deep"] []) {f__law_paths : Addr} {fd__law_paths : FuncData} (G__law_paths : FnOk P w K mg base CX0 8 f__law_paths fd__law_paths ["bough"] (spPaths 6)) (g__law_paths : mg "_law_paths" = some (.ref f__law_paths)) (k__law_paths : PySem.W.keepIn K (.ref f__law_paths) = true) (b__law_paths : Binds K fd__law_paths ["bough"] []) {f__law_less : Addr} {fd__law_less : FuncData} (G__law_less : FnOk P w K mg base CX0 8 f__law_less fd__law_less ["bough"] (spLess 6)) (g__law_less : mg "_law_less" = some (.ref f__law_less)) (k__law_less : PySem.W.keepIn K (.ref f__law_less) = true) (b__law_less : Binds K fd__law_less ["bough"] []) (m_len : mg "len" = none) {f_pruned : Addr} {fd_pruned : FuncData} (G_pruned : FnOk P w K mg base CX0 7 f_pruned fd_pruned ["tree"] spPruned) (g_pruned : mg "pruned" = some (.ref f_pruned)) (k_pruned : PySem.W.keepIn K (.ref f_pruned) = true) (b_pruned : Binds K fd_pruned ["tree"] []) {f_is_in : Addr} {fd_is_in : FuncData} (G_is_in : FnOk P w K mg base CX0 7 f_is_in fd_is_in ["tree", "user"] (spIsIn T)) (g_is_in : mg "is_in" = some (.ref f_is_in)) (k_is_in : PySem.W.keepIn K (.ref f_is_in) = true) (b_is_in : Binds K fd_is_in ["tree", "user"] []) {f__law_in : Addr} {fd__law_in : FuncData} (G__law_in : FnOk P w K mg base CX0 8 f__law_in fd__law_in ["bough", "whom"] (spLIn 6)) (g__law_in : mg "_law_in" = some (.ref f__law_in)) (k__law_in : PySem.W.keepIn K (.ref f__law_in) = true) (b__law_in : Binds K fd__law_in ["bough", "whom"] []) {f_places : Addr} {fd_places : FuncData} (G_places : FnOk P w K mg base CX0 7 f_places fd_places ["tree", "user"] spPlaces) (g_places : mg "places" = some (.ref f_places)) (k_places : PySem.W.keepIn K (.ref f_places) = true) (b_places : Binds K fd_places ["tree", "user"] []) (kb_pruned : L2.KBinds K fd_pruned ["tree"] ["tree"] (fun a b => a ++ b) (fun a b => a ++ b)) (kb_is_in : L2.KBinds K fd_is_in ["tree", "user"] ["user", "tree"] (fun a b => a ++ b.reverse) (fun a b => a ++ b.reverse)) (kb_places : L2.KBinds K fd_places ["tree", "user"] ["user", "tree"] (fun a b => a ++ b.reverse) (fun a b => a ++ b.reverse)) :
    FnOk P w K mg base CX0 12 f fd ["well"] (spRight T) := by
  refine F.ok sc__law_right (fun vs H Q E h => ?_) (fun cdv A outer s H vs Q E hr h => ?_)
  · obtain ⟨x, _, rfl, _⟩ := h
    rfl
  · obtain ⟨p, n, rfl, hp, hn, tb, q⟩ := h
    have hu64 : (A.deeper (envOfC "_law_right" (defScope S__law_right) s.heap.objs.size f cdv)).units + 64 < cLine := by have := hr.un; omega
    refine ⟨_, pss_cons (ps_set (i := 1) sc__law_right.nd rfl (.inl rfl) (pe_call G__law_wood (hr.mono (by decide)) (by rfl) g__law_wood k__law_wood b__law_wood .nil pass0 (pa_cons (pv 0) (pa_cons (pe_int) pa_nil))))
      (pss_cons (ps_par (i := 5) (j := 6) (by rfl) sc__law_right.nd rfl rfl (by decide) rfl rfl (pa_cons (pe_call G__law_paths (hr.mono (by decide)) (by rfl) g__law_paths k__law_paths b__law_paths .nil pass0 (pa_cons (pv 1) pa_nil)) (pa_cons (pe_ix (r := rIxL K) ix_list (pe_op op_cat (pe_call G__law_less (hr.mono (by decide)) (by rfl) g__law_less k__law_less b__law_less .nil pass0 (pa_cons (pv 1) pa_nil)) (pe_lst (pa_cons (pe_non) pa_nil))) (pe_int) (fun _ _ => rfl)) pa_nil)) (by rfl))
      (pss_cons (ps_if (pt_cmpR op_gt (pe_callB (r := rLenQ K) (call_len_seq) (by rfl) m_len PySem.boot_len (pa_cons (pv 5) pa_nil)) (pe_int) (nomark _))
        (pss_one (ps_ret (pe_bl)))
        (pss_nil))
      (pss_cons (ps_if (PW.pt (pw_or (pt_cmpR (r := rNeD K) (op_neD hu64) (pe_callK0 G_pruned (hr.mono (by decide)) (by rfl) g_pruned k_pruned kb_pruned pass0 (pk_cons (pv 1) pk_nil)) (pv 6) (nomark _)) (pw_or1 (PW.pt (pw_and (pt_cmpR op_notN (pv 6) (pe_non) (nomark _)) (pw_and1 (pt_cmpR (r := rNeD K) (op_neD hu64) (pe_call G_pruned (hr.mono (by decide)) (by rfl) g_pruned k_pruned b_pruned .nil pass0 (pa_cons (pv 6) pa_nil)) (pv 6) (nomark _))))))))
        (pss_one (ps_ret (pe_bl)))
        (pss_nil))
      (pss_cons (ps_set (i := 2) sc__law_right.nd rfl (.inl rfl) (pe_op op_cat (pe_lc (own := [("k", 9)]) (g := (gName 9)) (tt := tYes) (by rfl) sc__law_right.nd (pi_tup (pe_tup (pa_cons (pe_int) (pa_cons (pe_int) (pa_cons (pe_int) (pa_cons (pe_int) pa_nil)))))) (blkOk_by (own := [("k", 9)]) (N := ["well", "bough", "users", "whom", "empty", "spots", "small", "due", "told", "k", "path", "part"]) (sc := defScope S__law_right) (by decide +kernel)) (fun _ _ _ _ _ => pg_name (i := 9) sc__law_right.nd rfl (.inl rfl)) (fun _ _ _ _ _ => pts_nil) (fun _ _ _ _ _ => pe_tup (pa_cons (pe_str) (pa_cons (pv 9) pa_nil)))) (pe_lst (pa_cons (pe_tup (pa_cons (pe_str) (pa_cons (pe_int) pa_nil))) (pa_cons (pe_tup (pa_cons (pe_str) (pa_cons (pe_int) pa_nil))) (pa_cons (pe_tup (pa_cons (pe_str) (pa_cons (pe_int) pa_nil))) (pa_cons (pe_tup (pa_cons (pe_str) (pa_cons (pe_op op_pow (pe_int) (pe_int)) pa_nil))) (pa_cons (pe_tup (pa_cons (pe_str) (pa_cons (pe_int) pa_nil))) pa_nil))))))))
      (pss_cons (ps_for PassesOwn.never rfl (pi_list (pv 2)) (pg_name (i := 3) sc__law_right.nd rfl (.inr rfl))
        (pss_cons (ps_if (pt_cmpR op_ne (pe_callK0 G_is_in (hr.mono (by decide)) (by rfl) g_is_in k_is_in kb_is_in pass0 (pk_cons (pv 3) (pk_cons (pv 1) pk_nil))) (pe_call G__law_in (hr.mono (by decide)) (by rfl) g__law_in k__law_in b__law_in .nil pass0 (pa_cons (pv 1) (pa_cons (pv 3) pa_nil))) (nomark _))
          (pss_one (ps_ret (pe_bl)))
          (pss_nil))
        (pss_cons (ps_if (PW.pt (pw_or (PW.pt (pw_and (pt_cmpR op_notN (pv 6) (pe_non) (nomark _)) (pw_and1 (pt_cmpR op_ne (pe_call G_is_in (hr.mono (by decide)) (by rfl) g_is_in k_is_in b_is_in .nil pass0 (pa_cons (pv 6) (pa_cons (pv 3) pa_nil))) (pe_call G__law_in (hr.mono (by decide)) (by rfl) g__law_in k__law_in b__law_in .nil pass0 (pa_cons (pv 1) (pa_cons (pv 3) pa_nil))) (nomark _))))) (pw_or1 (PW.pt (pw_and (pt_cmpR op_isN (pv 6) (pe_non) (nomark _)) (pw_and1 (pt_val (pe_call G__law_in (hr.mono (by decide)) (by rfl) g__law_in k__law_in b__law_in .nil pass0 (pa_cons (pv 1) (pa_cons (pv 3) pa_nil))))))))))
          (pss_one (ps_ret (pe_bl)))
          (pss_nil))
        (pss_cons (ps_setLc (i := 7) (own := [("path", 10), ("part", 11)]) (g := (gTup K 2 (gCons (gName 10) (gCons (gName 11) gNil)))) (by rfl) sc__law_right.nd rfl rfl (sw_true rfl rfl rfl (by decide +kernel)) (pi_list (pv 5)) (blkOk_by (own := [("path", 10), ("part", 11)]) (N := ["well", "bough", "users", "whom", "empty", "spots", "small", "due", "told", "k", "path", "part"]) (sc := defScope S__law_right) (by decide +kernel)) (fun _ _ _ _ _ => pg_tup (by rfl) (pgs_cons (pg_name (i := 10) sc__law_right.nd rfl (.inl rfl)) (pgs_cons (pg_name (i := 11) sc__law_right.nd rfl (.inl rfl)) pgs_nil))) (fun _ _ _ _ _ => pts_one (PW.pt (pw_and (pt_cmpR op_eq (pe_ix (r := rIxT K) ix_tup (pv 11) (pe_int) (fun _ _ => rfl)) (pe_str) (nomark _)) (pw_and1 (pt_val (pe_call G__law_in (hr.mono (by decide)) (by rfl) g__law_in k__law_in b__law_in .nil pass0 (pa_cons (pv 11) (pa_cons (pv 3) pa_nil)))))))) (fun _ _ _ _ _ => pv 10))
        (pss_cons (ps_set (i := 8) sc__law_right.nd rfl (.inl rfl) (pe_call G_places (hr.mono (by decide)) (by rfl) g_places k_places b_places .nil pass0 (pa_cons (pv 1) (pa_cons (pv 3) pa_nil))))
        (pss_cons (ps_if (pt_cmpR (r := rNeD K) (op_neD hu64) (pv 8) (pv 7) (nomark _))
          (pss_one (ps_ret (pe_bl)))
          (pss_nil))
        (pss_cons (ps_expr (pe_bmK (K := K) rfl PySem.F.plainAttrs_list PySem.F.slot_list_append PySem.F.type_list_append mt_append (pv 8) (pa_cons (pe_non) pa_nil)))
        (pss_one (ps_if (pt_cmpR (r := rNeD K) (op_neD hu64) (pe_callK0 G_places (hr.mono (by decide)) (by rfl) g_places k_places kb_places pass0 (pk_cons (pv 3) (pk_cons (pv 1) pk_nil))) (pv 7) (nomark _))
          (pss_one (ps_ret (pe_bl)))
          (pss_nil))))))))))
      (pss_cons (ps_if (pt_cmpR op_isN (pv 6) (pe_non) (nomark _))
        (pss_one (ps_ret (pe_bl)))
        (pss_nil))
      (pss_cons (ps_setLc (i := 4) (own := [("path", 10), ("part", 11)]) (g := (gTup K 2 (gCons (gName 10) (gCons (gName 11) gNil)))) (by rfl) sc__law_right.nd rfl rfl (sw_true rfl rfl rfl (by decide +kernel)) (pi_list (pe_call G__law_paths (hr.mono (by decide)) (by rfl) g__law_paths k__law_paths b__law_paths .nil pass0 (pa_cons (pv 6) pa_nil))) (blkOk_by (own := [("path", 10), ("part", 11)]) (N := ["well", "bough", "users", "whom", "empty", "spots", "small", "due", "told", "k", "path", "part"]) (sc := defScope S__law_right) (by decide +kernel)) (fun _ _ _ _ _ => pg_tup (by rfl) (pgs_cons (pg_name (i := 10) sc__law_right.nd rfl (.inl rfl)) (pgs_cons (pg_name (i := 11) sc__law_right.nd rfl (.inl rfl)) pgs_nil))) (fun _ _ _ _ _ => pts_one (PW.pt (pw_or (pt_cmpR op_eq (pe_ix (r := rIxT K) ix_tup (pv 11) (pe_int) (fun _ _ => rfl)) (pe_str) (nomark _)) (pw_or1 (pt_cmpR (r := rEqD K) (op_eqD hu64) (pe_slice (r := rSlT K) sl_tup (pv 11) (po_some (pe_int)) po_none) (pe_tup (pa_cons (pe_tup pa_nil) pa_nil)) (nomark _)))))) (fun _ _ _ _ _ => pv 11))
      (pss_one (ps_ret (pe_cmpR (r := rEqD K) (op_eqD hu64) (pv 4) (pe_lst pa_nil) (nomark _))))))))))), ?_⟩
    try clear f__law_wood
    try clear fd__law_wood
    try clear G__law_wood
    try clear g__law_wood
    try clear k__law_wood
    try clear b__law_wood
    try clear f__law_paths
    try clear fd__law_paths
    try clear G__law_paths
    try clear g__law_paths
    try clear k__law_paths
    try clear b__law_paths
    try clear f__law_less
    try clear fd__law_less
    try clear G__law_less
    try clear g__law_less
    try clear k__law_less
    try clear b__law_less
    try clear m_len
    try clear f_pruned
    try clear fd_pruned
    try clear G_pruned
    try clear g_pruned
    try clear k_pruned
    try clear b_pruned
    try clear f_is_in
    try clear fd_is_in
    try clear G_is_in
    try clear g_is_in
    try clear k_is_in
    try clear b_is_in
    try clear f__law_in
    try clear fd__law_in
    try clear G__law_in
    try clear g__law_in
    try clear k__law_in
    try clear b__law_in
    try clear f_places
    try clear fd_places
    try clear G_places
    try clear g_places
    try clear k_places
    try clear b_places
    try clear kb_pruned
    try clear kb_is_in
    try clear kb_places
    try clear F
    try clear hr
    try clear hu64
    walk_at "rd"
    intro v t H1 b1 hp1 hv gr
    have wf := grown_wf 5 t gr
    obtain ⟨sz, dp⟩ := grown_size 5 t gr
    have sz : size t ≤ 900 := Nat.le_trans sz (by decide)
    have ly := grown_lay5 gr
    have tb1 := TabsN.but tb b1 hp
    walk_at "rd"
    intro sl sx H2 s2 hsl dsx
    have hv2 := Same.dt s2 hv
    walk_at "rd"
    intro la lz H3 s3 fl hla dlz
    walk_at "rd"
    intro ln hln
    have lzl : lz.length ≤ 1 := by rw [dlz.length]; cases less t <;> simp [odat]
    have hla4 := same_new (o := .lst [.non]) hln _ _ hla
    walk_at "rd"
    intro lc hlc
    obtain ⟨sv, esv, dsv⟩ : ∃ sv, atI (lz ++ [.non]) 0 = some sv ∧ DT H3 sv (oD (less t)) := by
      cases eo : less t with
      | none =>
        rw [eo] at dlz
        obtain rfl := dlz.nil_inv
        exact ⟨_, rfl, .non⟩
      | some u =>
        rw [eo] at dlz
        obtain ⟨v1, w1, rfl, g, t0⟩ := dlz.cons_inv
        obtain rfl := t0.nil_inv
        exact ⟨_, rfl, g⟩
    have s35 := (same_new (o := .lst [.non]) hln).trans (same_new (o := .lst (lz ++ [.non])) hlc)
    have s15 := s2.trans (s3.trans s35)
    have hv5 := Same.dt s15 hv
    have hs5 := s35 _ _ (s3 _ _ hsl)
    have ds5 := Same.dts (s3.trans s35) dsx
    have so5 := Same.dt s35 dsv
    have esv2 : upd (upd H3 ln (.lst [.non])) lc (.lst (lz ++ [.non])) lc = some (.lst (lz ++ [.non])) := upd_same
    walk_at "rd"
    have ssl : sx.length ≤ 900 := by rw [dsx.length, List.length_map, pre_len]; exact sz
    have g3000 : decide ((3000 : Int) < ((sx.length : Nat) : Int)) = false := decide_eq_false (by omega)
    generalize hH4 : upd (upd H3 ln (.lst [.non])) lc (.lst (lz ++ [.non])) = H4 at s35 s15 hv5 hs5 ds5 so5 esv2
    have dp100 : deep t ≤ 100 := by omega
    walk_at "rd"
    intro u1 H4b s4b du1
    obtain ⟨ol1, ol2⟩ := oD_lay ly
    have so4b := Same.dt s4b so5
    refine ⟨_, rfl, _, _, du1.dp, so4b.dp, ol2, ol2, _, rfl, ?_⟩
    refine iteN (nnot (SeqAt.eqv_refl _ ol1)) ?_
    have s14 := s15.trans s4b
    have hv4b := Same.dt s4b hv5
    have hs4b := s4b _ _ hs5
    have ds4b := Same.dts s4b ds5
    cases eo : less t with
    | none =>
      have inu : ∀ k n, isIn k n t = false := fun k n => by
        have z := less_in k n t wf
        rw [eo] at z
        exact z.symm
      obtain rfl : sv = .non := oD_none (by rw [eo] at so4b; exact so4b)
      have x4b : Ext T H1 H4b := Ext.of tb1 s14
      walk_at "rd"
      intro Tu hTu
      walk_at "rd"
      intro Du hDu
      refine lc_tup (K := K) (a := Tu) (xs := [.int 0, .int 1, .int 2, .int 5]) (fun i => AccAt (upd H4b Tu (.tup [.int 0, .int 1, .int 2, .int 5])) Du ((objs (us9.take 4)).take i)) (acc0 hDu) (fun i H2 _ h => SqT.of (h.same _ _ upd_same)) ?_ ?_
      · rintro i x H2 hi h
        obtain ⟨i4, rfl, eo4⟩ : ∃ j : Int, x = .int j ∧ (objs (us9.take 4))[i]? = some (obj "user" j) := by
          match i, hi with
          | 0, hi => exact ⟨0, (Option.some.inj hi).symm, rfl⟩
          | 1, hi => exact ⟨1, (Option.some.inj hi).symm, rfl⟩
          | 2, hi => exact ⟨2, (Option.some.inj hi).symm, rfl⟩
          | 3, hi => exact ⟨5, (Option.some.inj hi).symm, rfl⟩
          | _ + 4, hi => cases hi
        obtain ⟨ys2, hy2, dy2⟩ := h.acc
        have ly2 : ys2.length < 1000 := by
          rw [dy2.length, List.length_take]
          have : (objs (us9.take 4)).length = 4 := rfl
          omega
        walk_at "rd"
        intro p3 hp3
        walk_at "rd"
        rw [take_get eo4]
        exact acc_push h hDu (same_new hp3) (same_new hp3 _ _ hy2) (DT.laid hp3 (.cons (.str _) (.cons (.int _) .nil)))
      rintro H2 ⟨s2, ys4, hy4, dy4⟩
      have dy4 : DTs H2 ys4 (objs (us9.take 4)) := dy4
      have y4l : ys4.length = 4 := by rw [dy4.length]; rfl
      walk_at "rd"
      intro a1 ha1
      walk_at "rd"
      intro a2 ha2
      walk_at "rd"
      intro a3 ha3
      walk_at "rd"
      intro a4 ha4
      walk_at "rd"
      intro a5 ha5
      walk_at "rd"
      intro lu hlu
      walk_at "rd"
      have e1 := same_new (o := .tup [.str "bot", .int 1]) ha1
      have e2 := same_new (o := .tup [.str "bot", .int 7]) ha2
      have e3 := same_new (o := .tup [.str "a", .int 3]) ha3
      have e4 := same_new (o := .tup [.str "doc", .int (10 ^ 20)]) ha4
      have e5 := same_new (o := .tup [.str "zone", .int 0]) ha5
      have e6 := same_new (o := .lst [.ref a1, .ref a2, .ref a3, .ref a4, .ref a5]) hlu
      intro ul hul
      have e7 := same_new (o := .lst (ys4 ++ [.ref a1, .ref a2, .ref a3, .ref a4, .ref a5])) hul
      have s67 := e1.trans (e2.trans (e3.trans (e4.trans (e5.trans (e6.trans e7)))))
      refine gen_heap (a := ul) (xs := ys4 ++ [.ref a1, .ref a2, .ref a3, .ref a4, .ref a5]) (ds := us9.map fun x => obj x.1 x.2) s67 upd_same
        ((Same.dts s67 dy4).append (.cons (Same.dt (e2.trans (e3.trans (e4.trans (e5.trans (e6.trans e7))))) (DT.laid ha1 (.cons (.str "bot") (.cons (.int 1) .nil)))) (.cons (Same.dt (e3.trans (e4.trans (e5.trans (e6.trans e7)))) (DT.laid ha2 (.cons (.str "bot") (.cons (.int 7) .nil)))) (.cons (Same.dt (e4.trans (e5.trans (e6.trans e7))) (DT.laid ha3 (.cons (.str "a") (.cons (.int 3) .nil)))) (.cons (Same.dt (e5.trans (e6.trans e7)) (DT.laid ha4 (.cons (.str "doc") (.cons (.int (10 ^ 20)) .nil)))) (.cons (Same.dt (e6.trans e7) (DT.laid ha5 (.cons (.str "zone") (.cons (.int 0) .nil)))) .nil))))))
        (fun H6 s67 hul2 dus => ?_)
      generalize ys4 ++ [V.ref a1, V.ref a2, V.ref a3, V.ref a4, V.ref a5] = usx at dus hul2
      have s56 := (same_new (o := .tup [.int 0, .int 1, .int 2, .int 5]) hTu).trans (s2.trans s67)
      have hv6 := Same.dt s56 hv4b
      have hs6 := s56 _ _ hs4b
      have ds6 := Same.dts s56 ds4b
      have so6 := Same.dt s56 so4b
      have x6 : Ext T H1 H6 := x4b.trans (Ext.of x4b.tabs s56)
      try clear hn
      try clear hp
      try clear tb
      try clear hv
      try clear gr
      try clear ly
      try clear tb1
      try clear s2
      try clear hsl
      try clear dsx
      try clear hv2
      try clear fl
      try clear hla
      try clear dlz
      try clear hln
      try clear lzl
      try clear hla4
      try clear hlc
      try clear esv
      try clear dsv
      try clear s35
      try clear s15
      try clear hv5
      try clear hs5
      try clear ds5
      try clear so5
      try clear esv2
      try clear ssl
      try clear g3000
      try clear hH4
      try clear s4b
      try clear du1
      try clear ol1
      try clear ol2
      try clear so4b
      try clear s14
      try clear hv4b
      try clear hs4b
      try clear ds4b
      try clear x4b
      try clear so4c
      try clear s4c
      try clear du2
      try clear so4d
      try clear shu
      try clear x4c
      try clear hv4c
      try clear hs4c
      try clear ds4c
      try clear so4e
      try clear hTu
      try clear hDu
      try clear hy4
      try clear dy4
      try clear y4l
      try clear ha1
      try clear ha2
      try clear ha3
      try clear ha4
      try clear ha5
      try clear hlu
      try clear e1
      try clear e2
      try clear e3
      try clear e4
      try clear e5
      try clear e6
      try clear hul
      try clear e7
      try clear s67
      try clear s56
      walk_at "rd"
      refine (for_it (walk_list (K := K) (a := ul) (xs := usx)) (fun i σ H => ∃ o3 o7 o8, σ = [some (.ref p), some v, some (.ref ul), o3, none, some (.ref sl), some .non, o7, o8, none, none, none] ∧ Ext T H6 H)
        ⟨_, _, _, rfl, Ext.refl x6.tabs⟩ (fun i σ H _ ⟨_, _, _, _, h⟩ => SqL.of (h.lst hul2)) ?_ ?_).choose_spec
      · rintro i x σ Hq Ha hi ⟨o3, o7, o8, rfl, xa⟩ ⟨rfl, ex⟩
        obtain ⟨d0, ed0, gx0⟩ := dus.get ex
        obtain ⟨⟨k, n'⟩, eu, rfl⟩ := map_get ed0
        obtain ⟨nk, nn, us⟩ := us9_ok (List.mem_of_getElem? eu)
        have f0 : Fx T v .non x sl sx t k n' Ha := ⟨hv6.keep xa.tups, gx0.keep xa.tups, xa.lst hs6, ds6.keep xa.tups, so6.keep xa.tups, xa.tabs⟩
        try clear d0
        try clear ed0
        try clear gx0
        try clear eu
        try clear ex
        try clear hul2
        try clear dus
        try clear hv6
        try clear hs6
        try clear ds6
        try clear so6
        try clear q
        try clear b1
        try clear x6
        try clear hp1
        try clear hi
        obtain ⟨hva, hwa, hsa, dsa, soa, tba⟩ := id f0
        walk_at "rd"
        intro Hc xc
        have f1 := f0.ext xc
        have yc := xa.trans xc
        try clear xa
        try clear xc
        try clear f0
        try clear hva
        try clear hwa
        try clear hsa
        try clear dsa
        try clear soa
        try clear tba
        obtain ⟨hvc, hwc, hsc, dsc, soc, tbc⟩ := id f1
        walk_at "rd"
        intro Hd sd
        have nb : (!decide (V.bl (isIn k n' t) = V.bl (isIn k n' t))) = false := by simp
        have f2 := f1.same sd
        have xd := yc.trans (Ext.of yc.tabs sd)
        try clear yc
        try clear sd
        try clear f1
        try clear hvc
        try clear hwc
        try clear hsc
        try clear dsc
        try clear soc
        try clear tbc
        obtain ⟨hvd, hwd, hsd, dsd, sod, tbd⟩ := id f2
        walk_at "rd"
        intro Hf sf
        rw [inu k n']
        walk_at "rd"
        have f4 := f2.same sf
        have xf := xd.trans (Ext.of xd.tabs sf)
        try clear xd
        try clear ye
        try clear sf
        try clear nb
        try clear f2
        try clear f3
        try clear hvd
        try clear hwd
        try clear hsd
        try clear dsd
        try clear sod
        try clear tbd
        try clear hve
        try clear hwe
        try clear hse
        try clear dse
        try clear soe
        try clear tbe
        obtain ⟨hvf, hwf, hsf, dsf, sof, tbf⟩ := id f4
        intro D hD
        refine lc_list (K := K) (a := sl) (xs := sx) (fun i => AccAt Hf D ((hits k n' ((pre [] t).take i)).map pathD)) (acc0 hD) (fun i H2 _ h => SqL.of (h.same _ _ hsf)) ?_ ?_
        · rintro j y H2 hi h
          obtain ⟨d, ed, gx⟩ := (Same.dts h.same dsf).get hi
          obtain ⟨⟨rp, rt⟩, er, rfl⟩ := map_get ed
          have wf2 : Wf rt := pre_wf t [] wf _ (List.mem_of_getElem? er)
          obtain ⟨p3, a3, b3, rfl, hp3, g1, g2⟩ := DT.two_inv gx
          have g2 : DT H2 b3 rt.data := g2
          obtain ⟨ys2, hy2, dy2⟩ := id h.acc
          have hw2 := Same.dt h.same hwf
          have ly2 : ys2.length < 1000 := by
            rw [dy2.length, List.length_map]
            unfold hits
            rw [List.length_map]
            have := List.length_filter_le (fun r : List Nat × Wood.T => hit k n' r.2) ((pre [] t).take j)
            rw [List.length_take, pre_len] at this
            omega
          have hws := h.same
          try clear d
          try clear ed
          try clear gx
          try clear hi
          try clear wf
          try clear sz
          try clear dp
          try clear dp100
          try clear inu
          try clear nk
          try clear nn
          try clear wfu
          try clear szu
          try clear dpu
          try clear dpu100
          try clear f4
          try clear xf
          try clear eo
          try clear L
          try clear lyu
          try clear hvf
          try clear hwf
          try clear hsf
          try clear dsf
          try clear sof
          try clear tbf
          cases rt with
          | set ss =>
            have g3 := g2
            rw [T.data] at g2
            obtain ⟨p4, x1, x2, rfl, hp4, w1, w2⟩ := g2.two_inv
            obtain rfl := w1.str_inv
            have dp1 : deep (Wood.T.set ss) ≤ 6 := by simp [deep]
            have sz1 : size (Wood.T.set ss) ≤ 900 := by simp [size]
            walk_at "rd"
            intro H3 s3
            walk_at "rd"
            rw [show isIn k n' (Wood.T.set ss) = hit k n' (Wood.T.set ss) from by simp [isIn, hit], hits_take er]
            refine iteB (fun c => ?_) (fun c => ?_)
            · rw [if_pos c, List.map_append, List.map_singleton]
              walk_at "rd"
              exact acc_push h hD s3 (s3 _ _ hy2) (Same.dt s3 g1)
            · rw [if_neg (by rw [c]; exact Bool.false_ne_true)]
              exact ⟨hws.trans s3, ys2, s3 _ _ hy2, Same.dts s3 dy2⟩
          | ring k0 n0 r0 =>
            rw [T.data] at g2
            obtain ⟨p2, x1, x2, x3, rfl, hp2, w1, w2, w3⟩ := DT.three_inv g2
            obtain rfl := w1.str_inv
            walk_at "rd"
            rw [hits_take er, if_neg (by simp [hit])]
            exact h
          | any ps =>
            rw [T.data] at g2
            obtain ⟨p2, x1, x2, rfl, hp2, w1, w2⟩ := DT.two_inv g2
            obtain rfl := w1.str_inv
            walk_at "rd"
            rw [hits_take er, if_neg (by simp [hit])]
            exact h
          | both ps =>
            rw [T.data] at g2
            obtain ⟨p2, x1, x2, rfl, hp2, w1, w2⟩ := DT.two_inv g2
            obtain rfl := w1.str_inv
            walk_at "rd"
            rw [hits_take er, if_neg (by simp [hit])]
            exact h
          | but ta tb =>
            rw [T.data] at g2
            obtain ⟨p2, x1, x2, x3, rfl, hp2, w1, w2, w3⟩ := DT.three_inv g2
            obtain rfl := w1.str_inv
            walk_at "rd"
            rw [hits_take er, if_neg (by simp [hit])]
            exact h
          | opn k0 n0 r0 t0 =>
            rw [T.data] at g2
            obtain ⟨p2, x1, x2, x3, x4, rfl, hp2, w1, w2, w3, w4⟩ := DT.four_inv g2
            obtain rfl := w1.str_inv
            walk_at "rd"
            rw [hits_take er, if_neg (by simp [hit])]
            exact h
        · rintro H2 ⟨s2, ys2, hy2, dy2⟩
          have lsx : sx.length = (pre [] t).length := by rw [dsf.length, List.length_map]
          rw [lsx, List.take_length] at dy2
          have f5 := f4.same s2
          have ft5 : ∀ l, H2 l = none → H6 l = none := (xf.trans (Ext.of xf.tabs s2)).free
          try clear f4
          try clear lsx
          try clear hvf
          try clear hwf
          try clear hsf
          try clear dsf
          try clear sof
          try clear tbf
          obtain ⟨hvg, hwg, hsg, dsg, sog, tbg⟩ := id f5
          walk_at "rd"
          intro tl tx H3 s3 ftl htl dtl
          have hy3 := s3 _ _ hy2
          have dy3 := Same.dts s3 dy2
          obtain ⟨pl1, pl2⟩ := paths_lay (hits k n' (pre [] t))
          walk_at "rd"
          refine ⟨.lst (SqL.of htl) dtl.dp, .lst (SqL.of hy3) dy3.dp, pl2, pl2, _, rfl, ?_⟩
          refine iteN (nnot (SeqAt.eqv_refl _ pl1)) ?_
          have f6 := f5.same s3
          have xg : Ext T H6 H3 := xf.trans (Ext.of xf.tabs (s2.trans s3))
          have tlen : tx.length ≤ 900 := by
            rw [dtl.length, List.length_map]
            unfold hits
            rw [List.length_map]
            have := List.length_filter_le (fun r : List Nat × Wood.T => hit k n' r.2) (pre [] t)
            rw [pre_len] at this
            omega
          have nDt : D ≠ tl := fun z => by rw [← z, hy2] at ftl; cases ftl
          have ft6 : H6 tl = none := ft5 _ ftl
          have xh : Ext T H6 (upd H3 tl (.lst (tx ++ [.non]))) := xg.told ft6 htl
          have tu := tups_lst (ys := tx ++ [.non]) htl
          obtain ⟨hvh, hwh, hsh, dsh, soh, tbh⟩ := id f6
          try clear f5
          try clear f6
          try clear xf
          try clear xg
          try clear s2
          try clear s3
          try clear ftl
          try clear ft5
          try clear ft6
          try clear dtl
          try clear hy2
          try clear dy2
          try clear hsh
          try clear dsh
          try clear soh
          try clear tbh
          try clear hvg
          try clear hwg
          try clear hsg
          try clear dsg
          try clear sog
          try clear tbg
          walk_at "rd"
          have hv7 := hvh.keep tu
          have hw7 := hwh.keep tu
          have hy7 : upd H3 tl (.lst (tx ++ [.non])) D = some (.lst ys2) := (upd_ne nDt).trans hy3
          have dy7 := dy3.keep tu
          walk_at "rd"
          intro t2l t2x H8 s8 f8 ht8 dt8
          refine ⟨_, rfl, _, _, .lst (SqL.of ht8) dt8.dp, .lst (SqL.of (s8 _ _ hy7)) (Same.dts s8 dy7).dp, pl2, pl2, _, rfl, ?_⟩
          refine iteN (nnot (SeqAt.eqv_refl _ pl1)) ?_
          exact ⟨_, _, _, rfl, xh.trans (Ext.of xh.tabs s8)⟩
      · rintro σ Hz ⟨o3, o7, o8, rfl, xz⟩
        walk_at "rd"
        exact q _ (Keep.of b1 (x6.trans xz)) ((x6.trans xz).src hp1) xz.tabs
    | some u =>
      have inu : ∀ k n, isIn k n u = isIn k n t := fun k n => by
        have z := less_in k n t wf
        rw [eo] at z
        exact z
      have L := lessen t u eo
      have wfu := L.wf wf
      have szu : size u ≤ 900 := Nat.le_trans L.size sz
      have dpu : deep u ≤ 6 := Nat.le_trans L.deep dp
      have dpu100 : deep u ≤ 100 := by omega
      have lyu := lay_less ly eo
      have so4c : DT H4b sv u.data := by rw [eo] at so4b; exact so4b
      obtain ⟨sp, rfl⟩ := oD_some (t := u) so4c
      walk_at "rd"
      intro u2 H4c s4c du2
      rw [full_less u L.full] at du2
      have so4d : DT H4c (.ref sp) u.data := Same.dt s4c so4c
      have shu : SeqAt.shaped u.data = true := by
        unfold SeqAt.shaped
        rw [lyu.1, Bool.true_and]
        exact decide_eq_true (Nat.le_trans lyu.2 (by decide))
      refine ⟨_, rfl, _, _, du2.dp, so4d.dp, shu, shu, _, rfl, ?_⟩
      refine iteN (nnot (SeqAt.eqv_refl u.data lyu.1)) ?_
      have x4c : Ext T H1 H4c := Ext.of tb1 (s14.trans s4c)
      have hv4c := Same.dt s4c hv4b
      have hs4c := s4c _ _ hs4b
      have ds4c := Same.dts s4c ds4b
      have so4e := Same.dt s4c so4b
      walk_at "rd"
      intro Tu hTu
      walk_at "rd"
      intro Du hDu
      refine lc_tup (K := K) (a := Tu) (xs := [.int 0, .int 1, .int 2, .int 5]) (fun i => AccAt (upd H4c Tu (.tup [.int 0, .int 1, .int 2, .int 5])) Du ((objs (us9.take 4)).take i)) (acc0 hDu) (fun i H2 _ h => SqT.of (h.same _ _ upd_same)) ?_ ?_
      · rintro i x H2 hi h
        obtain ⟨i4, rfl, eo4⟩ : ∃ j : Int, x = .int j ∧ (objs (us9.take 4))[i]? = some (obj "user" j) := by
          match i, hi with
          | 0, hi => exact ⟨0, (Option.some.inj hi).symm, rfl⟩
          | 1, hi => exact ⟨1, (Option.some.inj hi).symm, rfl⟩
          | 2, hi => exact ⟨2, (Option.some.inj hi).symm, rfl⟩
          | 3, hi => exact ⟨5, (Option.some.inj hi).symm, rfl⟩
          | _ + 4, hi => cases hi
        obtain ⟨ys2, hy2, dy2⟩ := h.acc
        have ly2 : ys2.length < 1000 := by
          rw [dy2.length, List.length_take]
          have : (objs (us9.take 4)).length = 4 := rfl
          omega
        walk_at "rd"
        intro p3 hp3
        walk_at "rd"
        rw [take_get eo4]
        exact acc_push h hDu (same_new hp3) (same_new hp3 _ _ hy2) (DT.laid hp3 (.cons (.str _) (.cons (.int _) .nil)))
      rintro H2 ⟨s2, ys4, hy4, dy4⟩
      have dy4 : DTs H2 ys4 (objs (us9.take 4)) := dy4
      have y4l : ys4.length = 4 := by rw [dy4.length]; rfl
      walk_at "rd"
      intro a1 ha1
      walk_at "rd"
      intro a2 ha2
      walk_at "rd"
      intro a3 ha3
      walk_at "rd"
      intro a4 ha4
      walk_at "rd"
      intro a5 ha5
      walk_at "rd"
      intro lu hlu
      walk_at "rd"
      have e1 := same_new (o := .tup [.str "bot", .int 1]) ha1
      have e2 := same_new (o := .tup [.str "bot", .int 7]) ha2
      have e3 := same_new (o := .tup [.str "a", .int 3]) ha3
      have e4 := same_new (o := .tup [.str "doc", .int (10 ^ 20)]) ha4
      have e5 := same_new (o := .tup [.str "zone", .int 0]) ha5
      have e6 := same_new (o := .lst [.ref a1, .ref a2, .ref a3, .ref a4, .ref a5]) hlu
      intro ul hul
      have e7 := same_new (o := .lst (ys4 ++ [.ref a1, .ref a2, .ref a3, .ref a4, .ref a5])) hul
      have s67 := e1.trans (e2.trans (e3.trans (e4.trans (e5.trans (e6.trans e7)))))
      refine gen_heap (a := ul) (xs := ys4 ++ [.ref a1, .ref a2, .ref a3, .ref a4, .ref a5]) (ds := us9.map fun x => obj x.1 x.2) s67 upd_same
        ((Same.dts s67 dy4).append (.cons (Same.dt (e2.trans (e3.trans (e4.trans (e5.trans (e6.trans e7))))) (DT.laid ha1 (.cons (.str "bot") (.cons (.int 1) .nil)))) (.cons (Same.dt (e3.trans (e4.trans (e5.trans (e6.trans e7)))) (DT.laid ha2 (.cons (.str "bot") (.cons (.int 7) .nil)))) (.cons (Same.dt (e4.trans (e5.trans (e6.trans e7))) (DT.laid ha3 (.cons (.str "a") (.cons (.int 3) .nil)))) (.cons (Same.dt (e5.trans (e6.trans e7)) (DT.laid ha4 (.cons (.str "doc") (.cons (.int (10 ^ 20)) .nil)))) (.cons (Same.dt (e6.trans e7) (DT.laid ha5 (.cons (.str "zone") (.cons (.int 0) .nil)))) .nil))))))
        (fun H6 s67 hul2 dus => ?_)
      generalize ys4 ++ [V.ref a1, V.ref a2, V.ref a3, V.ref a4, V.ref a5] = usx at dus hul2
      have s56 := (same_new (o := .tup [.int 0, .int 1, .int 2, .int 5]) hTu).trans (s2.trans s67)
      have hv6 := Same.dt s56 hv4c
      have hs6 := s56 _ _ hs4c
      have ds6 := Same.dts s56 ds4c
      have so6 := Same.dt s56 so4e
      have x6 : Ext T H1 H6 := x4c.trans (Ext.of x4c.tabs s56)
      try clear hn
      try clear hp
      try clear tb
      try clear hv
      try clear gr
      try clear ly
      try clear tb1
      try clear s2
      try clear hsl
      try clear dsx
      try clear hv2
      try clear fl
      try clear hla
      try clear dlz
      try clear hln
      try clear lzl
      try clear hla4
      try clear hlc
      try clear esv
      try clear dsv
      try clear s35
      try clear s15
      try clear hv5
      try clear hs5
      try clear ds5
      try clear so5
      try clear esv2
      try clear ssl
      try clear g3000
      try clear hH4
      try clear s4b
      try clear du1
      try clear ol1
      try clear ol2
      try clear so4b
      try clear s14
      try clear hv4b
      try clear hs4b
      try clear ds4b
      try clear x4b
      try clear so4c
      try clear s4c
      try clear du2
      try clear so4d
      try clear shu
      try clear x4c
      try clear hv4c
      try clear hs4c
      try clear ds4c
      try clear so4e
      try clear hTu
      try clear hDu
      try clear hy4
      try clear dy4
      try clear y4l
      try clear ha1
      try clear ha2
      try clear ha3
      try clear ha4
      try clear ha5
      try clear hlu
      try clear e1
      try clear e2
      try clear e3
      try clear e4
      try clear e5
      try clear e6
      try clear hul
      try clear e7
      try clear s67
      try clear s56
      walk_at "rd"
      refine (for_it (walk_list (K := K) (a := ul) (xs := usx)) (fun i σ H => ∃ o3 o7 o8, σ = [some (.ref p), some v, some (.ref ul), o3, none, some (.ref sl), some (.ref sp), o7, o8, none, none, none] ∧ Ext T H6 H)
        ⟨_, _, _, rfl, Ext.refl x6.tabs⟩ (fun i σ H _ ⟨_, _, _, _, h⟩ => SqL.of (h.lst hul2)) ?_ ?_).choose_spec
      · rintro i x σ Hq Ha hi ⟨o3, o7, o8, rfl, xa⟩ ⟨rfl, ex⟩
        obtain ⟨d0, ed0, gx0⟩ := dus.get ex
        obtain ⟨⟨k, n'⟩, eu, rfl⟩ := map_get ed0
        obtain ⟨nk, nn, us⟩ := us9_ok (List.mem_of_getElem? eu)
        have eo' := eo
        have f0 : Fx T v (.ref sp) x sl sx t k n' Ha := ⟨hv6.keep xa.tups, gx0.keep xa.tups, xa.lst hs6, ds6.keep xa.tups, so6.keep xa.tups, xa.tabs⟩
        try clear d0
        try clear ed0
        try clear gx0
        try clear eu
        try clear ex
        try clear hul2
        try clear dus
        try clear hv6
        try clear hs6
        try clear ds6
        try clear so6
        try clear q
        try clear b1
        try clear x6
        try clear hp1
        try clear hi
        obtain ⟨hva, hwa, hsa, dsa, soa, tba⟩ := id f0
        walk_at "rd"
        intro Hc xc
        have f1 := f0.ext xc
        have yc := xa.trans xc
        try clear xa
        try clear xc
        try clear f0
        try clear hva
        try clear hwa
        try clear hsa
        try clear dsa
        try clear soa
        try clear tba
        obtain ⟨hvc, hwc, hsc, dsc, soc, tbc⟩ := id f1
        walk_at "rd"
        intro Hd sd
        have nb : (!decide (V.bl (isIn k n' t) = V.bl (isIn k n' t))) = false := by simp
        have f2 := f1.same sd
        have xd := yc.trans (Ext.of yc.tabs sd)
        try clear yc
        try clear sd
        try clear f1
        try clear hvc
        try clear hwc
        try clear hsc
        try clear dsc
        try clear soc
        try clear tbc
        obtain ⟨hvd, hwd, hsd, dsd, sod, tbd⟩ := id f2
        have sod' : DT Hd (.ref sp) u.data := by rw [eo', oD] at sod; exact sod
        walk_at "rd"
        intro He xe
        have f3 := f2.ext xe
        have ye := xd.trans xe
        try clear xd
        try clear xe
        try clear f2
        try clear sod'
        try clear hvd
        try clear hwd
        try clear hsd
        try clear dsd
        try clear sod
        try clear tbd
        obtain ⟨hve, hwe, hse, dse, soe, tbe⟩ := id f3
        walk_at "rd"
        intro Hf sf
        rw [show isIn k n' u = isIn k n' t from inu k n']
        walk_at "rd"
        have f4 := f3.same sf
        have xf := ye.trans (Ext.of ye.tabs sf)
        try clear xd
        try clear ye
        try clear sf
        try clear nb
        try clear f2
        try clear f3
        try clear hvd
        try clear hwd
        try clear hsd
        try clear dsd
        try clear sod
        try clear tbd
        try clear hve
        try clear hwe
        try clear hse
        try clear dse
        try clear soe
        try clear tbe
        obtain ⟨hvf, hwf, hsf, dsf, sof, tbf⟩ := id f4
        intro D hD
        refine lc_list (K := K) (a := sl) (xs := sx) (fun i => AccAt Hf D ((hits k n' ((pre [] t).take i)).map pathD)) (acc0 hD) (fun i H2 _ h => SqL.of (h.same _ _ hsf)) ?_ ?_
        · rintro j y H2 hi h
          obtain ⟨d, ed, gx⟩ := (Same.dts h.same dsf).get hi
          obtain ⟨⟨rp, rt⟩, er, rfl⟩ := map_get ed
          have wf2 : Wf rt := pre_wf t [] wf _ (List.mem_of_getElem? er)
          obtain ⟨p3, a3, b3, rfl, hp3, g1, g2⟩ := DT.two_inv gx
          have g2 : DT H2 b3 rt.data := g2
          obtain ⟨ys2, hy2, dy2⟩ := id h.acc
          have hw2 := Same.dt h.same hwf
          have ly2 : ys2.length < 1000 := by
            rw [dy2.length, List.length_map]
            unfold hits
            rw [List.length_map]
            have := List.length_filter_le (fun r : List Nat × Wood.T => hit k n' r.2) ((pre [] t).take j)
            rw [List.length_take, pre_len] at this
            omega
          have hws := h.same
          try clear d
          try clear ed
          try clear gx
          try clear hi
          try clear wf
          try clear sz
          try clear dp
          try clear dp100
          try clear inu
          try clear nk
          try clear nn
          try clear wfu
          try clear szu
          try clear dpu
          try clear dpu100
          try clear f4
          try clear xf
          try clear eo
          try clear L
          try clear lyu
          try clear hvf
          try clear hwf
          try clear hsf
          try clear dsf
          try clear sof
          try clear tbf
          cases rt with
          | set ss =>
            have g3 := g2
            rw [T.data] at g2
            obtain ⟨p4, x1, x2, rfl, hp4, w1, w2⟩ := g2.two_inv
            obtain rfl := w1.str_inv
            have dp1 : deep (Wood.T.set ss) ≤ 6 := by simp [deep]
            have sz1 : size (Wood.T.set ss) ≤ 900 := by simp [size]
            walk_at "rd"
            intro H3 s3
            walk_at "rd"
            rw [show isIn k n' (Wood.T.set ss) = hit k n' (Wood.T.set ss) from by simp [isIn, hit], hits_take er]
            refine iteB (fun c => ?_) (fun c => ?_)
            · rw [if_pos c, List.map_append, List.map_singleton]
              walk_at "rd"
              exact acc_push h hD s3 (s3 _ _ hy2) (Same.dt s3 g1)
            · rw [if_neg (by rw [c]; exact Bool.false_ne_true)]
              exact ⟨hws.trans s3, ys2, s3 _ _ hy2, Same.dts s3 dy2⟩
          | ring k0 n0 r0 =>
            rw [T.data] at g2
            obtain ⟨p2, x1, x2, x3, rfl, hp2, w1, w2, w3⟩ := DT.three_inv g2
            obtain rfl := w1.str_inv
            walk_at "rd"
            rw [hits_take er, if_neg (by simp [hit])]
            exact h
          | any ps =>
            rw [T.data] at g2
            obtain ⟨p2, x1, x2, rfl, hp2, w1, w2⟩ := DT.two_inv g2
            obtain rfl := w1.str_inv
            walk_at "rd"
            rw [hits_take er, if_neg (by simp [hit])]
            exact h
          | both ps =>
            rw [T.data] at g2
            obtain ⟨p2, x1, x2, rfl, hp2, w1, w2⟩ := DT.two_inv g2
            obtain rfl := w1.str_inv
            walk_at "rd"
            rw [hits_take er, if_neg (by simp [hit])]
            exact h
          | but ta tb =>
            rw [T.data] at g2
            obtain ⟨p2, x1, x2, x3, rfl, hp2, w1, w2, w3⟩ := DT.three_inv g2
            obtain rfl := w1.str_inv
            walk_at "rd"
            rw [hits_take er, if_neg (by simp [hit])]
            exact h
          | opn k0 n0 r0 t0 =>
            rw [T.data] at g2
            obtain ⟨p2, x1, x2, x3, x4, rfl, hp2, w1, w2, w3, w4⟩ := DT.four_inv g2
            obtain rfl := w1.str_inv
            walk_at "rd"
            rw [hits_take er, if_neg (by simp [hit])]
            exact h
        · rintro H2 ⟨s2, ys2, hy2, dy2⟩
          have lsx : sx.length = (pre [] t).length := by rw [dsf.length, List.length_map]
          rw [lsx, List.take_length] at dy2
          have f5 := f4.same s2
          have ft5 : ∀ l, H2 l = none → H6 l = none := (xf.trans (Ext.of xf.tabs s2)).free
          try clear f4
          try clear lsx
          try clear hvf
          try clear hwf
          try clear hsf
          try clear dsf
          try clear sof
          try clear tbf
          obtain ⟨hvg, hwg, hsg, dsg, sog, tbg⟩ := id f5
          walk_at "rd"
          intro tl tx H3 s3 ftl htl dtl
          have hy3 := s3 _ _ hy2
          have dy3 := Same.dts s3 dy2
          obtain ⟨pl1, pl2⟩ := paths_lay (hits k n' (pre [] t))
          walk_at "rd"
          refine ⟨.lst (SqL.of htl) dtl.dp, .lst (SqL.of hy3) dy3.dp, pl2, pl2, _, rfl, ?_⟩
          refine iteN (nnot (SeqAt.eqv_refl _ pl1)) ?_
          have f6 := f5.same s3
          have xg : Ext T H6 H3 := xf.trans (Ext.of xf.tabs (s2.trans s3))
          have tlen : tx.length ≤ 900 := by
            rw [dtl.length, List.length_map]
            unfold hits
            rw [List.length_map]
            have := List.length_filter_le (fun r : List Nat × Wood.T => hit k n' r.2) (pre [] t)
            rw [pre_len] at this
            omega
          have nDt : D ≠ tl := fun z => by rw [← z, hy2] at ftl; cases ftl
          have ft6 : H6 tl = none := ft5 _ ftl
          have xh : Ext T H6 (upd H3 tl (.lst (tx ++ [.non]))) := xg.told ft6 htl
          have tu := tups_lst (ys := tx ++ [.non]) htl
          obtain ⟨hvh, hwh, hsh, dsh, soh, tbh⟩ := id f6
          try clear f5
          try clear f6
          try clear xf
          try clear xg
          try clear s2
          try clear s3
          try clear ftl
          try clear ft5
          try clear ft6
          try clear dtl
          try clear hy2
          try clear dy2
          try clear hsh
          try clear dsh
          try clear soh
          try clear tbh
          try clear hvg
          try clear hwg
          try clear hsg
          try clear dsg
          try clear sog
          try clear tbg
          walk_at "rd"
          have hv7 := hvh.keep tu
          have hw7 := hwh.keep tu
          have hy7 : upd H3 tl (.lst (tx ++ [.non])) D = some (.lst ys2) := (upd_ne nDt).trans hy3
          have dy7 := dy3.keep tu
          walk_at "rd"
          intro t2l t2x H8 s8 f8 ht8 dt8
          refine ⟨_, rfl, _, _, .lst (SqL.of ht8) dt8.dp, .lst (SqL.of (s8 _ _ hy7)) (Same.dts s8 dy7).dp, pl2, pl2, _, rfl, ?_⟩
          refine iteN (nnot (SeqAt.eqv_refl _ pl1)) ?_
          exact ⟨_, _, _, rfl, xh.trans (Ext.of xh.tabs s8)⟩
      · rintro σ Hz ⟨o3, o7, o8, rfl, xz⟩
        have soz : DT Hz (.ref sp) u.data := by
          have z := so6.keep xz.tups
          rw [eo] at z
          exact z
        walk_at "rd"
        intro l9 x9 H9 s9 h9 d9
        walk_at "rd"
        intro D9 hD9
        refine lc_list (K := K) (a := l9) (xs := x9) (fun i => AccAt H9 D9 []) (acc0 hD9) (fun i H2 _ h => SqL.of (h.same _ _ h9)) ?_ ?_
        · rintro j y H2 hi h
          obtain ⟨d, ed, gx⟩ := (Same.dts h.same d9).get hi
          obtain ⟨⟨rp, rt⟩, er, rfl⟩ := map_get ed
          have mr := List.mem_of_getElem? er
          have fu : Full rt := full_pre u [] L.full _ mr
          have ly2 : Lay rt := pre_all (R := Lay) (fun t c h m => lay_inner h m) _ u (Nat.le_refl _) lyu [] _ mr
          obtain ⟨p3, a3, b3, rfl, hp3, g1, g2⟩ := DT.two_inv gx
          have g2 : DT H2 b3 rt.data := g2
          obtain ⟨ys2, hy2, dy2⟩ := h.acc
          cases rt with
          | ring k0 n0 r0 => rw [Full] at fu; exact fu.elim
          | set ss =>
            rw [T.data] at g2
            obtain ⟨p4, x1, x2, rfl, hp4, w1, w2⟩ := DT.two_inv g2
            obtain rfl := w1.str_inv
            walk_at "rd"
            intro p5 hp5
            walk_at "rd"
            intro te hte
            walk_at "rd"
            intro tt htt
            have e7 := (same_new (o := .tup []) hte).trans (same_new (o := .tup [.ref te]) htt)
            have g7 : DT (upd (upd (upd H2 p5 (.tup [x2])) te (.tup [])) tt (.tup [.ref te])) (.ref p5) (.tuple [.tuple (ss.map Sb.data)]) := Same.dt e7 (DT.laid hp5 (.cons w2 .nil))
            have g8 : DT (upd (upd (upd H2 p5 (.tup [x2])) te (.tup [])) tt (.tup [.ref te])) (.ref tt) (.tuple [.tuple []]) := DT.laid htt (.cons (DT.laid hte .nil) .nil)
            refine ⟨_, _, g7.dp, g8.dp, rest_shaped ly2 (by rw [T.data]), nil2_shaped, _, rfl, ?_⟩
            refine iteN (by rw [Full] at fu; cases ss with | nil => exact absurd rfl fu | cons _ _ => simp [PyData.eqv, PyData.eqvAll]) ?_
            exact ⟨h.same.trans ((same_new hp5).trans e7), ys2, e7 _ _ (same_new hp5 _ _ hy2), by rw [dy2.nil_inv]; exact .nil⟩
          | any ps =>
            rw [T.data] at g2
            obtain ⟨p4, x1, x2, rfl, hp4, w1, w2⟩ := DT.two_inv g2
            obtain rfl := w1.str_inv
            walk_at "rd"
            intro p5 hp5
            walk_at "rd"
            intro te hte
            walk_at "rd"
            intro tt htt
            have e7 := (same_new (o := .tup []) hte).trans (same_new (o := .tup [.ref te]) htt)
            have g7 : DT (upd (upd (upd H2 p5 (.tup [x2])) te (.tup [])) tt (.tup [.ref te])) (.ref p5) (.tuple [.tuple (datas ps)]) := Same.dt e7 (DT.laid hp5 (.cons w2 .nil))
            have g8 : DT (upd (upd (upd H2 p5 (.tup [x2])) te (.tup [])) tt (.tup [.ref te])) (.ref tt) (.tuple [.tuple []]) := DT.laid htt (.cons (DT.laid hte .nil) .nil)
            refine ⟨_, _, g7.dp, g8.dp, rest_shaped ly2 (by rw [T.data]), nil2_shaped, _, rfl, ?_⟩
            refine iteN (by rw [Full] at fu; cases ps with | nil => exact absurd fu.1 (by simp) | cons _ _ => simp [datas, PyData.eqv, PyData.eqvAll]) ?_
            exact ⟨h.same.trans ((same_new hp5).trans e7), ys2, e7 _ _ (same_new hp5 _ _ hy2), by rw [dy2.nil_inv]; exact .nil⟩
          | both ps =>
            rw [T.data] at g2
            obtain ⟨p4, x1, x2, rfl, hp4, w1, w2⟩ := DT.two_inv g2
            obtain rfl := w1.str_inv
            walk_at "rd"
            intro p5 hp5
            walk_at "rd"
            intro te hte
            walk_at "rd"
            intro tt htt
            have e7 := (same_new (o := .tup []) hte).trans (same_new (o := .tup [.ref te]) htt)
            have g7 : DT (upd (upd (upd H2 p5 (.tup [x2])) te (.tup [])) tt (.tup [.ref te])) (.ref p5) (.tuple [.tuple (datas ps)]) := Same.dt e7 (DT.laid hp5 (.cons w2 .nil))
            have g8 : DT (upd (upd (upd H2 p5 (.tup [x2])) te (.tup [])) tt (.tup [.ref te])) (.ref tt) (.tuple [.tuple []]) := DT.laid htt (.cons (DT.laid hte .nil) .nil)
            refine ⟨_, _, g7.dp, g8.dp, rest_shaped ly2 (by rw [T.data]), nil2_shaped, _, rfl, ?_⟩
            refine iteN (by rw [Full] at fu; cases ps with | nil => exact absurd fu.1 (by simp) | cons _ _ => simp [datas, PyData.eqv, PyData.eqvAll]) ?_
            exact ⟨h.same.trans ((same_new hp5).trans e7), ys2, e7 _ _ (same_new hp5 _ _ hy2), by rw [dy2.nil_inv]; exact .nil⟩
          | but ta tb =>
            rw [T.data] at g2
            obtain ⟨p4, x1, x2, x3, rfl, hp4, w1, w2, w3⟩ := DT.three_inv g2
            obtain rfl := w1.str_inv
            walk_at "rd"
            intro p5 hp5
            walk_at "rd"
            intro te hte
            walk_at "rd"
            intro tt htt
            have e7 := (same_new (o := .tup []) hte).trans (same_new (o := .tup [.ref te]) htt)
            have g7 : DT (upd (upd (upd H2 p5 (.tup [x2, x3])) te (.tup [])) tt (.tup [.ref te])) (.ref p5) (.tuple [ta.data, tb.data]) := Same.dt e7 (DT.laid hp5 (.cons w2 (.cons w3 .nil)))
            have g8 : DT (upd (upd (upd H2 p5 (.tup [x2, x3])) te (.tup [])) tt (.tup [.ref te])) (.ref tt) (.tuple [.tuple []]) := DT.laid htt (.cons (DT.laid hte .nil) .nil)
            refine ⟨_, _, g7.dp, g8.dp, rest_shaped ly2 (by rw [T.data]), nil2_shaped, _, rfl, ?_⟩
            refine iteN (by simp [PyData.eqv, PyData.eqvAll]) ?_
            exact ⟨h.same.trans ((same_new hp5).trans e7), ys2, e7 _ _ (same_new hp5 _ _ hy2), by rw [dy2.nil_inv]; exact .nil⟩
          | opn k0 n0 r0 t0 =>
            rw [T.data] at g2
            obtain ⟨p4, x1, x2, x3, x4, rfl, hp4, w1, w2, w3, w4⟩ := DT.four_inv g2
            obtain rfl := w1.str_inv
            walk_at "rd"
            intro p5 hp5
            walk_at "rd"
            intro te hte
            walk_at "rd"
            intro tt htt
            have e7 := (same_new (o := .tup []) hte).trans (same_new (o := .tup [.ref te]) htt)
            have g7 : DT (upd (upd (upd H2 p5 (.tup [x2, x3, x4])) te (.tup [])) tt (.tup [.ref te])) (.ref p5) (.tuple [obj k0 n0, .str r0, t0.data]) := Same.dt e7 (DT.laid hp5 (.cons w2 (.cons w3 (.cons w4 .nil))))
            have g8 : DT (upd (upd (upd H2 p5 (.tup [x2, x3, x4])) te (.tup [])) tt (.tup [.ref te])) (.ref tt) (.tuple [.tuple []]) := DT.laid htt (.cons (DT.laid hte .nil) .nil)
            refine ⟨_, _, g7.dp, g8.dp, rest_shaped ly2 (by rw [T.data]), nil2_shaped, _, rfl, ?_⟩
            refine iteN (by simp [PyData.eqv, PyData.eqvAll]) ?_
            exact ⟨h.same.trans ((same_new hp5).trans e7), ys2, e7 _ _ (same_new hp5 _ _ hy2), by rw [dy2.nil_inv]; exact .nil⟩
        · rintro H2 ⟨s2, ys2, hy2, dy2⟩
          obtain rfl := dy2.nil_inv
          walk_at "rd"
          intro e0 he0
          refine ⟨_, _, .lst (SqL.of (same_new he0 _ _ hy2)) .nil, .lst (SqL.of upd_same) .nil, nilL_shaped, nilL_shaped, ?_⟩
          have xq := (x6.trans xz).trans (Ext.of xz.tabs (s9.trans (s2.trans (same_new (o := .lst []) he0))))
          exact q _ (Keep.of b1 xq) (xq.src hp1) xq.tabs

end
end Wood

set_option maxHeartbeats 8000000
namespace Wood
open PySem PySem.Spec PyProof.Rows L2 Gen LamX NdefX
local macro_rules | `(tactic| walk_at "sz") => `(tactic| first | assumption | omega | (simp only [List.length_map, List.length_append, List.length_cons, List.length_nil, List.length_reverse] at *; omega))
local macro_rules | `(tactic| walk_at "hq") => `(tactic| first | assumption | exact upd_same | (refine same_new (by assumption) _ _ ?_; walk_at "hq") | (refine (show Same _ _ by assumption) _ _ ?_; walk_at "hq") | (refine (upd_ne (by assumption)).trans ?_; walk_at "hq"))
local macro_rules | `(tactic| walk_at "ty") => `(tactic| first | exact .base (.int _) | exact .base (.str _) | exact .base (.bl _) | exact .base .non | (apply TyX.base; apply TyOf.tup; walk_at "hq") | (apply TyX.base; apply TyOf.lst; walk_at "hq"))
local macro_rules | `(tactic| walk_at "dt") => `(tactic| first | assumption | exact DT.str _ | exact DT.int _ | exact DT.bl _ | exact DT.non | (refine Same.dt (same_new (by assumption)) ?_; walk_at "dt") | (refine Same.dt (by assumption) ?_; walk_at "dt"))
local macro_rules | `(tactic| walk_at "at") => `(tactic| first | with_reducible rfl | rfl | assumption | (show _ = some _; walk_at "hq") | (apply SqT.of; walk_at "hq") | (apply SqL.of; walk_at "hq") | (apply Or.inl; apply SqL.of; walk_at "hq") | (apply Or.inr; apply SqT.of; walk_at "hq") | (apply Or.inl; apply SqT.of; walk_at "hq") | (apply Or.inr; apply SqL.of; walk_at "hq") | exact atI_nat (j := 0) rfl | exact atI_nat (j := 1) rfl | exact atI_nat (j := 2) rfl | exact atI_nat (j := 3) rfl | exact .ty _ | exact .int _ | exact .str _ | exact .bl _ | exact ClsV.ty _ | walk_at "ty" | exact kit_ty (by decide +kernel) | exact True.intro | (show tyV _ _ _ _; exact .inl ⟨rfl, _, SqL.of (by walk_at "hq")⟩) | (show TruV _ _ _ _; first | exact .inl ⟨_, SqL.of (by walk_at "hq"), rfl⟩ | exact .inr (.inl ⟨_, SqT.of (by walk_at "hq"), rfl⟩)) | (show DT _ _ _; walk_at "dt") | (apply DT.dp; walk_at "dt") | (apply Exists.intro; apply SqT.of; walk_at "hq") | (apply Exists.intro; apply SqL.of; walk_at "hq") | (show _ ≤ sizeLine; decide) | omega | (refine small1000 ?_; walk_at "sz") | (refine le1000 ?_; walk_at "sz"))
local macro_rules | `(tactic| walk_at "ite") => `(tactic| refine iteB (fun c => ?_) (fun c => ?_))
local macro_rules | `(tactic| walk_at "rd") => `(tactic| repeat (walk_at "st"))
local macro_rules | `(tactic| walk_at "sr") => `(tactic| first | assumption | (apply Src.new; (focus (walk_at "sr")); (focus assumption)) | (apply Src.same; (focus (walk_at "sr")); (focus assumption)))
local macro_rules | `(tactic| walk_at "ar") => `(tactic| first | (show Src _ _ _; walk_at "sr") | (show ((_ : Nat) < _); first | omega | decide | (simp only [List.length_cons, List.length_nil]; omega)) | (show ((_ : Int) < _); first | omega | decide) | (apply Or.inl; assumption) | (apply Or.inr; assumption) | (show ¬ _; simp only [List.length_cons, List.length_nil]; decide) | (show CMul _ _; first | exact .inl ⟨by omega, by omega⟩ | exact .inr ⟨by omega, by omega⟩ | exact .inl ⟨by decide, by decide⟩ | exact .inr ⟨by decide, by decide⟩) | (show CDiv _ _; exact ⟨by omega, by omega⟩) | (show CDiv _ _; exact ⟨by decide, by decide⟩) | (show CDivW _ _; exact wide_div (b := 40) (by omega) (by omega) (by decide) (by decide)) | (show CPow _ _; exact ⟨by decide, by decide, by decide⟩) | (show (0 : Int) < _; omega) | (show (0 : Int) < _; decide))
local macro_rules | `(tactic| walk_at "st") => `(tactic| first | (apply Exists.intro) | (apply And.intro; focus (first | walk_at "ar" | walk_at "at"; done)) | (refine iteT ?_) | (refine iteF ?_) | (refine iteY (by assumption) ?_) | (refine iteN (by assumption) ?_) | (refine iteY (decide_eq_true ?_) ?_; focus (first | assumption | omega)) | (refine iteN (decide_eq_false ?_) ?_; focus (first | assumption | omega)) | (refine (show (∃ _ : Int, _) ∨ (∃ _ : Bool, _) from Or.inl ⟨_, rfl, ?_⟩)) | (refine (show (∃ _ : Int, _) ∨ (∃ _ : Bool, _) from Or.inr ⟨_, rfl, ?_⟩)))
local macro_rules | `(tactic| walk_at "sm") => `(tactic| first | exact (fun _ _ h => h) | assumption | (refine Same.trans ?_ (same_new (by assumption)); walk_at "sm") | (refine Same.trans ?_ (show Same _ _ by assumption); walk_at "sm"))
local macro_rules | `(tactic| walk_at "ri") => `(tactic| repeat (first | walk_at "st" | refine fun (_ : Addr) (_ : _ = none) => ?_))
abbrev S_law : Stmt := top 37
theorem sc_law : FnScope ["script", "cell", "well", "turn"] ["script"] (defScope S_law) := ⟨rfl, rfl, rfl, by decide +kernel, rfl, by decide +kernel, by decide +kernel⟩
def spLaw (T : List NTab) (K : PySem.W.Frag) : Sp := fun vs H Q _ => ∃ (a : Addr) (ns : List Int), vs = [.ref a] ∧ SqL K H a (ns.map V.int) ∧ ns.length ≤ 63 ∧ TabsN T H ∧ ∀ H', Q (.bl true) H'
theorem cut_ints (ns : List Int) (lo hi : Option Int) : ∃ ms : List Int, cutV (ns.map V.int) lo hi = ms.map V.int ∧ ms.length ≤ ns.length := by
  refine ⟨(ns.drop (HT.sIx (ns.map V.int).length 0 lo)).take (HT.sIx (ns.map V.int).length (ns.map V.int).length hi - HT.sIx (ns.map V.int).length 0 lo), ?_, ?_⟩
  · unfold cutV
    rw [List.map_take, List.map_drop]
  · rw [List.length_take, List.length_drop]
    omega
theorem cost5 : cost 5 = 10920 := by decide
section
variable {P : Program} {w : World} {K : PySem.W.Frag} {mg : Str → Option Value} {base : Heap}
theorem ok_paths {f : Addr} {fd : FuncData} (F : Fun K "_law_paths" "_law_paths" S__law_paths f fd)  (m_enumerate : mg "enumerate" = none) {f__law_inner : Addr} {fd__law_inner : FuncData} (G__law_inner : FnOk P w K mg base CX0 1 f__law_inner fd__law_inner ["bough"] spInner) (g__law_inner : mg "_law_inner" = some (.ref f__law_inner)) (k__law_inner : PySem.W.keepIn K (.ref f__law_inner) = true) (b__law_inner : Binds K fd__law_inner ["bough"] [])  (g__law_paths : mg "_law_paths" = some (.ref f)) (k__law_paths : PySem.W.keepIn K (.ref f) = true) (b__law_paths : L2.Binds K fd ["bough"] []) :
    ∀ m, FnOk P w K mg base CX0 (1 + m + 1) f fd ["bough"] (spPaths m)
  | 0 => ok_paths_step 0 F m_enumerate G__law_inner g__law_inner k__law_inner b__law_inner (F.ok sc__law_paths (fun _ _ _ _ z => False.elim z) (fun _ _ _ _ _ _ _ _ _ z => False.elim z)) g__law_paths k__law_paths b__law_paths
  | m + 1 => ok_paths_step (m + 1) F m_enumerate G__law_inner g__law_inner k__law_inner b__law_inner (ok_paths F m_enumerate G__law_inner g__law_inner k__law_inner b__law_inner g__law_paths k__law_paths b__law_paths m) g__law_paths k__law_paths b__law_paths
theorem ok_lin {f : Addr} {fd : FuncData} (F : Fun K "_law_in" "_law_in" S__law_in f fd)  {f__law_inner : Addr} {fd__law_inner : FuncData} (G__law_inner : FnOk P w K mg base CX0 1 f__law_inner fd__law_inner ["bough"] spInner) (g__law_inner : mg "_law_inner" = some (.ref f__law_inner)) (k__law_inner : PySem.W.keepIn K (.ref f__law_inner) = true) (b__law_inner : Binds K fd__law_inner ["bough"] [])  (g__law_in : mg "_law_in" = some (.ref f)) (k__law_in : PySem.W.keepIn K (.ref f) = true) (b__law_in : L2.Binds K fd ["bough", "whom"] []) :
    ∀ m, FnOk P w K mg base CX0 (1 + m + 1) f fd ["bough", "whom"] (spLIn m)
  | 0 => ok_lin_step 0 F G__law_inner g__law_inner k__law_inner b__law_inner (F.ok sc__law_in (fun _ _ _ _ z => False.elim z) (fun _ _ _ _ _ _ _ _ _ z => False.elim z)) g__law_in k__law_in b__law_in
  | m + 1 => ok_lin_step (m + 1) F G__law_inner g__law_inner k__law_inner b__law_inner (ok_lin F G__law_inner g__law_inner k__law_inner b__law_inner g__law_in k__law_in b__law_in m) g__law_in k__law_in b__law_in
theorem ok_less {f : Addr} {fd : FuncData} (F : Fun K "_law_less" "_law_less" S__law_less f fd)  (m_int : mg "int" = none) {f__law_inner : Addr} {fd__law_inner : FuncData} (G__law_inner : FnOk P w K mg base CX0 1 f__law_inner fd__law_inner ["bough"] spInner) (g__law_inner : mg "_law_inner" = some (.ref f__law_inner)) (k__law_inner : PySem.W.keepIn K (.ref f__law_inner) = true) (b__law_inner : Binds K fd__law_inner ["bough"] []) (m_len : mg "len" = none) (m_tuple : mg "tuple" = none)  (g__law_less : mg "_law_less" = some (.ref f)) (k__law_less : PySem.W.keepIn K (.ref f) = true) (b__law_less : L2.Binds K fd ["bough"] []) :
    ∀ m, FnOk P w K mg base CX0 (1 + m + 1) f fd ["bough"] (spLess m)
  | 0 => ok_less_step 0 F m_int G__law_inner g__law_inner k__law_inner b__law_inner m_len m_tuple (F.ok sc__law_less (fun _ _ _ _ z => False.elim z) (fun _ _ _ _ _ _ _ _ _ z => False.elim z)) g__law_less k__law_less b__law_less
  | m + 1 => ok_less_step (m + 1) F m_int G__law_inner g__law_inner k__law_inner b__law_inner m_len m_tuple (ok_less F m_int G__law_inner g__law_inner k__law_inner b__law_inner m_len m_tuple g__law_less k__law_less b__law_less m) g__law_less k__law_less b__law_less
theorem ok_law {T : List NTab} {f : Addr} {fd : FuncData} (F : Fun K "law" "law" S_law f fd) {f__law_well : Addr} {fd__law_well : FuncData} (G__law_well : FnOk P w K mg base CX0 1 f__law_well fd__law_well ["cell"] spS) (g__law_well : mg "_law_well" = some (.ref f__law_well)) (k__law_well : PySem.W.keepIn K (.ref f__law_well) = true) (b__law_well : Binds K fd__law_well ["cell"] []) (m_range : mg "range" = none) {f__law_right : Addr} {fd__law_right : FuncData} (G__law_right : FnOk P w K mg base CX0 12 f__law_right fd__law_right ["well"] (spRight T)) (g__law_right : mg "_law_right" = some (.ref f__law_right)) (k__law_right : PySem.W.keepIn K (.ref f__law_right) = true) (b__law_right : Binds K fd__law_right ["well"] []) :
    FnOk P w K mg base CX0 13 f fd ["script"] (spLaw T K) := by
  refine F.ok sc_law (fun vs H Q E h => ?_) (fun cdv A outer s H vs Q E hr h => ?_)
  · obtain ⟨x, _, rfl, _⟩ := h
    rfl
  · obtain ⟨a, ns, rfl, hs, nl, tb, q⟩ := h
    refine ⟨_, pss_cons (ps_for PassesOwn.never rfl (pi_list (pe_op op_cat (pe_slice sl_list (pv 0) po_none (po_some (pe_int))) (pe_lst (pa_cons (pe_int) pa_nil)))) (pg_name (i := 1) sc_law.nd rfl (.inl rfl))
        (pss_cons (ps_set (i := 2) sc_law.nd rfl (.inl rfl) (pe_call G__law_well (hr.mono (by decide)) (by rfl) g__law_well k__law_well b__law_well .nil pass0 (pa_cons (pv 1) pa_nil)))
        (pss_one (ps_for PassesOwn.never rfl (pi_range1 (by rfl) m_range (pa_cons (pe_int) pa_nil)) (pg_name (i := 3) sc_law.nd rfl (.inl rfl))
          (pss_one (ps_if (pt_not (pt_val (pe_call G__law_right (hr.mono (by decide)) (by rfl) g__law_right k__law_right b__law_right .nil pass0 (pa_cons (pv 2) pa_nil))))
            (pss_one (ps_ret (pe_bl)))
            (pss_nil)))))))
      (pss_one (ps_ret (pe_bl))), ?_⟩
    try clear f__law_well
    try clear fd__law_well
    try clear G__law_well
    try clear g__law_well
    try clear k__law_well
    try clear b__law_well
    try clear m_range
    try clear f__law_right
    try clear fd__law_right
    try clear G__law_right
    try clear g__law_right
    try clear k__law_right
    try clear b__law_right
    try clear F
    obtain ⟨ms, em, ml⟩ := cut_ints ns none (some 4)
    have c5 := cost5
    walk_at "rd"
    intro l1 hl1
    rw [em]
    walk_at "rd"
    intro l2 hl2
    walk_at "rd"
    intro l3 hl3
    have s1 := (same_new (o := .lst (ms.map V.int)) hl1).trans ((same_new (o := .lst [V.int 0]) hl2).trans (same_new (o := .lst (ms.map V.int ++ [V.int 0])) hl3))
    have tb1 := tb.ext s1
    have h3 : upd (upd (upd H l1 (.lst (ms.map V.int))) l2 (.lst [V.int 0])) l3 (.lst (ms.map V.int ++ [V.int 0])) l3 = some (.lst (ms.map V.int ++ [V.int 0])) := upd_same
    have hI : ∀ (i : Nat) (x : V), (ms.map V.int ++ [V.int 0])[i]? = some x → ∃ c : Int, x = V.int c := fun i x e => by
      rw [show ms.map V.int ++ [V.int 0] = (ms ++ [0]).map V.int by simp] at e
      obtain ⟨c, _, rfl⟩ := map_get e
      exact ⟨c, rfl⟩
    generalize ms.map V.int ++ [V.int 0] = ys at h3 tb1 hI s1
    walk_at "rd"
    refine (for_it (walk_list (K := K) (a := l3) (xs := ys)) (fun i σ H2 => ∃ o1 o2 o3, σ = [some (.ref a), o1, o2, o3] ∧ H2 l3 = some (.lst ys) ∧ TabsN T H2)
      ⟨_, _, _, rfl, h3, tb1⟩ (fun i σ H2 _ ⟨_, _, _, _, h, _⟩ => SqL.of h) ?_ ?_).choose_spec
    · rintro i x σ Hq H2 hi ⟨o1, o2, o3, rfl, hx, tx⟩ ⟨rfl, ex⟩
      obtain ⟨c, rfl⟩ := hI i x ex
      clear h3 tb1 s1 q hs tb
      walk_at "rd"
      intro pw H3 hpw s3 sr
      have n3 : l3 ≠ pw := fun z => by rw [z, hpw] at hx; cases hx
      have hx3 := s3 _ _ hx
      have tx3 := tx.ext s3
      walk_at "rd"
      refine (for_it (walk_range (lo := 0) (n := 3)) (fun j σ H4 => ∃ o3, σ = [some (.ref a), some (.int c), some (.ref pw), o3] ∧ H4 l3 = some (.lst ys) ∧ TabsN T H4 ∧ Src H4 pw (j * cost 5))
        ⟨_, rfl, hx3, tx3, sr.le (by omega)⟩ (fun _ _ _ _ _ => True.intro) ?_ ?_).choose_spec
      · rintro j y σ H4 H5 hj ⟨o3, rfl, hx4, tx4, sr4⟩ ⟨rfl, rfl⟩
        have lt : j * cost 5 + cost 5 < 900000 := by rw [c5]; omega
        walk_at "rd"
        intro H6 k6 sr6 tx6
        have hx6 : H6 l3 = some (.lst ys) := k6 _ _ n3 hx4 (fun ps z => by cases z)
        have sr7 : Src H6 pw ((j + 1) * cost 5) := by rw [Nat.succ_mul]; exact sr6
        exact ⟨true, rfl, iteF ⟨_, rfl, hx6, tx6, sr7⟩⟩
      · rintro σ H4 ⟨o3, rfl, hx4, tx4, _⟩
        exact ⟨_, _, _, rfl, hx4, tx4⟩
    · rintro σ H2 ⟨o1, o2, o3, rfl, _, _⟩
      walk_at "rd"
      exact q _
end
end Wood

set_option maxHeartbeats 8000000
namespace Wood
open PySem PySem.Spec PyProof.Rows L2 Gen LamX NdefX
local macro_rules | `(tactic| walk_at "sz") => `(tactic| first | assumption | omega | (simp only [List.length_map, List.length_append, List.length_cons, List.length_nil, List.length_reverse] at *; omega))
local macro_rules | `(tactic| walk_at "hq") => `(tactic| first | assumption | exact upd_same | (refine same_new (by assumption) _ _ ?_; walk_at "hq") | (refine (show Same _ _ by assumption) _ _ ?_; walk_at "hq") | (refine (upd_ne (by assumption)).trans ?_; walk_at "hq"))
local macro_rules | `(tactic| walk_at "ty") => `(tactic| first | exact .base (.int _) | exact .base (.str _) | exact .base (.bl _) | exact .base .non | (apply TyX.base; apply TyOf.tup; walk_at "hq") | (apply TyX.base; apply TyOf.lst; walk_at "hq"))
local macro_rules | `(tactic| walk_at "dt") => `(tactic| first | assumption | exact DT.str _ | exact DT.int _ | exact DT.bl _ | exact DT.non | (refine Same.dt (same_new (by assumption)) ?_; walk_at "dt") | (refine Same.dt (by assumption) ?_; walk_at "dt"))
local macro_rules | `(tactic| walk_at "at") => `(tactic| first | with_reducible rfl | rfl | assumption | (show _ = some _; walk_at "hq") | (apply SqT.of; walk_at "hq") | (apply SqL.of; walk_at "hq") | (apply Or.inl; apply SqL.of; walk_at "hq") | (apply Or.inr; apply SqT.of; walk_at "hq") | (apply Or.inl; apply SqT.of; walk_at "hq") | (apply Or.inr; apply SqL.of; walk_at "hq") | exact atI_nat (j := 0) rfl | exact atI_nat (j := 1) rfl | exact atI_nat (j := 2) rfl | exact atI_nat (j := 3) rfl | exact .ty _ | exact .int _ | exact .str _ | exact .bl _ | exact ClsV.ty _ | walk_at "ty" | exact kit_ty (by decide +kernel) | exact True.intro | (show tyV _ _ _ _; exact .inl ⟨rfl, _, SqL.of (by walk_at "hq")⟩) | (show TruV _ _ _ _; first | exact .inl ⟨_, SqL.of (by walk_at "hq"), rfl⟩ | exact .inr (.inl ⟨_, SqT.of (by walk_at "hq"), rfl⟩)) | (show DT _ _ _; walk_at "dt") | (apply DT.dp; walk_at "dt") | (apply Exists.intro; apply SqT.of; walk_at "hq") | (apply Exists.intro; apply SqL.of; walk_at "hq") | (show _ ≤ sizeLine; decide) | omega | (refine small1000 ?_; walk_at "sz") | (refine le1000 ?_; walk_at "sz"))
local macro_rules | `(tactic| walk_at "ite") => `(tactic| refine iteB (fun c => ?_) (fun c => ?_))
local macro_rules | `(tactic| walk_at "st") => `(tactic| first | (apply Exists.intro) | (apply And.intro; focus (walk_at "at"; done)) | (refine iteT ?_) | (refine iteF ?_) | (refine iteY (by assumption) ?_) | (refine iteN (by assumption) ?_) | (refine iteY (decide_eq_true (by first | assumption | omega)) ?_) | (refine iteN (decide_eq_false (by first | assumption | omega)) ?_))
local macro_rules | `(tactic| walk_at "rd") => `(tactic| repeat (walk_at "st"))
theorem kb1 {K : PySem.W.Frag} {fd : FuncData} {x : Str} (h1 : ∀ (s : Shared) (u : Value), BindsTo s fd ⟨[u], []⟩ [(x, u)]) (h2 : ∀ (s : Shared) (u : Value), BindsTo s fd ⟨[], [(x, u)]⟩ [(x, u)]) : L2.KBinds K fd [x] [x] (fun a b => a ++ b) (fun a b => a ++ b) := by
  refine ⟨fun s us ws _ hl => ?_, fun r1 r2 => r1.append r2⟩
  match us, ws, hl with
  | [u], [], _ => exact h1 s u
  | [], [u], _ => exact h2 s u
  | _ :: _ :: _, _, hl => simp at hl
  | _ :: _, _ :: _, hl => simp at hl
  | [], _ :: _ :: _, hl => simp at hl
  | [], [], hl => simp at hl
theorem kb2 {K : PySem.W.Frag} {fd : FuncData} {x y : Str} (h1 : ∀ (s : Shared) (u v : Value), BindsTo s fd ⟨[u, v], []⟩ [(x, u), (y, v)]) (h2 : ∀ (s : Shared) (u v : Value), BindsTo s fd ⟨[u], [(y, v)]⟩ [(x, u), (y, v)])
    (h3 : ∀ (s : Shared) (u v : Value), BindsTo s fd ⟨[], [(y, v), (x, u)]⟩ [(x, u), (y, v)]) : L2.KBinds K fd [x, y] [y, x] (fun a b => a ++ b.reverse) (fun a b => a ++ b.reverse) := by
  refine ⟨fun s us ws _ hl => ?_, fun r1 r2 => r1.append r2.reverse⟩
  match us, ws, hl with
  | [u, v], [], _ => exact h1 s u v
  | [u], [v], _ => exact h2 s u v
  | [], [v, u], _ => exact h3 s u v
  | _ :: _ :: _ :: _, _, hl => simp at hl
  | [_, _], _ :: _, hl => simp at hl
  | [_], _ :: _ :: _, hl => simp at hl
  | [_], [], hl => simp at hl
  | [], [], hl => simp at hl
  | [], [_], hl => simp at hl
  | [], _ :: _ :: _ :: _, hl => simp at hl
theorem all_mk {l : PySem.W.OpenLaw} {w : World} {K : PySem.W.Frag} {h : Heap} {mg : Str → Option Value} {fa cI pI : Addr} (X : K.In h) (G : h.Ns mainGlobals mg) (hfa : mg "law" = some (.ref fa))
    (tc : PySem.W.CodeHd h cI pI) (tp : h.get? pI = some { cls := .none, data := .fields #[] }) {clI : Value} {dI : Option Addr} {vI : Array Value} {sI : Array (Option Value)} (hC : K.lookup cI = some ⟨clI, dI, .fields vI, sI⟩) (h11 : vI[11]? = some (.ref pI)) (nP : K.lookup pI = none)
    {f_is_name : Addr} {od_is_name an_is_name : Option Addr} {sl_is_name : Array (Option Value)} {oc_is_name kV_is_name dc_is_name pm_is_name cd_is_name ct_is_name : Value}
    (a_is_name : PySem.W.nsIn K mainGlobals "is_name" = some (some (.ref f_is_name))) (l_is_name : K.lookup f_is_name = some ⟨oc_is_name, od_is_name, .func (PySem.W.fnOf "is_name" "is_name" (defArgs S_is_name) (defBody S_is_name) (defScope S_is_name) .none kV_is_name dc_is_name pm_is_name an_is_name cd_is_name ct_is_name), sl_is_name⟩) (c_is_name : PySem.W.codeIn K cd_is_name "is_name" = true) (k_is_name : PySem.W.keepIn K (.ref f_is_name) = true)
    {f_is_number : Addr} {od_is_number an_is_number : Option Addr} {sl_is_number : Array (Option Value)} {oc_is_number kV_is_number dc_is_number pm_is_number cd_is_number ct_is_number : Value}
    (a_is_number : PySem.W.nsIn K mainGlobals "is_number" = some (some (.ref f_is_number))) (l_is_number : K.lookup f_is_number = some ⟨oc_is_number, od_is_number, .func (PySem.W.fnOf "is_number" "is_number" (defArgs S_is_number) (defBody S_is_number) (defScope S_is_number) .none kV_is_number dc_is_number pm_is_number an_is_number cd_is_number ct_is_number), sl_is_number⟩) (c_is_number : PySem.W.codeIn K cd_is_number "is_number" = true) (k_is_number : PySem.W.keepIn K (.ref f_is_number) = true)
    {f_is_named_pair : Addr} {od_is_named_pair an_is_named_pair : Option Addr} {sl_is_named_pair : Array (Option Value)} {oc_is_named_pair kV_is_named_pair dc_is_named_pair pm_is_named_pair cd_is_named_pair ct_is_named_pair : Value}
    (a_is_named_pair : PySem.W.nsIn K mainGlobals "is_named_pair" = some (some (.ref f_is_named_pair))) (l_is_named_pair : K.lookup f_is_named_pair = some ⟨oc_is_named_pair, od_is_named_pair, .func (PySem.W.fnOf "is_named_pair" "is_named_pair" (defArgs S_is_named_pair) (defBody S_is_named_pair) (defScope S_is_named_pair) .none kV_is_named_pair dc_is_named_pair pm_is_named_pair an_is_named_pair cd_is_named_pair ct_is_named_pair), sl_is_named_pair⟩) (c_is_named_pair : PySem.W.codeIn K cd_is_named_pair "is_named_pair" = true) (k_is_named_pair : PySem.W.keepIn K (.ref f_is_named_pair) = true)
    {f_is_subject : Addr} {od_is_subject an_is_subject : Option Addr} {sl_is_subject : Array (Option Value)} {oc_is_subject kV_is_subject dc_is_subject pm_is_subject cd_is_subject ct_is_subject : Value}
    (a_is_subject : PySem.W.nsIn K mainGlobals "is_subject" = some (some (.ref f_is_subject))) (l_is_subject : K.lookup f_is_subject = some ⟨oc_is_subject, od_is_subject, .func (PySem.W.fnOf "is_subject" "is_subject" (defArgs S_is_subject) (defBody S_is_subject) (defScope S_is_subject) .none kV_is_subject dc_is_subject pm_is_subject an_is_subject cd_is_subject ct_is_subject), sl_is_subject⟩) (c_is_subject : PySem.W.codeIn K cd_is_subject "is_subject" = true) (k_is_subject : PySem.W.keepIn K (.ref f_is_subject) = true)
    {f_are_subjects : Addr} {od_are_subjects an_are_subjects : Option Addr} {sl_are_subjects : Array (Option Value)} {oc_are_subjects kV_are_subjects dc_are_subjects pm_are_subjects cd_are_subjects ct_are_subjects : Value}
    (a_are_subjects : PySem.W.nsIn K mainGlobals "are_subjects" = some (some (.ref f_are_subjects))) (l_are_subjects : K.lookup f_are_subjects = some ⟨oc_are_subjects, od_are_subjects, .func (PySem.W.fnOf "are_subjects" "are_subjects" (defArgs S_are_subjects) (defBody S_are_subjects) (defScope S_are_subjects) .none kV_are_subjects dc_are_subjects pm_are_subjects an_are_subjects cd_are_subjects ct_are_subjects), sl_are_subjects⟩) (c_are_subjects : PySem.W.codeIn K cd_are_subjects "are_subjects" = true) (k_are_subjects : PySem.W.keepIn K (.ref f_are_subjects) = true)
    {f_parts_in : Addr} {od_parts_in an_parts_in : Option Addr} {sl_parts_in : Array (Option Value)} {oc_parts_in kV_parts_in dc_parts_in pm_parts_in cd_parts_in ct_parts_in : Value}
    (a_parts_in : PySem.W.nsIn K mainGlobals "parts_in" = some (some (.ref f_parts_in))) (l_parts_in : K.lookup f_parts_in = some ⟨oc_parts_in, od_parts_in, .func (PySem.W.fnOf "parts_in" "parts_in" (defArgs S_parts_in) (defBody S_parts_in) (defScope S_parts_in) .none kV_parts_in dc_parts_in pm_parts_in an_parts_in cd_parts_in ct_parts_in), sl_parts_in⟩) (c_parts_in : PySem.W.codeIn K cd_parts_in "parts_in" = true) (k_parts_in : PySem.W.keepIn K (.ref f_parts_in) = true)
    {f_trees_in : Addr} {od_trees_in an_trees_in : Option Addr} {sl_trees_in : Array (Option Value)} {oc_trees_in kV_trees_in dc_trees_in pm_trees_in cd_trees_in ct_trees_in : Value}
    (a_trees_in : PySem.W.nsIn K mainGlobals "trees_in" = some (some (.ref f_trees_in))) (l_trees_in : K.lookup f_trees_in = some ⟨oc_trees_in, od_trees_in, .func (PySem.W.fnOf "trees_in" "trees_in" (defArgs S_trees_in) (defBody S_trees_in) (defScope S_trees_in) .none kV_trees_in dc_trees_in pm_trees_in an_trees_in cd_trees_in ct_trees_in), sl_trees_in⟩) (c_trees_in : PySem.W.codeIn K cd_trees_in "trees_in" = true) (k_trees_in : PySem.W.keepIn K (.ref f_trees_in) = true)
    {f_with_parts : Addr} {od_with_parts an_with_parts : Option Addr} {sl_with_parts : Array (Option Value)} {oc_with_parts kV_with_parts dc_with_parts pm_with_parts cd_with_parts ct_with_parts : Value}
    (a_with_parts : PySem.W.nsIn K mainGlobals "with_parts" = some (some (.ref f_with_parts))) (l_with_parts : K.lookup f_with_parts = some ⟨oc_with_parts, od_with_parts, .func (PySem.W.fnOf "with_parts" "with_parts" (defArgs S_with_parts) (defBody S_with_parts) (defScope S_with_parts) .none kV_with_parts dc_with_parts pm_with_parts an_with_parts cd_with_parts ct_with_parts), sl_with_parts⟩) (c_with_parts : PySem.W.codeIn K cd_with_parts "with_parts" = true) (k_with_parts : PySem.W.keepIn K (.ref f_with_parts) = true)
    {f_without_nobody : Addr} {od_without_nobody an_without_nobody : Option Addr} {sl_without_nobody : Array (Option Value)} {oc_without_nobody kV_without_nobody dc_without_nobody pm_without_nobody cd_without_nobody ct_without_nobody : Value}
    (a_without_nobody : PySem.W.nsIn K mainGlobals "without_nobody" = some (some (.ref f_without_nobody))) (l_without_nobody : K.lookup f_without_nobody = some ⟨oc_without_nobody, od_without_nobody, .func (PySem.W.fnOf "without_nobody" "without_nobody" (defArgs S_without_nobody) (defBody S_without_nobody) (defScope S_without_nobody) .none kV_without_nobody dc_without_nobody pm_without_nobody an_without_nobody cd_without_nobody ct_without_nobody), sl_without_nobody⟩) (c_without_nobody : PySem.W.codeIn K cd_without_nobody "without_nobody" = true) (k_without_nobody : PySem.W.keepIn K (.ref f_without_nobody) = true)
    {f_folded : Addr} {od_folded an_folded : Option Addr} {sl_folded : Array (Option Value)} {oc_folded kV_folded dc_folded pm_folded cd_folded ct_folded : Value}
    (a_folded : PySem.W.nsIn K mainGlobals "folded" = some (some (.ref f_folded))) (l_folded : K.lookup f_folded = some ⟨oc_folded, od_folded, .func (PySem.W.fnOf "folded" "folded" (defArgs S_folded) (defBody S_folded) (defScope S_folded) .none kV_folded dc_folded pm_folded an_folded cd_folded ct_folded), sl_folded⟩) (c_folded : PySem.W.codeIn K cd_folded "folded" = true) (k_folded : PySem.W.keepIn K (.ref f_folded) = true)
    {f_names_user : Addr} {od_names_user an_names_user : Option Addr} {sl_names_user : Array (Option Value)} {oc_names_user kV_names_user dc_names_user pm_names_user cd_names_user ct_names_user : Value}
    (a_names_user : PySem.W.nsIn K mainGlobals "names_user" = some (some (.ref f_names_user))) (l_names_user : K.lookup f_names_user = some ⟨oc_names_user, od_names_user, .func (PySem.W.fnOf "names_user" "names_user" (defArgs S_names_user) (defBody S_names_user) (defScope S_names_user) .none kV_names_user dc_names_user pm_names_user an_names_user cd_names_user ct_names_user), sl_names_user⟩) (c_names_user : PySem.W.codeIn K cd_names_user "names_user" = true) (k_names_user : PySem.W.keepIn K (.ref f_names_user) = true)
    {f_require_named_pair : Addr} {od_require_named_pair an_require_named_pair : Option Addr} {sl_require_named_pair : Array (Option Value)} {oc_require_named_pair kV_require_named_pair dc_require_named_pair pm_require_named_pair cd_require_named_pair ct_require_named_pair : Value}
    (a_require_named_pair : PySem.W.nsIn K mainGlobals "require_named_pair" = some (some (.ref f_require_named_pair))) (l_require_named_pair : K.lookup f_require_named_pair = some ⟨oc_require_named_pair, od_require_named_pair, .func (PySem.W.fnOf "require_named_pair" "require_named_pair" (defArgs S_require_named_pair) (defBody S_require_named_pair) (defScope S_require_named_pair) .none kV_require_named_pair dc_require_named_pair pm_require_named_pair an_require_named_pair cd_require_named_pair ct_require_named_pair), sl_require_named_pair⟩) (c_require_named_pair : PySem.W.codeIn K cd_require_named_pair "require_named_pair" = true) (k_require_named_pair : PySem.W.keepIn K (.ref f_require_named_pair) = true)
    {f_pruned : Addr} {od_pruned an_pruned : Option Addr} {sl_pruned : Array (Option Value)} {oc_pruned kV_pruned dc_pruned pm_pruned cd_pruned ct_pruned : Value}
    (a_pruned : PySem.W.nsIn K mainGlobals "pruned" = some (some (.ref f_pruned))) (l_pruned : K.lookup f_pruned = some ⟨oc_pruned, od_pruned, .func (PySem.W.fnOf "pruned" "pruned" (defArgs S_pruned) (defBody S_pruned) (defScope S_pruned) .none kV_pruned dc_pruned pm_pruned an_pruned cd_pruned ct_pruned), sl_pruned⟩) (c_pruned : PySem.W.codeIn K cd_pruned "pruned" = true) (k_pruned : PySem.W.keepIn K (.ref f_pruned) = true)
    {f_places : Addr} {od_places an_places : Option Addr} {sl_places : Array (Option Value)} {oc_places kV_places dc_places pm_places cd_places ct_places : Value}
    (a_places : PySem.W.nsIn K mainGlobals "places" = some (some (.ref f_places))) (l_places : K.lookup f_places = some ⟨oc_places, od_places, .func (PySem.W.fnOf "places" "places" (defArgs S_places) (defBody S_places) (defScope S_places) .none kV_places dc_places pm_places an_places cd_places ct_places), sl_places⟩) (c_places : PySem.W.codeIn K cd_places "places" = true) (k_places : PySem.W.keepIn K (.ref f_places) = true)
    {f_is_in : Addr} {od_is_in an_is_in : Option Addr} {sl_is_in : Array (Option Value)} {oc_is_in kV_is_in dc_is_in pm_is_in  ct_is_in : Value}
    (a_is_in : PySem.W.nsIn K mainGlobals "is_in" = some (some (.ref f_is_in))) (l_is_in : K.lookup f_is_in = some ⟨oc_is_in, od_is_in, .func (PySem.W.fnOf "is_in" "is_in" (defArgs S_is_in) (defBody S_is_in) (defScope S_is_in) .none kV_is_in dc_is_in pm_is_in an_is_in (.ref cI) ct_is_in), sl_is_in⟩) (c_is_in : PySem.W.codeIn K (.ref cI) "is_in" = true) (k_is_in : PySem.W.keepIn K (.ref f_is_in) = true)
    {f__law_well : Addr} {od__law_well an__law_well : Option Addr} {sl__law_well : Array (Option Value)} {oc__law_well kV__law_well dc__law_well pm__law_well cd__law_well ct__law_well : Value}
    (a__law_well : PySem.W.nsIn K mainGlobals "_law_well" = some (some (.ref f__law_well))) (l__law_well : K.lookup f__law_well = some ⟨oc__law_well, od__law_well, .func (PySem.W.fnOf "_law_well" "_law_well" (defArgs S__law_well) (defBody S__law_well) (defScope S__law_well) .none kV__law_well dc__law_well pm__law_well an__law_well cd__law_well ct__law_well), sl__law_well⟩) (c__law_well : PySem.W.codeIn K cd__law_well "_law_well" = true) (k__law_well : PySem.W.keepIn K (.ref f__law_well) = true)
    {f__law_draw : Addr} {od__law_draw an__law_draw : Option Addr} {sl__law_draw : Array (Option Value)} {oc__law_draw kV__law_draw dc__law_draw pm__law_draw cd__law_draw ct__law_draw : Value}
    (a__law_draw : PySem.W.nsIn K mainGlobals "_law_draw" = some (some (.ref f__law_draw))) (l__law_draw : K.lookup f__law_draw = some ⟨oc__law_draw, od__law_draw, .func (PySem.W.fnOf "_law_draw" "_law_draw" (defArgs S__law_draw) (defBody S__law_draw) (defScope S__law_draw) .none kV__law_draw dc__law_draw pm__law_draw an__law_draw cd__law_draw ct__law_draw), sl__law_draw⟩) (c__law_draw : PySem.W.codeIn K cd__law_draw "_law_draw" = true) (k__law_draw : PySem.W.keepIn K (.ref f__law_draw) = true)
    {f__law_pick : Addr} {od__law_pick an__law_pick : Option Addr} {sl__law_pick : Array (Option Value)} {oc__law_pick kV__law_pick dc__law_pick pm__law_pick cd__law_pick ct__law_pick : Value}
    (a__law_pick : PySem.W.nsIn K mainGlobals "_law_pick" = some (some (.ref f__law_pick))) (l__law_pick : K.lookup f__law_pick = some ⟨oc__law_pick, od__law_pick, .func (PySem.W.fnOf "_law_pick" "_law_pick" (defArgs S__law_pick) (defBody S__law_pick) (defScope S__law_pick) .none kV__law_pick dc__law_pick pm__law_pick an__law_pick cd__law_pick ct__law_pick), sl__law_pick⟩) (c__law_pick : PySem.W.codeIn K cd__law_pick "_law_pick" = true) (k__law_pick : PySem.W.keepIn K (.ref f__law_pick) = true)
    {f__law_object : Addr} {od__law_object an__law_object : Option Addr} {sl__law_object : Array (Option Value)} {oc__law_object kV__law_object dc__law_object pm__law_object cd__law_object ct__law_object : Value}
    (a__law_object : PySem.W.nsIn K mainGlobals "_law_object" = some (some (.ref f__law_object))) (l__law_object : K.lookup f__law_object = some ⟨oc__law_object, od__law_object, .func (PySem.W.fnOf "_law_object" "_law_object" (defArgs S__law_object) (defBody S__law_object) (defScope S__law_object) .none kV__law_object dc__law_object pm__law_object an__law_object cd__law_object ct__law_object), sl__law_object⟩) (c__law_object : PySem.W.codeIn K cd__law_object "_law_object" = true) (k__law_object : PySem.W.keepIn K (.ref f__law_object) = true)
    {f__law_set : Addr} {od__law_set an__law_set : Option Addr} {sl__law_set : Array (Option Value)} {oc__law_set kV__law_set dc__law_set pm__law_set cd__law_set ct__law_set : Value}
    (a__law_set : PySem.W.nsIn K mainGlobals "_law_set" = some (some (.ref f__law_set))) (l__law_set : K.lookup f__law_set = some ⟨oc__law_set, od__law_set, .func (PySem.W.fnOf "_law_set" "_law_set" (defArgs S__law_set) (defBody S__law_set) (defScope S__law_set) .none kV__law_set dc__law_set pm__law_set an__law_set cd__law_set ct__law_set), sl__law_set⟩) (c__law_set : PySem.W.codeIn K cd__law_set "_law_set" = true) (k__law_set : PySem.W.keepIn K (.ref f__law_set) = true)
    {f__law_wood : Addr} {od__law_wood an__law_wood : Option Addr} {sl__law_wood : Array (Option Value)} {oc__law_wood kV__law_wood dc__law_wood pm__law_wood cd__law_wood ct__law_wood : Value}
    (a__law_wood : PySem.W.nsIn K mainGlobals "_law_wood" = some (some (.ref f__law_wood))) (l__law_wood : K.lookup f__law_wood = some ⟨oc__law_wood, od__law_wood, .func (PySem.W.fnOf "_law_wood" "_law_wood" (defArgs S__law_wood) (defBody S__law_wood) (defScope S__law_wood) .none kV__law_wood dc__law_wood pm__law_wood an__law_wood cd__law_wood ct__law_wood), sl__law_wood⟩) (c__law_wood : PySem.W.codeIn K cd__law_wood "_law_wood" = true) (k__law_wood : PySem.W.keepIn K (.ref f__law_wood) = true)
    {f__law_inner : Addr} {od__law_inner an__law_inner : Option Addr} {sl__law_inner : Array (Option Value)} {oc__law_inner kV__law_inner dc__law_inner pm__law_inner cd__law_inner ct__law_inner : Value}
    (a__law_inner : PySem.W.nsIn K mainGlobals "_law_inner" = some (some (.ref f__law_inner))) (l__law_inner : K.lookup f__law_inner = some ⟨oc__law_inner, od__law_inner, .func (PySem.W.fnOf "_law_inner" "_law_inner" (defArgs S__law_inner) (defBody S__law_inner) (defScope S__law_inner) .none kV__law_inner dc__law_inner pm__law_inner an__law_inner cd__law_inner ct__law_inner), sl__law_inner⟩) (c__law_inner : PySem.W.codeIn K cd__law_inner "_law_inner" = true) (k__law_inner : PySem.W.keepIn K (.ref f__law_inner) = true)
    {f__law_paths : Addr} {od__law_paths an__law_paths : Option Addr} {sl__law_paths : Array (Option Value)} {oc__law_paths kV__law_paths dc__law_paths pm__law_paths cd__law_paths ct__law_paths : Value}
    (a__law_paths : PySem.W.nsIn K mainGlobals "_law_paths" = some (some (.ref f__law_paths))) (l__law_paths : K.lookup f__law_paths = some ⟨oc__law_paths, od__law_paths, .func (PySem.W.fnOf "_law_paths" "_law_paths" (defArgs S__law_paths) (defBody S__law_paths) (defScope S__law_paths) .none kV__law_paths dc__law_paths pm__law_paths an__law_paths cd__law_paths ct__law_paths), sl__law_paths⟩) (c__law_paths : PySem.W.codeIn K cd__law_paths "_law_paths" = true) (k__law_paths : PySem.W.keepIn K (.ref f__law_paths) = true)
    {f__law_in : Addr} {od__law_in an__law_in : Option Addr} {sl__law_in : Array (Option Value)} {oc__law_in kV__law_in dc__law_in pm__law_in cd__law_in ct__law_in : Value}
    (a__law_in : PySem.W.nsIn K mainGlobals "_law_in" = some (some (.ref f__law_in))) (l__law_in : K.lookup f__law_in = some ⟨oc__law_in, od__law_in, .func (PySem.W.fnOf "_law_in" "_law_in" (defArgs S__law_in) (defBody S__law_in) (defScope S__law_in) .none kV__law_in dc__law_in pm__law_in an__law_in cd__law_in ct__law_in), sl__law_in⟩) (c__law_in : PySem.W.codeIn K cd__law_in "_law_in" = true) (k__law_in : PySem.W.keepIn K (.ref f__law_in) = true)
    {f__law_less : Addr} {od__law_less an__law_less : Option Addr} {sl__law_less : Array (Option Value)} {oc__law_less kV__law_less dc__law_less pm__law_less cd__law_less ct__law_less : Value}
    (a__law_less : PySem.W.nsIn K mainGlobals "_law_less" = some (some (.ref f__law_less))) (l__law_less : K.lookup f__law_less = some ⟨oc__law_less, od__law_less, .func (PySem.W.fnOf "_law_less" "_law_less" (defArgs S__law_less) (defBody S__law_less) (defScope S__law_less) .none kV__law_less dc__law_less pm__law_less an__law_less cd__law_less ct__law_less), sl__law_less⟩) (c__law_less : PySem.W.codeIn K cd__law_less "_law_less" = true) (k__law_less : PySem.W.keepIn K (.ref f__law_less) = true)
    {f__law_right : Addr} {od__law_right an__law_right : Option Addr} {sl__law_right : Array (Option Value)} {oc__law_right kV__law_right dc__law_right pm__law_right cd__law_right ct__law_right : Value}
    (a__law_right : PySem.W.nsIn K mainGlobals "_law_right" = some (some (.ref f__law_right))) (l__law_right : K.lookup f__law_right = some ⟨oc__law_right, od__law_right, .func (PySem.W.fnOf "_law_right" "_law_right" (defArgs S__law_right) (defBody S__law_right) (defScope S__law_right) .none kV__law_right dc__law_right pm__law_right an__law_right cd__law_right ct__law_right), sl__law_right⟩) (c__law_right : PySem.W.codeIn K cd__law_right "_law_right" = true) (k__law_right : PySem.W.keepIn K (.ref f__law_right) = true)
    {f_law : Addr} {od_law an_law : Option Addr} {sl_law : Array (Option Value)} {oc_law kV_law dc_law pm_law cd_law ct_law : Value}
    (a_law : PySem.W.nsIn K mainGlobals "law" = some (some (.ref f_law))) (l_law : K.lookup f_law = some ⟨oc_law, od_law, .func (PySem.W.fnOf "law" "law" (defArgs S_law) (defBody S_law) (defScope S_law) .none kV_law dc_law pm_law an_law cd_law ct_law), sl_law⟩) (c_law : PySem.W.codeIn K cd_law "law" = true) (k_law : PySem.W.keepIn K (.ref f_law) = true)
    {t_LONGEST_NAME : Tok} (z_LONGEST_NAME : PySem.W.nsIn K mainGlobals "LONGEST_NAME" = some (some (.int (8) t_LONGEST_NAME)))
    {t_MOST_PLACES : Tok} (z_MOST_PLACES : PySem.W.nsIn K mainGlobals "MOST_PLACES" = some (some (.int (200) t_MOST_PLACES)))
    {t_MOST_TREES : Tok} (z_MOST_TREES : PySem.W.nsIn K mainGlobals "MOST_TREES" = some (some (.int (3000) t_MOST_TREES)))
    (z_all : PySem.W.nsIn K mainGlobals "all" = some none)
    (z_any : PySem.W.nsIn K mainGlobals "any" = some none)
    (z_enumerate : PySem.W.nsIn K mainGlobals "enumerate" = some none)
    (z_int : PySem.W.nsIn K mainGlobals "int" = some none)
    (z_isinstance : PySem.W.nsIn K mainGlobals "isinstance" = some none)
    (z_len : PySem.W.nsIn K mainGlobals "len" = some none)
    (z_max : PySem.W.nsIn K mainGlobals "max" = some none)
    (z_range : PySem.W.nsIn K mainGlobals "range" = some none)
    (z_reversed : PySem.W.nsIn K mainGlobals "reversed" = some none)
    (z_set : PySem.W.nsIn K mainGlobals "set" = some none)
    (z_sorted : PySem.W.nsIn K mainGlobals "sorted" = some none)
    (z_str : PySem.W.nsIn K mainGlobals "str" = some none)
    (z_tuple : PySem.W.nsIn K mainGlobals "tuple" = some none)
    (z_type : PySem.W.nsIn K mainGlobals "type" = some none) : LamX.LawAtS l w K CX0 13 63 "script" mg fa h := by
  have m_LONGEST_NAME := PySem.W.mg_of X G z_LONGEST_NAME
  have m_MOST_PLACES := PySem.W.mg_of X G z_MOST_PLACES
  have m_MOST_TREES := PySem.W.mg_of X G z_MOST_TREES
  have m_all := PySem.W.mg_none_of X G z_all
  have m_any := PySem.W.mg_none_of X G z_any
  have m_enumerate := PySem.W.mg_none_of X G z_enumerate
  have m_int := PySem.W.mg_none_of X G z_int
  have m_isinstance := PySem.W.mg_none_of X G z_isinstance
  have m_len := PySem.W.mg_none_of X G z_len
  have m_max := PySem.W.mg_none_of X G z_max
  have m_range := PySem.W.mg_none_of X G z_range
  have m_reversed := PySem.W.mg_none_of X G z_reversed
  have m_set := PySem.W.mg_none_of X G z_set
  have m_sorted := PySem.W.mg_none_of X G z_sorted
  have m_str := PySem.W.mg_none_of X G z_str
  have m_tuple := PySem.W.mg_none_of X G z_tuple
  have m_type := PySem.W.mg_none_of X G z_type
  have g_is_name := PySem.W.mg_of X G a_is_name
  have F_is_name : Fun K "is_name" "is_name" S_is_name f_is_name _ := ⟨⟨_, _, _, _, _, _, _, _, _, rfl, l_is_name, c_is_name⟩, k_is_name⟩
  have b_is_name := F_is_name.binds (ps := ["value"]) (fun _ _ _ _ _ _ us hl => match us, hl with | [_], _ => rfl)
  have g_is_number := PySem.W.mg_of X G a_is_number
  have F_is_number : Fun K "is_number" "is_number" S_is_number f_is_number _ := ⟨⟨_, _, _, _, _, _, _, _, _, rfl, l_is_number, c_is_number⟩, k_is_number⟩
  have b_is_number := F_is_number.binds (ps := ["value"]) (fun _ _ _ _ _ _ us hl => match us, hl with | [_], _ => rfl)
  have g_is_named_pair := PySem.W.mg_of X G a_is_named_pair
  have F_is_named_pair : Fun K "is_named_pair" "is_named_pair" S_is_named_pair f_is_named_pair _ := ⟨⟨_, _, _, _, _, _, _, _, _, rfl, l_is_named_pair, c_is_named_pair⟩, k_is_named_pair⟩
  have b_is_named_pair := F_is_named_pair.binds (ps := ["value"]) (fun _ _ _ _ _ _ us hl => match us, hl with | [_], _ => rfl)
  have g_is_subject := PySem.W.mg_of X G a_is_subject
  have F_is_subject : Fun K "is_subject" "is_subject" S_is_subject f_is_subject _ := ⟨⟨_, _, _, _, _, _, _, _, _, rfl, l_is_subject, c_is_subject⟩, k_is_subject⟩
  have b_is_subject := F_is_subject.binds (ps := ["value"]) (fun _ _ _ _ _ _ us hl => match us, hl with | [_], _ => rfl)
  have g_are_subjects := PySem.W.mg_of X G a_are_subjects
  have F_are_subjects : Fun K "are_subjects" "are_subjects" S_are_subjects f_are_subjects _ := ⟨⟨_, _, _, _, _, _, _, _, _, rfl, l_are_subjects, c_are_subjects⟩, k_are_subjects⟩
  have b_are_subjects := F_are_subjects.binds (ps := ["value"]) (fun _ _ _ _ _ _ us hl => match us, hl with | [_], _ => rfl)
  have g_parts_in := PySem.W.mg_of X G a_parts_in
  have F_parts_in : Fun K "parts_in" "parts_in" S_parts_in f_parts_in _ := ⟨⟨_, _, _, _, _, _, _, _, _, rfl, l_parts_in, c_parts_in⟩, k_parts_in⟩
  have b_parts_in := F_parts_in.binds (ps := ["tree"]) (fun _ _ _ _ _ _ us hl => match us, hl with | [_], _ => rfl)
  have g_trees_in := PySem.W.mg_of X G a_trees_in
  have F_trees_in : Fun K "trees_in" "trees_in" S_trees_in f_trees_in _ := ⟨⟨_, _, _, _, _, _, _, _, _, rfl, l_trees_in, c_trees_in⟩, k_trees_in⟩
  have b_trees_in := F_trees_in.binds (ps := ["tree"]) (fun _ _ _ _ _ _ us hl => match us, hl with | [_], _ => rfl)
  have g_with_parts := PySem.W.mg_of X G a_with_parts
  have F_with_parts : Fun K "with_parts" "with_parts" S_with_parts f_with_parts _ := ⟨⟨_, _, _, _, _, _, _, _, _, rfl, l_with_parts, c_with_parts⟩, k_with_parts⟩
  have b_with_parts := F_with_parts.binds (ps := ["tree", "parts"]) (fun _ _ _ _ _ _ us hl => match us, hl with | [_, _], _ => rfl)
  have g_without_nobody := PySem.W.mg_of X G a_without_nobody
  have F_without_nobody : Fun K "without_nobody" "without_nobody" S_without_nobody f_without_nobody _ := ⟨⟨_, _, _, _, _, _, _, _, _, rfl, l_without_nobody, c_without_nobody⟩, k_without_nobody⟩
  have b_without_nobody := F_without_nobody.binds (ps := ["tree", "parts"]) (fun _ _ _ _ _ _ us hl => match us, hl with | [_, _], _ => rfl)
  have g_folded := PySem.W.mg_of X G a_folded
  have F_folded : Fun K "folded" "folded" S_folded f_folded _ := ⟨⟨_, _, _, _, _, _, _, _, _, rfl, l_folded, c_folded⟩, k_folded⟩
  have b_folded := F_folded.binds (ps := ["rows", "join"]) (fun _ _ _ _ _ _ us hl => match us, hl with | [_, _], _ => rfl)
  have g_names_user := PySem.W.mg_of X G a_names_user
  have F_names_user : Fun K "names_user" "names_user" S_names_user f_names_user _ := ⟨⟨_, _, _, _, _, _, _, _, _, rfl, l_names_user, c_names_user⟩, k_names_user⟩
  have b_names_user := F_names_user.binds (ps := ["subjects", "user"]) (fun _ _ _ _ _ _ us hl => match us, hl with | [_, _], _ => rfl)
  have g_require_named_pair := PySem.W.mg_of X G a_require_named_pair
  have F_require_named_pair : Fun K "require_named_pair" "require_named_pair" S_require_named_pair f_require_named_pair _ := ⟨⟨_, _, _, _, _, _, _, _, _, rfl, l_require_named_pair, c_require_named_pair⟩, k_require_named_pair⟩
  have b_require_named_pair := F_require_named_pair.binds (ps := ["user"]) (fun _ _ _ _ _ _ us hl => match us, hl with | [_], _ => rfl)
  have g_pruned := PySem.W.mg_of X G a_pruned
  have F_pruned : Fun K "pruned" "pruned" S_pruned f_pruned _ := ⟨⟨_, _, _, _, _, _, _, _, _, rfl, l_pruned, c_pruned⟩, k_pruned⟩
  have b_pruned := F_pruned.binds (ps := ["tree"]) (fun _ _ _ _ _ _ us hl => match us, hl with | [_], _ => rfl)
  have g_places := PySem.W.mg_of X G a_places
  have F_places : Fun K "places" "places" S_places f_places _ := ⟨⟨_, _, _, _, _, _, _, _, _, rfl, l_places, c_places⟩, k_places⟩
  have b_places := F_places.binds (ps := ["tree", "user"]) (fun _ _ _ _ _ _ us hl => match us, hl with | [_, _], _ => rfl)
  have g_is_in := PySem.W.mg_of X G a_is_in
  have F_is_in : Fun K "is_in" "is_in" S_is_in f_is_in _ := ⟨⟨_, _, _, _, _, _, _, _, _, rfl, l_is_in, c_is_in⟩, k_is_in⟩
  have b_is_in := F_is_in.binds (ps := ["tree", "user"]) (fun _ _ _ _ _ _ us hl => match us, hl with | [_, _], _ => rfl)
  have g__law_well := PySem.W.mg_of X G a__law_well
  have F__law_well : Fun K "_law_well" "_law_well" S__law_well f__law_well _ := ⟨⟨_, _, _, _, _, _, _, _, _, rfl, l__law_well, c__law_well⟩, k__law_well⟩
  have b__law_well := F__law_well.binds (ps := ["cell"]) (fun _ _ _ _ _ _ us hl => match us, hl with | [_], _ => rfl)
  have g__law_draw := PySem.W.mg_of X G a__law_draw
  have F__law_draw : Fun K "_law_draw" "_law_draw" S__law_draw f__law_draw _ := ⟨⟨_, _, _, _, _, _, _, _, _, rfl, l__law_draw, c__law_draw⟩, k__law_draw⟩
  have b__law_draw := F__law_draw.binds (ps := ["well", "many"]) (fun _ _ _ _ _ _ us hl => match us, hl with | [_, _], _ => rfl)
  have g__law_pick := PySem.W.mg_of X G a__law_pick
  have F__law_pick : Fun K "_law_pick" "_law_pick" S__law_pick f__law_pick _ := ⟨⟨_, _, _, _, _, _, _, _, _, rfl, l__law_pick, c__law_pick⟩, k__law_pick⟩
  have b__law_pick := F__law_pick.binds (ps := ["well", "some"]) (fun _ _ _ _ _ _ us hl => match us, hl with | [_, _], _ => rfl)
  have g__law_object := PySem.W.mg_of X G a__law_object
  have F__law_object : Fun K "_law_object" "_law_object" S__law_object f__law_object _ := ⟨⟨_, _, _, _, _, _, _, _, _, rfl, l__law_object, c__law_object⟩, k__law_object⟩
  have b__law_object := F__law_object.binds (ps := ["well"]) (fun _ _ _ _ _ _ us hl => match us, hl with | [_], _ => rfl)
  have g__law_set := PySem.W.mg_of X G a__law_set
  have F__law_set : Fun K "_law_set" "_law_set" S__law_set f__law_set _ := ⟨⟨_, _, _, _, _, _, _, _, _, rfl, l__law_set, c__law_set⟩, k__law_set⟩
  have b__law_set := F__law_set.binds (ps := ["well"]) (fun _ _ _ _ _ _ us hl => match us, hl with | [_], _ => rfl)
  have g__law_wood := PySem.W.mg_of X G a__law_wood
  have F__law_wood : Fun K "_law_wood" "_law_wood" S__law_wood f__law_wood _ := ⟨⟨_, _, _, _, _, _, _, _, _, rfl, l__law_wood, c__law_wood⟩, k__law_wood⟩
  have b__law_wood := F__law_wood.binds (ps := ["well", "deep"]) (fun _ _ _ _ _ _ us hl => match us, hl with | [_, _], _ => rfl)
  have g__law_inner := PySem.W.mg_of X G a__law_inner
  have F__law_inner : Fun K "_law_inner" "_law_inner" S__law_inner f__law_inner _ := ⟨⟨_, _, _, _, _, _, _, _, _, rfl, l__law_inner, c__law_inner⟩, k__law_inner⟩
  have b__law_inner := F__law_inner.binds (ps := ["bough"]) (fun _ _ _ _ _ _ us hl => match us, hl with | [_], _ => rfl)
  have g__law_paths := PySem.W.mg_of X G a__law_paths
  have F__law_paths : Fun K "_law_paths" "_law_paths" S__law_paths f__law_paths _ := ⟨⟨_, _, _, _, _, _, _, _, _, rfl, l__law_paths, c__law_paths⟩, k__law_paths⟩
  have b__law_paths := F__law_paths.binds (ps := ["bough"]) (fun _ _ _ _ _ _ us hl => match us, hl with | [_], _ => rfl)
  have g__law_in := PySem.W.mg_of X G a__law_in
  have F__law_in : Fun K "_law_in" "_law_in" S__law_in f__law_in _ := ⟨⟨_, _, _, _, _, _, _, _, _, rfl, l__law_in, c__law_in⟩, k__law_in⟩
  have b__law_in := F__law_in.binds (ps := ["bough", "whom"]) (fun _ _ _ _ _ _ us hl => match us, hl with | [_, _], _ => rfl)
  have g__law_less := PySem.W.mg_of X G a__law_less
  have F__law_less : Fun K "_law_less" "_law_less" S__law_less f__law_less _ := ⟨⟨_, _, _, _, _, _, _, _, _, rfl, l__law_less, c__law_less⟩, k__law_less⟩
  have b__law_less := F__law_less.binds (ps := ["bough"]) (fun _ _ _ _ _ _ us hl => match us, hl with | [_], _ => rfl)
  have g__law_right := PySem.W.mg_of X G a__law_right
  have F__law_right : Fun K "_law_right" "_law_right" S__law_right f__law_right _ := ⟨⟨_, _, _, _, _, _, _, _, _, rfl, l__law_right, c__law_right⟩, k__law_right⟩
  have b__law_right := F__law_right.binds (ps := ["well"]) (fun _ _ _ _ _ _ us hl => match us, hl with | [_], _ => rfl)
  have g_law := PySem.W.mg_of X G a_law
  have F_law : Fun K "law" "law" S_law f_law _ := ⟨⟨_, _, _, _, _, _, _, _, _, rfl, l_law, c_law⟩, k_law⟩
  have kb_pruned : L2.KBinds K (PySem.W.fnOf "pruned" "pruned" (defArgs S_pruned) (defBody S_pruned) (defScope S_pruned) .none kV_pruned dc_pruned pm_pruned an_pruned cd_pruned ct_pruned) ["tree"] ["tree"] (fun a b => a ++ b) (fun a b => a ++ b) := kb1 (fun s u => .of_eq rfl) (fun s u => .of_eq rfl)
  have kb_is_in : L2.KBinds K (PySem.W.fnOf "is_in" "is_in" (defArgs S_is_in) (defBody S_is_in) (defScope S_is_in) .none kV_is_in dc_is_in pm_is_in an_is_in (.ref cI) ct_is_in) ["tree", "user"] ["user", "tree"] (fun a b => a ++ b.reverse) (fun a b => a ++ b.reverse) := kb2 (fun s u v => .of_eq rfl) (fun s u v => .of_eq rfl) (fun s u v => .of_eq rfl)
  have kb_places : L2.KBinds K (PySem.W.fnOf "places" "places" (defArgs S_places) (defBody S_places) (defScope S_places) .none kV_places dc_places pm_places an_places cd_places ct_places) ["tree", "user"] ["user", "tree"] (fun a b => a ++ b.reverse) (fun a b => a ++ b.reverse) := kb2 (fun s u v => .of_eq rfl) (fun s u v => .of_eq rfl) (fun s u v => .of_eq rfl)
  have e := hfa.symm.trans g_law
  cases e
  refine ⟨PySem.W.fnOf "law" "law" (defArgs S_law) (defBody S_law) (defScope S_law) .none kV_law dc_law pm_law an_law cd_law ct_law, [(cI, pI)], spLaw [(pI, nmI)] K, fun p hp => ?_, fun p hp => ?_, fun p hp => ?_, fun s v => .of_eq rfl, fun H a ns hl _ hT hS => ?_, fun base _ _ TBs => ?_⟩
  · rw [List.mem_singleton.mp hp]; exact tp
  · rw [List.mem_singleton.mp hp]; exact nP
  · rw [List.mem_singleton.mp hp]; exact tc
  · refine ⟨a, ns, rfl, hS, hl, fun q hq => ?_, fun _ => rfl⟩
    rw [List.mem_singleton.mp hq]
    exact TabN.nil (hT (cI, pI) (List.mem_singleton.mpr rfl))
  ·
    have G_is_name := ok_is_name (P := l.prog) (w := w) (mg := mg) (base := base) F_is_name m_isinstance m_str m_len m_LONGEST_NAME
    have G_is_number := ok_is_number (P := l.prog) (w := w) (mg := mg) (base := base) F_is_number m_type m_int
    have G_is_named_pair := ok_is_named_pair (P := l.prog) (w := w) (mg := mg) (base := base) F_is_named_pair m_isinstance m_tuple m_len G_is_name g_is_name k_is_name b_is_name G_is_number g_is_number k_is_number b_is_number
    have G_is_subject := ok_is_subject (P := l.prog) (w := w) (mg := mg) (base := base) F_is_subject m_isinstance m_tuple m_len m_str G_is_name g_is_name k_is_name b_is_name G_is_named_pair g_is_named_pair k_is_named_pair b_is_named_pair
    have G_are_subjects := ok_are_subjects (P := l.prog) (w := w) (mg := mg) (base := base) F_are_subjects m_isinstance m_tuple m_enumerate G_is_subject g_is_subject k_is_subject b_is_subject
    have G_parts_in := ok_parts_in (P := l.prog) (w := w) (mg := mg) (base := base) F_parts_in m_isinstance m_tuple m_len m_str G_is_named_pair g_is_named_pair k_is_named_pair b_is_named_pair G_is_name g_is_name k_is_name b_is_name G_are_subjects g_are_subjects k_are_subjects b_are_subjects
    have G_trees_in := ok_trees_in (P := l.prog) (w := w) (mg := mg) (base := base) F_trees_in m_len G_parts_in g_parts_in k_parts_in b_parts_in m_MOST_PLACES m_MOST_TREES m_tuple
    have G_with_parts := ok_with_parts (P := l.prog) (w := w) (mg := mg) (base := base) F_with_parts m_tuple
    have G_without_nobody := ok_without_nobody (P := l.prog) (w := w) (mg := mg) (base := base) F_without_nobody G_with_parts g_with_parts k_with_parts b_with_parts m_len
    have G_folded := ok_foldedW (P := l.prog) (w := w) (mg := mg) (base := base) F_folded m_reversed m_range G_without_nobody k_without_nobody b_without_nobody
    have G_names_user := ok_names_user (P := l.prog) (w := w) (mg := mg) (base := base) F_names_user
    have G_require_named_pair := ok_require_named_pair (P := l.prog) (w := w) (mg := mg) (base := base) F_require_named_pair G_is_named_pair g_is_named_pair k_is_named_pair b_is_named_pair
    have G_pruned := ok_pruned (P := l.prog) (w := w) (mg := mg) (base := base) F_pruned G_folded g_folded k_folded b_folded G_trees_in g_trees_in k_trees_in b_trees_in g_without_nobody
    have G_places := ok_places (P := l.prog) (w := w) (mg := mg) (base := base) F_places G_trees_in g_trees_in k_trees_in b_trees_in G_require_named_pair g_require_named_pair k_require_named_pair b_require_named_pair G_names_user g_names_user k_names_user b_names_user
    have G_is_in := ok_is_in (P := l.prog) (w := w) (mg := mg) (base := base) (T := [(pI, nmI)]) l_is_in c_is_in (TBs _ (List.mem_singleton.mpr rfl)) (List.mem_singleton.mpr rfl) (fun p hp _ => by rw [List.mem_singleton.mp hp]) F_folded g_folded k_folded b_folded m_reversed m_range G_trees_in g_trees_in k_trees_in b_trees_in G_require_named_pair g_require_named_pair k_require_named_pair b_require_named_pair m_reversed m_range G_names_user g_names_user k_names_user b_names_user m_all m_any
    have G__law_well := ok__law_well (P := l.prog) (w := w) (mg := mg) (base := base) F__law_well m_int
    have G__law_draw := ok__law_draw (P := l.prog) (w := w) (mg := mg) (base := base) F__law_draw m_int
    have G__law_pick := ok__law_pick (P := l.prog) (w := w) (mg := mg) (base := base) F__law_pick G__law_draw g__law_draw k__law_draw b__law_draw m_len
    have G__law_object := ok__law_object (P := l.prog) (w := w) (mg := mg) (base := base) F__law_object G__law_pick g__law_pick k__law_pick b__law_pick
    have G__law_set := ok__law_set (P := l.prog) (w := w) (mg := mg) (base := base) F__law_set m_range G__law_draw g__law_draw k__law_draw b__law_draw G__law_pick g__law_pick k__law_pick b__law_pick G__law_object g__law_object k__law_object b__law_object m_tuple m_sorted m_set
    have G__law_wood := ok_wood (P := l.prog) (w := w) (mg := mg) (base := base) F__law_wood G__law_draw g__law_draw k__law_draw b__law_draw G__law_set g__law_set k__law_set b__law_set G__law_object g__law_object k__law_object b__law_object G__law_pick g__law_pick k__law_pick b__law_pick m_tuple m_range m_max m_int g__law_wood k__law_wood b__law_wood 5 (by decide)
    have G__law_inner := ok__law_inner (P := l.prog) (w := w) (mg := mg) (base := base) F__law_inner
    have G__law_paths := ok_paths (P := l.prog) (w := w) (mg := mg) (base := base) F__law_paths m_enumerate G__law_inner g__law_inner k__law_inner b__law_inner g__law_paths k__law_paths b__law_paths 6
    have G__law_in := ok_lin (P := l.prog) (w := w) (mg := mg) (base := base) F__law_in G__law_inner g__law_inner k__law_inner b__law_inner g__law_in k__law_in b__law_in 6
    have G__law_less := ok_less (P := l.prog) (w := w) (mg := mg) (base := base) F__law_less m_int G__law_inner g__law_inner k__law_inner b__law_inner m_len m_tuple g__law_less k__law_less b__law_less 6
    have G__law_right := ok_right (P := l.prog) (w := w) (mg := mg) (base := base) (T := [(pI, nmI)]) F__law_right G__law_wood g__law_wood k__law_wood b__law_wood G__law_paths g__law_paths k__law_paths b__law_paths G__law_less g__law_less k__law_less b__law_less m_len G_pruned g_pruned k_pruned b_pruned G_is_in g_is_in k_is_in b_is_in G__law_in g__law_in k__law_in b__law_in G_places g_places k_places b_places kb_pruned kb_is_in kb_places
    exact ok_law (P := l.prog) (w := w) (mg := mg) (base := base) (T := [(pI, nmI)]) F_law G__law_well g__law_well k__law_well b__law_well m_range G__law_right g__law_right k__law_right b__law_right

end Wood

open PySem PySem.W PyProof.Rows
set_option maxRecDepth 100000 in
set_option maxHeartbeats 0 in
theorem PySem.Challenge.cw_relatedrights_k36_whole_trees_asked_holds : PySem.Challenge.rw_relatedrights_k36_whole_trees_asked.Holds := by
  w_on; o_law; k_head; (case hw => w_witness2)
  k_fill
  refine LamX.walk_ofTs (l := PySem.Challenge.rw_relatedrights_k36_whole_trees_asked) (n := 63) (k := 13) (x := "script") (CX := fun _ => L2.CX0) rfl (by decide) rfl ⟨by decide, by decide, by decide⟩ (fun w h Y => PySem.W.km_in_of Y) ?F (fun _ _ _ _ _ h => h)
  case F =>
    intro w mg fa h Y KX G hmg
    refine' Wood.all_mk KX G hmg ?tc ?tp ?hC ?h11 ?nP ?a_is_name ?l_is_name ?c_is_name ?k_is_name ?a_is_number ?l_is_number ?c_is_number ?k_is_number ?a_is_named_pair ?l_is_named_pair ?c_is_named_pair ?k_is_named_pair ?a_is_subject ?l_is_subject ?c_is_subject ?k_is_subject ?a_are_subjects ?l_are_subjects ?c_are_subjects ?k_are_subjects ?a_parts_in ?l_parts_in ?c_parts_in ?k_parts_in ?a_trees_in ?l_trees_in ?c_trees_in ?k_trees_in ?a_with_parts ?l_with_parts ?c_with_parts ?k_with_parts ?a_without_nobody ?l_without_nobody ?c_without_nobody ?k_without_nobody ?a_folded ?l_folded ?c_folded ?k_folded ?a_names_user ?l_names_user ?c_names_user ?k_names_user ?a_require_named_pair ?l_require_named_pair ?c_require_named_pair ?k_require_named_pair ?a_pruned ?l_pruned ?c_pruned ?k_pruned ?a_places ?l_places ?c_places ?k_places ?a_is_in ?l_is_in ?c_is_in ?k_is_in ?a__law_well ?l__law_well ?c__law_well ?k__law_well ?a__law_draw ?l__law_draw ?c__law_draw ?k__law_draw ?a__law_pick ?l__law_pick ?c__law_pick ?k__law_pick ?a__law_object ?l__law_object ?c__law_object ?k__law_object ?a__law_set ?l__law_set ?c__law_set ?k__law_set ?a__law_wood ?l__law_wood ?c__law_wood ?k__law_wood ?a__law_inner ?l__law_inner ?c__law_inner ?k__law_inner ?a__law_paths ?l__law_paths ?c__law_paths ?k__law_paths ?a__law_in ?l__law_in ?c__law_in ?k__law_in ?a__law_less ?l__law_less ?c__law_less ?k__law_less ?a__law_right ?l__law_right ?c__law_right ?k__law_right ?a_law ?l_law ?c_law ?k_law ?z_LONGEST_NAME ?z_MOST_PLACES ?z_MOST_TREES ?z_all ?z_any ?z_enumerate ?z_int ?z_isinstance ?z_len ?z_max ?z_range ?z_reversed ?z_set ?z_sorted ?z_str ?z_tuple ?z_type
    (case a_is_in => k_is)
    (case l_is_in => k_is)
    (case hC => k_is)
    (case h11 => first | rfl | kernel_rfl)
    (case a_is_name => k_is)
    (case l_is_name => k_is)
    (case c_is_name => k_is)
    (case k_is_name => k_is)
    (case a_is_number => k_is)
    (case l_is_number => k_is)
    (case c_is_number => k_is)
    (case k_is_number => k_is)
    (case a_is_named_pair => k_is)
    (case l_is_named_pair => k_is)
    (case c_is_named_pair => k_is)
    (case k_is_named_pair => k_is)
    (case a_is_subject => k_is)
    (case l_is_subject => k_is)
    (case c_is_subject => k_is)
    (case k_is_subject => k_is)
    (case a_are_subjects => k_is)
    (case l_are_subjects => k_is)
    (case c_are_subjects => k_is)
    (case k_are_subjects => k_is)
    (case a_parts_in => k_is)
    (case l_parts_in => k_is)
    (case c_parts_in => k_is)
    (case k_parts_in => k_is)
    (case a_trees_in => k_is)
    (case l_trees_in => k_is)
    (case c_trees_in => k_is)
    (case k_trees_in => k_is)
    (case a_with_parts => k_is)
    (case l_with_parts => k_is)
    (case c_with_parts => k_is)
    (case k_with_parts => k_is)
    (case a_without_nobody => k_is)
    (case l_without_nobody => k_is)
    (case c_without_nobody => k_is)
    (case k_without_nobody => k_is)
    (case a_folded => k_is)
    (case l_folded => k_is)
    (case c_folded => k_is)
    (case k_folded => k_is)
    (case a_names_user => k_is)
    (case l_names_user => k_is)
    (case c_names_user => k_is)
    (case k_names_user => k_is)
    (case a_require_named_pair => k_is)
    (case l_require_named_pair => k_is)
    (case c_require_named_pair => k_is)
    (case k_require_named_pair => k_is)
    (case a_pruned => k_is)
    (case l_pruned => k_is)
    (case c_pruned => k_is)
    (case k_pruned => k_is)
    (case a_places => k_is)
    (case l_places => k_is)
    (case c_places => k_is)
    (case k_places => k_is)
    (case c_is_in => k_is)
    (case k_is_in => k_is)
    (case a__law_well => k_is)
    (case l__law_well => k_is)
    (case c__law_well => k_is)
    (case k__law_well => k_is)
    (case a__law_draw => k_is)
    (case l__law_draw => k_is)
    (case c__law_draw => k_is)
    (case k__law_draw => k_is)
    (case a__law_pick => k_is)
    (case l__law_pick => k_is)
    (case c__law_pick => k_is)
    (case k__law_pick => k_is)
    (case a__law_object => k_is)
    (case l__law_object => k_is)
    (case c__law_object => k_is)
    (case k__law_object => k_is)
    (case a__law_set => k_is)
    (case l__law_set => k_is)
    (case c__law_set => k_is)
    (case k__law_set => k_is)
    (case a__law_wood => k_is)
    (case l__law_wood => k_is)
    (case c__law_wood => k_is)
    (case k__law_wood => k_is)
    (case a__law_inner => k_is)
    (case l__law_inner => k_is)
    (case c__law_inner => k_is)
    (case k__law_inner => k_is)
    (case a__law_paths => k_is)
    (case l__law_paths => k_is)
    (case c__law_paths => k_is)
    (case k__law_paths => k_is)
    (case a__law_in => k_is)
    (case l__law_in => k_is)
    (case c__law_in => k_is)
    (case k__law_in => k_is)
    (case a__law_less => k_is)
    (case l__law_less => k_is)
    (case c__law_less => k_is)
    (case k__law_less => k_is)
    (case a__law_right => k_is)
    (case l__law_right => k_is)
    (case c__law_right => k_is)
    (case k__law_right => k_is)
    (case a_law => k_is)
    (case l_law => k_is)
    (case c_law => k_is)
    (case k_law => k_is)
    (case z_LONGEST_NAME => k_is)
    (case z_MOST_PLACES => k_is)
    (case z_MOST_TREES => k_is)
    (case z_all => k_is)
    (case z_any => k_is)
    (case z_enumerate => k_is)
    (case z_int => k_is)
    (case z_isinstance => k_is)
    (case z_len => k_is)
    (case z_max => k_is)
    (case z_range => k_is)
    (case z_reversed => k_is)
    (case z_set => k_is)
    (case z_sorted => k_is)
    (case z_str => k_is)
    (case z_tuple => k_is)
    (case z_type => k_is)
    (case nP => first | rfl | kernel_rfl)
    (case tc => exact ⟨_, _, _, _, _, _, _, _, _, KX _ _ (by k_is), rfl, rfl, rfl, rfl, rfl, rfl, rfl, rfl, by decide⟩)
    (case tp => exact PySem.W.km_tabs_of Y _ (List.mem_singleton.mpr rfl))
